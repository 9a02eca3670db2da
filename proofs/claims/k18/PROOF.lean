import PyProof.Rows.All
import Wide.All
import Wide.FinOn
import OpenK.KLine
import OpenK.KMore
import OpenK.KDescr
import OpenK.KOwn
import OpenK.KCls
import KE.KIsAll
import KE.KRevIter
import KE.KDictList
import KE.KIsNot
import KE.KItem
import KE.KDictSum
import KE.KDictOf
import KE.KxBytes
import KE.KFromBytes
import Open.FastRun
import PySem.Challenge.RW_swornhall_k18_whole_sworn_runs
noncomputable section
theorem Nz(h:True:=by rfl):True:=h
def Nn:=Nz._auto_1
theorem Ny(h:True:=by decide):True:=h
def Nm:=Ny._auto_1
theorem Nx(h:True:=by decide+kernel):True:=h
def Nl:=Nx._auto_1
theorem Nw(h:True:=by intro _;rfl):True:=h
def lJ:=Nw._auto_1
theorem Nv(h:True:=by first|exact .inl rfl|exact .inr rfl|assumption):True:=h
def oB:=Nv._auto_1
theorem Nu(h:True:=by walk_at "bd"):True:=h
def oz:=Nu._auto_1
theorem Nt(h:True:=by walk_at "ln"):True:=h
def oy:=Nt._auto_1
theorem Nr(h:True:=by first|exact Or.inl rfl|exact Or.inr (Or.inl rfl)|exact Or.inr (Or.inr rfl)):True:=h
def zo:=Nr._auto_1
theorem Nq(h:True:=by with_unfolding_all rfl):True:=h
def Fc:=Nq._auto_1
theorem Np(h:True:=by first|exact Or.inl rfl|exact Or.inr rfl):True:=h
def Fb:=Np._auto_1
local macro_rules|`(⇑$t)=>`(autoParam $t Nn)
local macro_rules|`(↥$t)=>`(autoParam $t Nm)
local macro_rules|`(~~~$t)=>`(autoParam $t Nl)
set_option Elab.async false
set_option linter.all false
set_option compiler.extract_closed false
set_option maxHeartbeats 0
set_option maxRecDepth 100000
local macro_rules | `(tactic|nomatch $es,*)=>`(tactic|refine⟨$es,*, ?_⟩)
abbrev Fg:=PySem.W.Frag
variable {i:Nat}
abbrev aR:=@List.getElem?_map
abbrev aV:=@List.length_map
abbrev ce:=@Option.map_eq_some_iff
abbrev bT:=@List.mem_of_getElem?
abbrev bu:=@List.mem_singleton
abbrev bM:=@List.size_toArray
abbrev bC:=@List.mem_append
abbrev dF:=@List.getElem?_eq_some_iff
abbrev bw:=@List.map_cons
abbrev bB:=@List.mem_map
abbrev NP:=@List.mem_cons
abbrev NQ:=@List.getElem?_eq_getElem
abbrev NR:=@if_neg
abbrev NS:=@Bool.and_eq_true
abbrev NT:=@List.not_mem_nil
abbrev NU:=@if_pos
abbrev NV:=@Nat.le_refl
abbrev NW:=@List.mem_cons_self
abbrev NY:=@decide_eq_true_eq
abbrev NZ:=@List.mem_cons_of_mem
abbrev N0:=@decide_eq_true
abbrev N1:=@Nat.lt_of_lt_of_le
abbrev N2:=@List.getD_eq_getElem?_getD
abbrev N3:=@List.mem_append_right
abbrev N4:=@List.length_append
abbrev N5:=@Bool.false_ne_true
abbrev N6:=@List.take_of_length_le
abbrev N7:=@decide_eq_false
abbrev N8:=@of_decide_eq_true
abbrev N9:=@of_decide_eq_false
abbrev N_:=@List.length_cons
abbrev Oa:=@absurd
abbrev Ob:=@List.mem_append_left
abbrev Oc:=@Bool.eq_false_iff
abbrev Od:=@Nat.le_trans
abbrev Oe:=@List.map_append
abbrev Of:=@or_false
abbrev Og:=@List.nodup_cons
abbrev Oh:=@List.map_nil
abbrev Oi:=@Bool.true_and
abbrev Oj:=@Option.some.inj
abbrev Ol:=@Nat.ne_of_lt
abbrev Om:=@List.getElem_mem
abbrev On:=@List.all_eq_true
abbrev Oo:=@List.append_nil
abbrev Oq:=@Int.emod_nonneg
abbrev Ot:=@Int.emod_lt_of_pos
abbrev Ou:=@List.length_set
abbrev Ov:=@False.elim
abbrev Ow:=@List.append_assoc
abbrev Ox:=@List.map_map
abbrev Oy:=@List.replicate_succ
abbrev Oz:=@List.nodup_append
abbrev OA:=@List.nodup_nil
abbrev OB:=@List.length_take
abbrev OC:=@List.any_cons
abbrev OD:=@Bool.and_true
abbrev OE:=@List.take_add_one
abbrev OF:=@Nat.zero_le
abbrev OG:=@List.range_succ
abbrev OH:=@True.intro
abbrev OI:=@List.mem_filterMap
abbrev OJ:=@Bool.eq_iff_iff
abbrev OK:=@beq_eq_false_iff_ne
abbrev OL:=@List.getElem?_range
abbrev OM:=@Function.comp_apply
abbrev ON:=@List.all_map
abbrev OO:=@List.all_cons
abbrev OP:=@List.filterMap_cons
abbrev OQ:=@List.filter_cons
abbrev OR:=@beq_iff_eq
abbrev OS:=@List.lookup_cons
abbrev OT:=@List.getElem?_append_left
abbrev OU:=@List.length_range
abbrev OV:=@Bool.false_and
abbrev OW:=@Bool.and_false
abbrev OX:=@Nat.lt_irrefl
abbrev OY:=@List.mem_filter
abbrev OZ:=@not_or
abbrev O0:=@List.drop_eq_getElem_cons
abbrev O1:=@Classical.byContradiction
abbrev O2:=@List.mem_flatMap
abbrev O3:=@List.getElem?_replicate
abbrev O4:=@List.all_nil
abbrev O5:=@List.length_replicate
abbrev O6:=@Nat.lt_of_le_of_lt
abbrev O7:=@Nat.le_of_lt
abbrev O8:=@Nat.succ_le_succ
abbrev O9:=@Nat.lt_succ_self
abbrev O_:=@List.length_drop
abbrev Pa:=@List.eq_nil_of_length_eq_zero
abbrev Pb:=@List.getElem?_append_right
section
open PySem PySem.Spec PySem.Calls PyProof.Rows PySem.W
abbrev Pc:=@wpAny_bind
abbrev Pd:=@Heap.get?_push_of_some
abbrev Pe:=@Heap.lt_size
abbrev Pf:=@wpAny_pure
abbrev Pg:=@mg_of
abbrev Ph:=@Heap.get?_push_size
abbrev Pi:=@wpAny_mono
abbrev Pj:=@wpAny_truthy_bool
abbrev Pk:=@PySem.F.plainAttrs_list
abbrev Pl:=@PySem.mem_of_lookup
abbrev Pm:=@PySem.W.kia_one
abbrev Pn:=@mg_none_of
abbrev Po:=@Heap.get?_update_other
abbrev Pp:=@wpAny_Call_Name_kw
abbrev Pq:=@wpAny_passesOwn
abbrev Pr:=@wpAny_newObj_type
abbrev Ps:=@wpAny_execs_nil
abbrev Pt:=@tupleKind_room_in1
abbrev Pu:=@wpAny_field
abbrev Pw:=@wpAny_holding
abbrev Px:=@codeAny_mono
end
abbrev QS:=List Int
abbrev QT:=List QS
abbrev QU:=List QT
section
open PySem
abbrev QW:=List Addr
abbrev QX:=List (Addr×Obj)
end
local macro_rules | `(tactic|push_cast at $h:ident)=>`(tactic|simp only [NP,NT,Of]at $h:ident)
namespace L2
open PySem PySem.Spec PySem.Calls PyProof.Rows PySem.W
abbrev fS:List Value:=[.type "ValueError",.type "Exception",.type "BaseException",.type "object"]
def du (s:Stmt)(j:Nat):Stmt:=match s with
 |.ClassDef _ _ _ body _ _ _ _ _ _ _=>body.getD j (.Pass ⟨0,0,0,0⟩)|_=>.Pass ⟨0,0,0,0⟩
def jL (s:Stmt):Arguments:=match s with
 |.FunctionDef _ a _ _ _ _ _ _ _ _=>a|_=>{posonlyargs:=[],args:=[],vararg:=none,kwonlyargs:=[],kw_defaults:=[],kwarg:=none,defaults:=[]}
def gI (s:Stmt):List Stmt:=match s with
 |.FunctionDef _ _ b _ _ _ _ _ _ _=>b|_=>[]
def aK (s:Stmt):Scope:=match s with
 |.FunctionDef _ _ _ _ _ _ sc _ _ _=>sc|_=>{kind:=.function,names:=[],isGenerator:=false,isCoroutine:=false}
def Be (as:QW)(h:Heap):Fg:=as.filterMap λa=>(h.get? a).map λo=>(a,o)
theorem BY (h:Heap):∀ as:QW,(Be as h).In h
 |[]=>λa o e=>by cases e
 |b::as=>λa o e=>by
  have ih:=BY h as;unfold Be at e;rw[OP]at e;cases hb:h.get? b with
  |none=>rw[hb]at e;exact ih a o e
  |some ob=>
   rw[hb]at e;simp only[Option.map_some]at e;rw[OS]at e;by_cases z:(a==b)=true
   ·rw[z]at e;cases e;rw[eq_of_beq z];exact hb
   ·rw[Bool.not_eq_true]at z;rw[z]at e;exact ih a o e
abbrev oG:=Str×Str×Arguments×FuncBody×Scope×Addr×List (Str×Addr)×Value×Addr
def vB (name qual:Str)(params:Arguments)(body:List Stmt)(scope:Scope):oG:=(name,qual,params,.stmts body,scope,mainGlobals,[],.none,builtinsNs)
noncomputable def aX (K:Fg) (a:Addr):Option oG:=match K.lookup a with
 |some ⟨_,_,.func f,_⟩=>some (f.name,f.qualname,f.params,f.body,f.scope,f.globals,f.closure,f.defaults,f.builtins)|_=>none
noncomputable def aW (K:Fg) (a:Addr) (q:Str):Bool:=match K.lookup a with
 |some ⟨_,_,.func f,_⟩=>codeIn K f.code q&&keepIn K (.ref a)|_=>false
noncomputable def mj (K:Fg) (C:Addr) (bm:List Value) (newId:String):Bool:=match K.lookup C with
 |some ⟨cl,_,.cls c,sl⟩=>cl==.type "type"&&c.mro==.ref C::bm&&!c.hasDel&&(match sl.toList with
  |[_,_,_,_,some v,_]=>v==.builtin newId|_=>false)
 |_=>false
noncomputable def nS (K:Fg) (a:Addr) (vs:List Value):Bool:=match K.lookup a with
 |some ⟨cl,_,.seq xs _,_⟩=>cl==.type "tuple"&&xs.toList==vs|_=>false
def rW {β:Type}(as:QW)(see:Fg->β)(due:β):Hook:=
 ⟨β,λs=>see (Be as s.heap),λ_=>due,λ_ h=>∃ K:Fg,K.In h/\see K=due,λ_ s e=>⟨_,BY _ _,e⟩,λ_ _ _ ⟨K,x,e⟩ k=>⟨K,x.keeps k,e⟩⟩
end L2
structure PySem.W.Fast:Prop where(tw10597807378750978425 tw2735676544050842155 tw4152662677362188072 tw11006021990364947748 tw7849244865655595692 tw3328067939808339860 tw14236060913039878844 tw11189900033337103524 tw7247542151567690919 tw2953849737213483309 tw2638303544238619065 tw9772940636565320345 tw16383997611414942977 tw708223850387485099 tw17982380487861930323 tw12642378655388116713 tw12554237248943706253 tw16848009539852027453 tw14779027638048715794 tw16629689841977539773 tw9638576280150140354 tw13664239956270361205 tw11203831840757683492 tw11685593162863311208 tw12230566261093017069 tw14448332435914278908 tw1102777582427180783 tw11080065666322570864 tw9894027871966940074 tw17627436923909450517 tw3585183158246749811 tw1720797235442314148 tw13221714218433533674 tw6647817852713203258 tw17450940190994477372 tw13508620404124972901 tw5193632340108562511 tw14599368409704274812 tw738798830230222740 tw13705553289133641378 tw12121401121360618611 tw18358087324874660202 tw10250450178208082058 tw9396015694810313275 tw2076350946937071239 tw4998337648118943051 tw2379312561909467720 tw912479507282160546 tw3683358150251573827 tw12617071698465101959 tw15391433700107344798 tw2048154922584986707 tw1577806422988394008 tw6373885734938470483 tw1346743084161345735 tw2476835781530563032 tw9068990453964210197 tw755501439590791046 tw11665636065109641398 tw12932384389935184915 tw3267438619775215351 tw8402715047154069037 tw14757201541911497401 tw1437277960568700751 tw11721619066576389788 tw15922572748743554603 tw17706739017886365405 tw2838017019433005588 tw10250998564231481684 tw7517312782473042796 tw274452462191582247 tw2580568023160172228 tw7315640977164312658 tw15670766662269959585 tw12395558205599092203 tw3079297945187571489 tw7971343304453979492 tw15468991896873719767 tw9792550010319286421 tw8570090583332768476 tw5577489139230816137 tw5741484057561543365 tw5734023908264125183 tw1342500167988395392 tw12835303629805276107 tw8787070508269675547 tw17734579703951859178 tw12606919753573961852 tw9224946102201453622 tw6680982612867766114 tw13762674693244102327 tw12726751725358291809 tw3590274606567498312 tw2731984374427323379 tw14913657273993644791 tw10081153534889928553 tw11551416049512301131 tw13547581032390985317 tw7725307859317572141 tw2339612147370442520 tw5697765965146072629 tw6668196354852930830 tw11971742523963462691 tw11745588957837691154 tw8001401987443433129 tw15322771666583396839 tw10498400950423186447 tw2001490189858861320 tw12103850397223318312 tw16243350732920013332 tw15772669464793026489 tw793876522063233251 tw2209484792384450669 tw3095093109778202249 tw1176760629046464632 tw10838363587723161599 tw8774639296182285763 tw6196943649209898286 tw10131239554067669736 tw7867881097918210280 tw10303089176652252260 tw8316495789514853324 tw7982157367622510242 tw14627776298798859109 tw14424232060359473088 tw14250497046633447352 tw13481493812682735641 tw4926064874173439321 tw13166442056358359022 tw12064963895917128392 tw2483634100805017315 tw10424271502100357930 tw14145149427926737483 tw12803414538119327346 tw6614614740711331644 tw2489227279396421862 tw16623501735085287493 tw16023023210560364103 tw11347879348186228639 tw11197914700531172302 tw10415958614138257289 tw10215996361634937184 tw12818672201376116615 tw3699051765794429279 tw14561454308329512233 tw9192486449866235943 tw8353288418659905798 tw8335884977840974538 tw8107907765392874066 tw7786137206509868874 tw7667559153847323022 tw7272726156338007757 tw540493794570214740 tw5276922316326765258 tw5138286025348599783 tw4779529569561624743 tw2930462756574286617 tw16431917009523403487 tw1503259328436059117 tw14368843779271582575 tw14090935779822001312 tw13882615998084159894 tw13490731042689911299 tw13016898462850740174 tw16626797771015268500 tw17267914728460285573 tw16713048536275159913 tw13095271217370291002 tw14424802573945050195 tw4292443772620423683 tw916938058669007360 tw12470105878432337854 tw1802747802286491638 tw15607549663791417919 tw6733086457713642229 tw5207408815200175892 tw10538408934295085125 tw3778909599726059807 tw17306137629817399825 tw11842340802835859594 tw9374143027544846827 tw6810425685360172242 tw12236091278175354566 tw11042788119767664338 tw10331792365686352379 tw6788205994908094205 tw5966539969425832682 tw16016315181975380148 tw11997184000897236235 tw8672780081502281546 tw1969877923376930853 tw12721530835523214122 tw11051919889461133252 tw1091794261726409165 tw6103026083769769649 tw17538154134353638917 tw5209199203004762843 tw6428656984098943847 tw7121127820372182945 tw6487381141041217811 tw16989507676658161668 tw6864173515886227297 tw9068216941066132896 tw10392624445996399489 tw11663213228640317277 tw12354623171036262584 tw6784698216734220711 tw18000280596316384747 tw4593438277857509049 tw11194687877638109362 tw3897816498295042009 tw8424589265341868223 tw7147960306495938541 tw4415845943955873938 tw14913149678747926198 tw13492462066847687220 tw13634375825673033058 tw3399864931525482610 tw5916485081341094767 tw5200084408109570875 tw15852323639442588128 tw13336892785326010664 tw15993451508756112056 tw10334975452336128605 tw2831522372613627601 tw8035122177526647757 tw12237826808512492938 tw10375116489992069029 tw14970222692724916437 tw2517330120658216223 tw6642125214675632052 tw10392678421092600285 tw10312151690931746518 tw8233810284547781281 tw1374265959177553419 tw11227866187687250904 tw5888352368364569374 tw7084577396494532705 tw2209660103105457745 tw12244749008910292193 tw6801575611056118838 tw8163695853042492740 tw11691804913995146174 tw33675743708610586 tw18335018616618564023 tw3431633121656578514 tw5939022982141784224 tw3779548869431406758 tw16084125703805081973 tw7879829915625670124 tw5178835425144738629 tw5901501073701428842 tw13261441540963329396 tw400869796822745196 tw1625851761672123705 tw1417682452359413099 tw13934092487373943925 tw4948819341552907866 tw5886625412111325857 tw10926009862818782937 tw11068799979442509811 tw1966330155077399692 tw13479551554096507774 tw14657365370588676618 tw13887304906451745885 tw2208901969297564564 tw9620752818981171314 tw9216344488918163942 tw13657558232512707060 tw16446323065188036387 tw5450146175931623636 tw5315724794920359548 tw16884903698087564128 tw8922014097557516875 tw1073698609663752413 tw16653930585044302613 tw4107464782345312754 tw6260743887983231743 tw12454097061596012272 tw5969532045402529531 tw10636527281038895582 tw4016927790947350278 tw4165431033620710161 tw10801087085195510511 tw8238862056953639965 tw14847764736595416408 tw7250281797154627114 tw13248721656804888864 tw14065113317143333876 tw2907331142149249491 tw11830886881120057496 tw5541708671736122731 tw14467773654185501487 tw2788928720107538554 tw2688597054519177857 tw7711147027883978928 tw5201568103293601790 tw11438491649405728522 tw4232559986833591397 tw11451706866154900728 tw10265352199529478861 tw9354083385949154511 tw12491822697316218662 tw417544516246006155 tw11990049685510227397 tw18034171780075080448 tw11988714542433944672 tw2988959433807454307 tw6680246344040009150 tw3898104298743971492 tw3636699790065583466 tw7095070531791173866 tw6271526220897080735 tw18242895352454373754 tw6705284493200524961 tw2460070265770366240 tw2328188717951498731 tw17541592158424217839 tw2920188257414833122 tw16315704161213465446 tw18430601036254471286 tw16369807101845855958 tw13739238802976622496 tw2526838471341521577 tw8698234660321931103 tw14948144119300674625 tw9212726637986097150 tw1230598763338589883 tw6248331240068213370 tw16998679546518282592 tw5561835116355731265 tw9005508855362408341 tw1113039625226357073 tw3721628122206948161 tw15715293747858395514 tw729766102669045576 tw4457783709775537682 tw15915279562995618687 tw6074857989392374233 tw15961016027714157643 tw1974704474375194088 tw17336387904367649730 tw7370446189289530689 tw702628544900711879 tw7448218767235630991 tw804124411886552484 tw8540973779145724184 tw2941369988104206899 tw8871881800471320413 tw14336089348088351079 tw16116268299059006287 tw3895376997727852612 tw5574945825915415248 tw12511380049005007624 tw6720615536016252269 tw8636616109597109557 tw11984733201716137355 tw4475173531621235830 tw9056490141957466214 tw8794043276924016456 tw4878548702101836604 tw15614189059835815808 tw9679266661436561335 tw11405053661332011225 tw10274636295027700290 tw6380322452930083666 tw11435037935372542442 tw10764957010491316492 tw9186302011554653770 tw18241963859456638474 tw2652317699395555424 tw7252515916226401568 tw773980365449406410 tw16463542242901227622 tw2733342759771136133 tw2297286333567602073 tw5438436392923412919 tw5706930160058586029 tw17703563395430945903 tw1624729168454489021 tw370816493086921256 tw15133932286506236093 tw3271407234771600577 tw7201593430397214107 tw6806968250579018392 tw15773064783110320728 tw18178564409015036834 tw15184093834311687575 tw13079362531272588744 tw11429806957014747995 tw13842592303281386466 tw15805051358120968910 tw7714197673365353570 tw4478864883052583165 tw9864099842427032303 tw3792463466763973564 tw781112257142133986 tw14471184895202104837 tw18033187170470667860 tw13515651508855757452 tw9106133789379052731 tw841443869369990879 tw4902083490324602096 tw17344722142559397279 tw13334727003342378831 tw4492945539469878182 tw11922866285025371876 tw15643290421517463474 tw9813641654374183111 tw11462678681187607122 tw14075574146068873654 tw15640029309181496643 tw13878677804335444479 tw17591258478092209993 tw15653339345873015579 tw11859035595529431524 tw12442151633084060415 tw10268373131985171877 tw16990239536195869914 tw14589857686902921436 tw10620141025437792525 tw17488933418385275616 tw2089585329594999705 tw3154391472258471098 tw12671143826066638082 tw7666767383153148539 tw11340384177978919868 tw2708036247193583372 tw14363357139780019105 tw7929287691527927198 tw322970539370849465 tw9899242129714658305 tw15706862296452100562 tw1336836407142414771 tw7057792137453127777 tw11315889785194509856 tw7886297214944410298 tw1374809917478469207 tw1031358704201277654 tw12947189612364120706 tw2194462667859899535 tw12492743925553138306 tw17437087077734660271 tw14094475689129039237 tw2175896669058465971 tw12676685460029754494 tw12051527786130745050 tw16691481451475320724 tw12379128350016706399 tw14581795192255400804 tw3539167000141708755 tw9928143875088347526 tw3754495468171068316 tw5189064990087337758 tw11000551609681030588 tw10565513305736143113 tw3747396123549228387 tw3793421289437297047 tw1598006085704210732 tw1158853260240848342 tw7239935834775733711 tw5494155760608646626 tw17758116713957509969 tw12248060037479303603 tw8781285169626975466 tw15333076919500401861 tw16150124992733932302 tw15232196701370903531 tw483564286820808140 tw1143640836218030586 tw11548846728196400490 tw6751525386531030326 tw1610154522035796824 tw15099898835690403640 tw5410394972866129714 tw17722247955127329652 tw18080889034775495308 tw4677888873909215563 tw7265837691601359267 tw16978459460506138197 tw15104438589838576914 tw2887403129345555823 tw13027491544641906353 tw10833884976056847292 tw13655678932097174948 tw8029356179628595228 tw11539568406116959889 tw1513316884924828468 tw5396945031074032072 tw9572358020530943841 tw9574224348360687284 tw11460498669597844542 tw15772674656166870751 tw2690662241547976307:True)
namespace My
open PySem L2 PyProof.Rows
noncomputable def top (i:Nat):Stmt:=PySem.Challenge.pw_swornhall_k18_whole_sworn_runs.main.body.getD i (.Pass ⟨0,0,0,0⟩)
abbrev wc:Stmt:=top 10
abbrev wA:Stmt:=top 11
abbrev vN:Stmt:=top 12
abbrev wQ:Stmt:=top 13
abbrev wO:Stmt:=top 14
abbrev y8:Stmt:=du (top 17) 0
abbrev zg:Stmt:=du (top 17) 1
abbrev yO:Stmt:=du (top 18) 0
abbrev wN:Stmt:=du (top 18) 1
abbrev xF:Stmt:=du (top 18) 4
abbrev xq:Stmt:=du (top 18) 5
abbrev xE:Stmt:=du (top 18) 6
abbrev xD:Stmt:=du (top 18) 7
abbrev xC:Stmt:=du (top 18) 8
abbrev xU:Stmt:=du (top 18) 9
abbrev yR:Stmt:=du (top 18) 10
abbrev zi:Stmt:=du (top 18) 11
abbrev yZ:Stmt:=du (top 18) 12
abbrev xT:Stmt:=du (top 18) 13
abbrev xB:Stmt:=du (top 18) 14
abbrev yN:Stmt:=du (top 18) 15
abbrev xS:Stmt:=du (top 18) 16
abbrev yQ:Stmt:=top 19
abbrev zf:Stmt:=top 20
abbrev yY:Stmt:=du (top 31) 0
abbrev yM:Stmt:=top 32
abbrev yP:Stmt:=top 33
abbrev yL:Stmt:=top 34
abbrev uC:Stmt:=top 35
abbrev wz:Stmt:=top 36
abbrev yw:Stmt:=top 37
abbrev yl:Stmt:=top 38
abbrev yk:Stmt:=top 39
abbrev yj:Stmt:=top 40
abbrev yv:Stmt:=top 41
abbrev yu:Stmt:=top 42
abbrev yi:Stmt:=top 43
abbrev yt:Stmt:=top 44
abbrev yT:Stmt:=top 45
abbrev yr:Stmt:=top 46
abbrev yK:Stmt:=top 47
abbrev xp:Stmt:=top 48
abbrev wM:Stmt:=top 49
abbrev wL:Stmt:=top 56
abbrev yJ:Stmt:=top 57
abbrev yh:Stmt:=top 58
abbrev yg:Stmt:=top 59
abbrev yf:Stmt:=top 60
abbrev ye:Stmt:=top 61
abbrev yd:Stmt:=top 62
abbrev xR:Stmt:=top 63
abbrev yq:Stmt:=top 64
abbrev yp:Stmt:=top 65
abbrev xA:Stmt:=top 66
abbrev wy:Stmt:=top 67
abbrev wK:Stmt:=top 68
abbrev yV:Stmt:=top 69
abbrev ze:Stmt:=du (top 71) 0
abbrev xy:Stmt:=du (top 71) 1
abbrev zd:Stmt:=du (top 71) 3
abbrev yc:Stmt:=du (top 71) 4
abbrev xQ:Stmt:=du (top 71) 6
abbrev xP:Stmt:=du (top 71) 7
abbrev yo:Stmt:=du (top 71) 8
abbrev yn:Stmt:=du (top 71) 9
abbrev yS:Stmt:=du (top 71) 10
abbrev yX:Stmt:=du (top 71) 11
abbrev yW:Stmt:=du (top 71) 12
abbrev yI:Stmt:=du (top 71) 13
abbrev zk:Stmt:=du (top 71) 14
abbrev xO:Stmt:=top 72
abbrev ya:Stmt:=top 74
abbrev wx:Stmt:=top 75
abbrev xx:Stmt:=top 76
abbrev wJ:Stmt:=top 77
abbrev xo:Stmt:=top 78
abbrev xn:Stmt:=top 79
abbrev wI:Stmt:=top 80
abbrev yH:Stmt:=top 81
abbrev yG:Stmt:=top 82
abbrev zc:Stmt:=top 83
abbrev yz:Stmt:=top 84
abbrev yF:Stmt:=top 85
abbrev xm:Stmt:=top 86
abbrev wH:Stmt:=top 87
abbrev lZ:Stmt:=top 88
section
open PySem PySem.Spec PySem.Calls PyProof.Rows PySem.W L2
def HU (p:Program)(ks:List Nat):Program:={p with main:={p.main with body:=ks.filterMap λi=>p.main.body[i]?}}
noncomputable def Qv:Program:=HU PySem.Challenge.rw_swornhall_k18_whole_sworn_runs.row.toRowW.prog [0,2,3,4,5,6,8,9,10,11,12,13,14,16,17,18,19,20,22,23,24,25,26,27,28,29,30,31,32,33,34,35,36,37,38,39,40,41,42,43,44,45,46,47,48,49,51,52,53,54,55,56,57,58,59,60,61,62,63,64,65,66,67,68,69,71,72,74,75,76,77,78,79,80,81,82,83,84,85,86,87,88]
abbrev nI (K:Fg)(s:Str)(n:Addr):Bool:=PySem.W.nsIn K mainGlobals s==some (some (.ref n))
abbrev fI (K:Fg)(c:Addr)(s:Str)(n:Addr):Bool:=PySem.W.findIn K (.ref c) s==some (some (.ref n))
abbrev gS (n q:Str)(d:Stmt):Option L2.oG:=some (L2.vB n q (jL d) (gI d) (aK d))
noncomputable def zm (K:Fg):List Bool:=[nI K "HallError" 31,
 nI K "BadSheet" 44,
 nI K "NoCraft" 56,
 nI K "Unmet" 68,
 nI K "Unfit" 80,
 nI K "Frame" 137,
 nI K "Run" 270,
 nI K "Craft" 306,
 nI K "Hall" 618,
 nI K "copied_lines" 315,
 L2.aW K 315 "copied_lines",
 nI K "copied_deed" 320,
 L2.aW K 320 "copied_deed",
 fI K 306 "__init__" 303,
 PySem.W.isFn K (.ref 303),
 L2.aW K 303 "Craft.__init__",
 nI K "worth" 89,
 L2.aW K 89 "worth",
 nI K "holds" 96,
 L2.aW K 96 "holds",
 nI K "bare" 101,
 L2.aW K 101 "bare",
 nI K "summed" 106,
 L2.aW K 106 "summed",
 nI K "turned" 113,
 L2.aW K 113 "turned",
 fI K 137 "__init__" 127,
 PySem.W.isFn K (.ref 127),
 L2.aW K 127 "Frame.__init__",
 fI K 137 "numbers" 134,
 PySem.W.isFn K (.ref 134),
 L2.aW K 134 "Frame.numbers",
 fI K 618 "standing" 542,
 PySem.W.isFn K (.ref 542),
 L2.aW K 542 "Hall.standing",
 nI K "copied_craft" 327,
 L2.aW K 327 "copied_craft",
 fI K 618 "crafts" 549,
 PySem.W.isFn K (.ref 549),
 L2.aW K 549 "Hall.crafts",
 fI K 270 "craft_of" 260,
 PySem.W.isFn K (.ref 260),
 L2.aW K 260 "Run.craft_of",
 fI K 270 "is_behind_last_deed" 232,
 PySem.W.isFn K (.ref 232),
 L2.aW K 232 "Run.is_behind_last_deed",
 nI K "first_unmet" 281,
 L2.aW K 281 "first_unmet",
 fI K 270 "meets" 267,
 PySem.W.isFn K (.ref 267),
 L2.aW K 267 "Run.meets",
 fI K 270 "take" 253,
 PySem.W.isFn K (.ref 253),
 L2.aW K 253 "Run.take",
 fI K 270 "leave" 246,
 PySem.W.isFn K (.ref 246),
 L2.aW K 246 "Run.leave",
 fI K 270 "meet_notes" 239,
 PySem.W.isFn K (.ref 239),
 L2.aW K 239 "Run.meet_notes",
 fI K 270 "come_to" 225,
 PySem.W.isFn K (.ref 225),
 L2.aW K 225 "Run.come_to",
 fI K 270 "begin" 218,
 PySem.W.isFn K (.ref 218),
 L2.aW K 218 "Run.begin",
 nI K "asked_numbers" 288,
 L2.aW K 288 "asked_numbers",
 fI K 270 "__init__" 155,
 PySem.W.isFn K (.ref 155),
 L2.aW K 155 "Run.__init__",
 fI K 270 "put" 190,
 PySem.W.isFn K (.ref 190),
 L2.aW K 190 "Run.put",
 fI K 270 "draw" 197,
 PySem.W.isFn K (.ref 197),
 L2.aW K 197 "Run.draw",
 fI K 270 "hold" 204,
 PySem.W.isFn K (.ref 204),
 L2.aW K 204 "Run.hold",
 fI K 270 "call" 211,
 PySem.W.isFn K (.ref 211),
 L2.aW K 211 "Run.call",
 fI K 270 "step" 183,
 PySem.W.isFn K (.ref 183),
 L2.aW K 183 "Run.step",
 fI K 270 "go" 162,
 PySem.W.isFn K (.ref 162),
 L2.aW K 162 "Run.go",
 nI K "called_by" 332,
 L2.aW K 332 "called_by",
 nI K "between" 413,
 L2.aW K 413 "between",
 nI K "small_enough" 406,
 L2.aW K 406 "small_enough",
 nI K "line_right" 366,
 L2.aW K 366 "line_right",
 nI K "lines_right" 361,
 L2.aW K 361 "lines_right",
 nI K "oath_right" 346,
 L2.aW K 346 "oath_right",
 nI K "hand_right" 399,
 L2.aW K 399 "hand_right",
 nI K "two_hands_right" 392,
 L2.aW K 392 "two_hands_right",
 nI K "call_right" 387,
 L2.aW K 387 "call_right",
 nI K "range_right" 380,
 L2.aW K 380 "range_right",
 nI K "deed_right" 373,
 L2.aW K 373 "deed_right",
 nI K "deeds_right" 351,
 L2.aW K 351 "deeds_right",
 nI K "notes_right" 356,
 L2.aW K 356 "notes_right",
 nI K "right" 339,
 L2.aW K 339 "right",
 nI K "due_at" 418,
 L2.aW K 418 "due_at",
 nI K "eight_with" 483,
 L2.aW K 483 "eight_with",
 nI K "each_from" 473,
 L2.aW K 473 "each_from",
 nI K "all_turned" 478,
 L2.aW K 478 "all_turned",
 nI K "constant" 490,
 L2.aW K 490 "constant",
 nI K "first_duties" 433,
 L2.aW K 433 "first_duties",
 nI K "call_duties" 468,
 L2.aW K 468 "call_duties",
 nI K "part_duties" 447,
 L2.aW K 447 "part_duties",
 nI K "draw_duties" 454,
 L2.aW K 454 "draw_duties",
 nI K "turn_duties" 461,
 L2.aW K 461 "turn_duties",
 nI K "deed_duties" 440,
 L2.aW K 440 "deed_duties",
 nI K "duties" 426,
 L2.aW K 426 "duties",
 nI K "shows" 495,
 L2.aW K 495 "shows",
 nI K "noughts_and_ones" 507,
 L2.aW K 507 "noughts_and_ones",
 nI K "sought" 502,
 L2.aW K 502 "sought",
 fI K 618 "__init__" 521]
noncomputable def zl (K:Fg):List Bool:=[PySem.W.isFn K (.ref 521),
 L2.aW K 521 "Hall.__init__",
 fI K 618 "release" 608,
 PySem.W.isFn K (.ref 608),
 L2.aW K 608 "Hall.release",
 fI K 618 "called_at" 601,
 PySem.W.isFn K (.ref 601),
 L2.aW K 601 "Hall.called_at",
 fI K 618 "release_callers" 615,
 PySem.W.isFn K (.ref 615),
 L2.aW K 615 "Hall.release_callers",
 nI K "same_oath" 629,
 L2.aW K 629 "same_oath",
 fI K 618 "lay" 528,
 PySem.W.isFn K (.ref 528),
 L2.aW K 528 "Hall.lay",
 fI K 618 "must_stand" 587,
 PySem.W.isFn K (.ref 587),
 L2.aW K 587 "Hall.must_stand",
 fI K 618 "duties_at" 594,
 PySem.W.isFn K (.ref 594),
 L2.aW K 594 "Hall.duties_at",
 fI K 618 "seek" 561,
 PySem.W.isFn K (.ref 561),
 L2.aW K 561 "Hall.seek",
 fI K 618 "held" 568,
 PySem.W.isFn K (.ref 568),
 L2.aW K 568 "Hall.held",
 fI K 618 "reach" 575,
 PySem.W.isFn K (.ref 575),
 L2.aW K 575 "Hall.reach",
 fI K 618 "sworn" 580,
 PySem.W.isFn K (.ref 580),
 L2.aW K 580 "Hall.sworn",
 nI K "_law_mix" 643,
 L2.aW K 643 "_law_mix",
 nI K "_law_cell_at" 636,
 L2.aW K 636 "_law_cell_at",
 nI K "_law_number" 650,
 L2.aW K 650 "_law_number",
 nI K "_law_free" 674,
 L2.aW K 674 "_law_free",
 nI K "_law_other_deed" 681,
 L2.aW K 681 "_law_other_deed",
 nI K "_law_second_deed" 695,
 L2.aW K 695 "_law_second_deed",
 nI K "_law_first_deed" 688,
 L2.aW K 688 "_law_first_deed",
 nI K "_law_bare" 655,
 L2.aW K 655 "_law_bare",
 nI K "_law_sworn_parts" 700,
 L2.aW K 700 "_law_sworn_parts",
 nI K "_law_hall_parts" 705,
 L2.aW K 705 "_law_hall_parts",
 nI K "_law_unfit" 712,
 L2.aW K 712 "_law_unfit",
 nI K "_law_whole" 669,
 L2.aW K 669 "_law_whole",
 nI K "_law_worth" 662,
 L2.aW K 662 "_law_worth",
 nI K "_law_fair" 717,
 L2.aW K 717 "_law_fair",
 nI K "law" 722,
 L2.aW K 722 "law",
 PySem.W.nsIn K mainGlobals "all"==some none,
 PySem.W.nsIn K mainGlobals "any"==some none,
 PySem.W.nsIn K mainGlobals "bool"==some none,
 PySem.W.nsIn K mainGlobals "enumerate"==some none,
 PySem.W.nsIn K mainGlobals "int"==some none,
 PySem.W.nsIn K mainGlobals "isinstance"==some none,
 PySem.W.nsIn K mainGlobals "len"==some none,
 PySem.W.nsIn K mainGlobals "list"==some none,
 PySem.W.nsIn K mainGlobals "max"==some none,
 PySem.W.nsIn K mainGlobals "min"==some none,
 PySem.W.nsIn K mainGlobals "range"==some none,
 PySem.W.nsIn K mainGlobals "sorted"==some none,
 PySem.W.nsIn K mainGlobals "tuple"==some none,
 PySem.W.nsIn K mainGlobals "zip"==some none,
 PySem.W.nsIn K mainGlobals "NUMBERS"==some (some (.int 9 280)),
 PySem.W.nsIn K mainGlobals "FACTORS"==some (some (.int 8 282)),
 PySem.W.nsIn K mainGlobals "MOST_FRAMES"==some (some (.int 20 326)),
 nI K "HAND_SPOTS" 289,
 L2.nS K 289 [(.int 1 568),(.int 2 569),(.int 3 570),(.int 4 571)],
 nI K "LEFT_SPOTS" 290,
 L2.nS K 290 [(.int 7 573),(.int 8 574)],
 nI K "LEFT_AS_HANDS" 291,
 L2.nS K 291 [(.int 0 576),(.int 1 577),(.int 2 578),(.int 3 579),(.int 4 580),(.int 5 581),(.int 0 582),(.int 1 583)],
 PySem.W.nsIn K mainGlobals "MOST_LINES"==some (some (.int 2 585)),
 PySem.W.nsIn K mainGlobals "MOST_DEEDS"==some (some (.int 8 587)),
 PySem.W.nsIn K mainGlobals "LAST_HAND"==some (some (.int 3 589)),
 PySem.W.nsIn K mainGlobals "LAST_NUMBER"==some (some (.int 99 591)),
 PySem.W.nsIn K mainGlobals "GREATEST_BY"==some (some (.int 1000 593)),
 PySem.W.nsIn K mainGlobals "GREATEST"==some (some (.int 1000000000 595)),
 PySem.W.nsIn K mainGlobals "ASKED_0"==some (some (.int 4 755)),
 PySem.W.nsIn K mainGlobals "ASKED_1"==some (some (.int 5 757)),
 PySem.W.nsIn K mainGlobals "NEW_0"==some (some (.int 6 759)),
 PySem.W.nsIn K mainGlobals "NEW_1"==some (some (.int 7 761)),
 nI K "WHOLES" 419,
 L2.nS K 419 [(.int 1 763),(.int 2 764),(.int 3 765),(.int 4 766)],
 L2.mj K 31 fS "ValueError.__new__",
 PySem.W.excIn K 31 fS "ValueError.__new__",
 L2.mj K 44 (.ref 31::fS) "ValueError.__new__",
 PySem.W.excIn K 44 fS "ValueError.__new__",
 L2.mj K 56 (.ref 31::fS) "ValueError.__new__",
 PySem.W.excIn K 56 fS "ValueError.__new__",
 L2.mj K 68 (.ref 31::fS) "ValueError.__new__",
 PySem.W.excIn K 68 fS "ValueError.__new__",
 L2.mj K 80 (.ref 31::fS) "ValueError.__new__",
 PySem.W.excIn K 80 fS "ValueError.__new__",
 PySem.W.plainGet K 137 Str.empty,
 PySem.W.hasDictIn K 137,
 PySem.W.plainOver K 137,
 PySem.W.findIn K (.ref 137) "__setattr__"==some (some (.builtin "object.__setattr__")),
 PySem.W.makesIn K 137,
 PySem.W.keepIn K (.ref 137),
 PySem.W.findIn K (.ref 137) "number"==some none,
 PySem.W.findIn K (.ref 137) "place"==some none,
 PySem.W.findIn K (.ref 137) "hands"==some none,
 PySem.W.findIn K (.ref 137) "asked"==some none,
 PySem.W.plainGet K 270 Str.empty,
 PySem.W.hasDictIn K 270,
 PySem.W.plainOver K 270,
 PySem.W.findIn K (.ref 270) "__setattr__"==some (some (.builtin "object.__setattr__")),
 PySem.W.makesIn K 270,
 PySem.W.keepIn K (.ref 270),
 PySem.W.findIn K (.ref 270) "known"==some none,
 PySem.W.findIn K (.ref 270) "inputs_left"==some none,
 PySem.W.findIn K (.ref 270) "stack"==some none,
 PySem.W.findIn K (.ref 270) "steps_done"==some none,
 PySem.W.findIn K (.ref 270) "ending"==some none,
 PySem.W.plainGet K 306 Str.empty,
 PySem.W.hasDictIn K 306,
 PySem.W.plainOver K 306,
 PySem.W.findIn K (.ref 306) "__setattr__"==some (some (.builtin "object.__setattr__")),
 PySem.W.makesIn K 306,
 PySem.W.keepIn K (.ref 306),
 PySem.W.findIn K (.ref 306) "needs"==some none,
 PySem.W.findIn K (.ref 306) "leaves"==some none,
 PySem.W.findIn K (.ref 306) "deeds"==some none,
 PySem.W.findIn K (.ref 306) "notes"==some none,
 PySem.W.plainGet K 618 Str.empty,
 PySem.W.hasDictIn K 618,
 PySem.W.plainOver K 618,
 PySem.W.findIn K (.ref 618) "__setattr__"==some (some (.builtin "object.__setattr__")),
 PySem.W.makesIn K 618,
 PySem.W.keepIn K (.ref 618),
 PySem.W.findIn K (.ref 618) "laid"==some none,
 PySem.W.findIn K (.ref 618) "vouched"==some none]
def fj (K:Fg):List Bool:=zm K++zl K
def gM (K:Fg):List (Option L2.oG):=[L2.aX K 315,L2.aX K 320,L2.aX K 303,L2.aX K 89,L2.aX K 96,L2.aX K 101,L2.aX K 106,L2.aX K 113,L2.aX K 127,L2.aX K 134,L2.aX K 542,L2.aX K 327,L2.aX K 549,L2.aX K 260,L2.aX K 232,L2.aX K 281,L2.aX K 267,L2.aX K 253,L2.aX K 246,L2.aX K 239,L2.aX K 225,L2.aX K 218,L2.aX K 288,L2.aX K 155,L2.aX K 190,L2.aX K 197,L2.aX K 204,L2.aX K 211,L2.aX K 183,L2.aX K 162,L2.aX K 332,L2.aX K 413,L2.aX K 406,L2.aX K 366,L2.aX K 361,L2.aX K 346,L2.aX K 399,L2.aX K 392,L2.aX K 387,L2.aX K 380,L2.aX K 373,L2.aX K 351,L2.aX K 356,L2.aX K 339,L2.aX K 418,L2.aX K 483,L2.aX K 473,L2.aX K 478,L2.aX K 490,L2.aX K 433,L2.aX K 468,L2.aX K 447,L2.aX K 454,L2.aX K 461,L2.aX K 440,L2.aX K 426,L2.aX K 495,L2.aX K 507,L2.aX K 502,L2.aX K 521,L2.aX K 608,L2.aX K 601,L2.aX K 615,L2.aX K 629,L2.aX K 528,L2.aX K 587,L2.aX K 594,L2.aX K 561,L2.aX K 568,L2.aX K 575,L2.aX K 580,L2.aX K 643,L2.aX K 636,L2.aX K 650,L2.aX K 674,L2.aX K 681,L2.aX K 695,L2.aX K 688,L2.aX K 655,L2.aX K 700,L2.aX K 705,L2.aX K 712,L2.aX K 669,L2.aX K 662,L2.aX K 717,L2.aX K 722]
def gL:List (Option L2.oG):=[gS "copied_lines" "copied_lines" yM,
 gS "copied_deed" "copied_deed" yP,
 gS "__init__" "Craft.__init__" yY,
 gS "worth" "worth" wc,
 gS "holds" "holds" wA,
 gS "bare" "bare" vN,
 gS "summed" "summed" wQ,
 gS "turned" "turned" wO,
 gS "__init__" "Frame.__init__" y8,
 gS "numbers" "Frame.numbers" zg,
 gS "standing" "Hall.standing" zd,
 gS "copied_craft" "copied_craft" yL,
 gS "crafts" "Hall.crafts" yc,
 gS "craft_of" "Run.craft_of" yN,
 gS "is_behind_last_deed" "Run.is_behind_last_deed" zi,
 gS "first_unmet" "first_unmet" yQ,
 gS "meets" "Run.meets" xS,
 gS "take" "Run.take" xB,
 gS "leave" "Run.leave" xT,
 gS "meet_notes" "Run.meet_notes" yZ,
 gS "come_to" "Run.come_to" yR,
 gS "begin" "Run.begin" xU,
 gS "asked_numbers" "asked_numbers" zf,
 gS "__init__" "Run.__init__" yO,
 gS "put" "Run.put" xq,
 gS "draw" "Run.draw" xE,
 gS "hold" "Run.hold" xD,
 gS "call" "Run.call" xC,
 gS "step" "Run.step" xF,
 gS "go" "Run.go" wN,
 gS "called_by" "called_by" uC,
 gS "between" "between" xp,
 gS "small_enough" "small_enough" yK,
 gS "line_right" "line_right" yv,
 gS "lines_right" "lines_right" yj,
 gS "oath_right" "oath_right" yw,
 gS "hand_right" "hand_right" yr,
 gS "two_hands_right" "two_hands_right" yT,
 gS "call_right" "call_right" yt,
 gS "range_right" "range_right" yi,
 gS "deed_right" "deed_right" yu,
 gS "deeds_right" "deeds_right" yl,
 gS "notes_right" "notes_right" yk,
 gS "right" "right" wz,
 gS "due_at" "due_at" wM,
 gS "eight_with" "eight_with" yp,
 gS "each_from" "each_from" xR,
 gS "all_turned" "all_turned" yq,
 gS "constant" "constant" xA,
 gS "first_duties" "first_duties" yJ,
 gS "call_duties" "call_duties" yd,
 gS "part_duties" "part_duties" yg,
 gS "draw_duties" "draw_duties" yf,
 gS "turn_duties" "turn_duties" ye,
 gS "deed_duties" "deed_duties" yh,
 gS "duties" "duties" wL,
 gS "shows" "shows" wy,
 gS "noughts_and_ones" "noughts_and_ones" yV,
 gS "sought" "sought" wK,
 gS "__init__" "Hall.__init__" ze,
 gS "release" "Hall.release" yI,
 gS "called_at" "Hall.called_at" yW,
 gS "release_callers" "Hall.release_callers" zk,
 gS "same_oath" "same_oath" xO,
 gS "lay" "Hall.lay" xy,
 gS "must_stand" "Hall.must_stand" yS,
 gS "duties_at" "Hall.duties_at" yX,
 gS "seek" "Hall.seek" xQ,
 gS "held" "Hall.held" xP,
 gS "reach" "Hall.reach" yo,
 gS "sworn" "Hall.sworn" yn,
 gS "_law_mix" "_law_mix" wx,
 gS "_law_cell_at" "_law_cell_at" ya,
 gS "_law_number" "_law_number" xx,
 gS "_law_free" "_law_free" wI,
 gS "_law_other_deed" "_law_other_deed" yH,
 gS "_law_second_deed" "_law_second_deed" zc,
 gS "_law_first_deed" "_law_first_deed" yG,
 gS "_law_bare" "_law_bare" wJ,
 gS "_law_sworn_parts" "_law_sworn_parts" yz,
 gS "_law_hall_parts" "_law_hall_parts" yF,
 gS "_law_unfit" "_law_unfit" xm,
 gS "_law_whole" "_law_whole" xn,
 gS "_law_worth" "_law_worth" xo,
 gS "_law_fair" "_law_fair" wH,
 gS "law" "law" lZ]
def HK:PySem.W.Hook:=L2.rW (List.range 723) (λK=>((fj K).all id,gM K)) (true,gL)
set_option maxRecDepth 1000000 in
set_option maxHeartbeats 0 in
theorem qf:OpenLaw.wellSaid PySem.Challenge.rw_swornhall_k18_whole_sworn_runs=true:=by rw[PySem.W.Fast.te9446332074065402090];kernel_rfl
set_option maxRecDepth 1000000 in
set_option maxHeartbeats 0 in
theorem _root_.PySem.Challenge.hd_swornhall_k18_whole_sworn_runs (q:∀(d:DefRec) (kwd:List (Str×PySem.Expr)),defOf My.Qv PySem.Challenge.rw_swornhall_k18_whole_sworn_runs.row.name=some (d,kwd)->WalkO My.Qv [] (XL My.Qv []) (Hook.says My.HK) PySem.Challenge.rw_swornhall_k18_whole_sworn_runs.row.toRowW d kwd λf vs=>PySem.call f vs):PySem.Challenge.rw_swornhall_k18_whole_sworn_runs.Holds:=by
 refine holds_law My.qf λsaid=>?_;have h:=q _ _ rfl;refine(λ(_:type_of%h)=>?m) ?hc;rotate_left
 exact h;o_head My.HK;case hw=>w_witness2
end
end My
namespace L2
open PySem PySem.Spec PyProof.Rows
abbrev bp:=Sum Int Str
def kM:bp->Value->Bool
 |.inl k,v=>Value.isInt k v|.inr x,v=>Value.isStrOf x v
def zB (w:World):bp->Int
 |.inl k=>hashInt k|.inr x=>hashStr w x
theorem i0:∀{k:bp}{v:Value},kM k v=true->(∃ i t,k=Sum.inl i/\v=Value.int i t)\/(∃ x t,k=Sum.inr x/\v=Value.str x t)
 |.inl i,v,h=>by obtain⟨t,e⟩:=Value.isInt_shape (k:=i) (v:=v) h;exact .inl ⟨i,t,rfl,e⟩|.inr x,v,h=>by obtain⟨t,e⟩:=Value.isStrOf_shape (x:=x) (v:=v) h;exact .inr ⟨x,t,rfl,e⟩
theorem Kh (i:Int)(t:Tok):kM (.inl i) (.int i t)=true:=by simp[kM,Value.isInt]
theorem Kg (x:Str)(t:Tok):kM (.inr x) (.str x t)=true:=by simp[kM,Value.isStrOf]
theorem HS (a b:Int):decide ((Sum.inl a:bp)=Sum.inl b)=(a==b):=by
 by_cases e:a=b
 ·subst e;simp
 ·have h:¬ (Sum.inl a:bp)=Sum.inl b:=λq=>e (Sum.inl.inj q);rw[N7 h];exact(OK.mpr e).symm
theorem HR (a b:Str):decide ((Sum.inr a:bp)=Sum.inr b)=decide (a=b):=by
 by_cases e:a=b
 ·subst e;simp
 ·have h:¬ (Sum.inr a:bp)=Sum.inr b:=λq=>e (Sum.inr.inj q);rw[N7 h,N7 e]
theorem HQ (a:Int)(b:Str):decide ((Sum.inl a:bp)=Sum.inr b)=false:=N7 (λq=>nomatch q)
theorem HN (a:Str)(b:Int):decide ((Sum.inr a:bp)=Sum.inl b)=false:=N7 (λq=>nomatch q)
def eM (prog:Program)(w:World):PySem.KeyKind prog w bp where
 is:=kM
 hash:=zB w
 inj:=λv a b ha hb=>by
  rcases i0 ha with⟨i,t,rfl,rfl⟩|⟨x,t,rfl,rfl⟩
  ·rcases i0 hb with⟨j,u,rfl,e⟩|⟨y,u,rfl,e⟩
   ·injection e with e1 _;rw[e1]
   ·exact nomatch e
  ·rcases i0 hb with⟨j,u,rfl,e⟩|⟨y,u,rfl,e⟩
   ·exact nomatch e
   ·injection e with e1 _;rw[e1]
 byValue:=λk v h=>by
  rcases i0 h with⟨i,t,rfl,rfl⟩|⟨x,t,rfl,rfl⟩<;>rfl
 pyHash:=λhv h=>by
  rcases i0 hv with⟨i,t,rfl,rfl⟩|⟨x,t,rfl,rfl⟩
  ·exact wpAny_pyHash_int h
  ·exact wpAny_pyHash_str h
 eqBool:=λhu hv h=>by
  rcases i0 hu with⟨i,t,rfl,rfl⟩|⟨x,t,rfl,rfl⟩
  ·rcases i0 hv with⟨j,u,rfl,rfl⟩|⟨y,u,rfl,rfl⟩
   ·rw[HS]at h;exact wpAny_eqBool_int h
   ·rw[HQ]at h;exact SeqAt.EqAt.int_str i t y u _ _ _ _ h
  ·rcases i0 hv with⟨j,u,rfl,rfl⟩|⟨y,u,rfl,rfl⟩
   ·rw[HN]at h;exact SeqAt.EqAt.str_int x t j u _ _ _ _ h
   ·rw[HR]at h;exact wpAny_eqBool_str h
 «strs»:=λk x t v h=>by
  rcases i0 h with⟨i,u,rfl,e⟩|⟨y,u,rfl,e⟩
  ·exact nomatch e
  ·injection e with e1 _
   subst e1
   cases v<;>rfl
theorem LT (prog:Program)(w:World)(i:Int)(t:Tok):(eM prog w).is (.inl i) (.int i t)=true:=Kh i t
theorem LS (prog:Program)(w:World)(x:Str)(t:Tok):(eM prog w).is (.inr x) (.str x t)=true:=Kg x t
inductive V where
 |non|bl (b:Bool)|int (i:Int)|str (x:Str)|byt (b:Array UInt8)|flt (b:UInt64)|ref (a:Addr)|ty (n:String)
 deriving DecidableEq
abbrev QV:=List V
def aC:V->Value->Prop
 |.non,u=>u=Value.none|.bl b,u=>u=Value.bool b|.int i,u=>∃ t,u=Value.int i t|.str x,u=>∃ t,u=Value.str x t|.byt b,u=>∃ t,u=Value.bytes b t|.flt b,u=>∃ t,u=Value.float b t|.ref a,u=>u=Value.ref a|.ty n,u=>u=Value.type n
abbrev ax:QV->List Value->Prop:=Paired aC
variable {xs:QV}{us:List Value}
theorem ax.length(r:ax xs us):xs.length=us.length:=Paired.length r
theorem ax.get:∀{xs:QV}{us:List Value}{i:Nat}{x:V},ax xs us->xs[i]?=some x->∃ u,us[i]?=some u/\aC x u
 |_,_,_,_,.nil,e=>by simp at e|_,_,0,_,.cons r _,e=>by simp at e;subst e;exact⟨_,rfl,r⟩|_,_,i+1,x,.cons _ t,e=>by obtain⟨u,h1,h2⟩:=ax.get (i:=i) (x:=x) t (by simpa using e);exact⟨u,by simpa using h1,h2⟩
variable {u:Value}
theorem ax.set{x:V}(r:aC x u):∀{xs:QV}{us:List Value}(i:Nat),ax xs us->ax (xs.set i x) (us.set i u)
 |_,_,_,.nil=>.nil|_,_,0,.cons _ t=>.cons r t|_,_,i+1,.cons q t=>.cons q (ax.set r i t)
theorem ax.append:∀{xs ys:QV}{us ws:List Value},ax xs us->ax ys ws->ax (xs++ys) (us++ws)
 |_,_,_,_,.nil,s=>s|_,_,_,_,.cons r t,s=>.cons r (ax.append t s)
theorem ax.take:∀{xs:QV}{us:List Value}(n:Nat),ax xs us->ax (xs.take n) (us.take n)
 |_,_,0,_=>.nil|_,_,_+1,.nil=>.nil|_,_,n+1,.cons r t=>.cons r (ax.take n t)
theorem ax.drop:∀{xs:QV}{us:List Value}(n:Nat),ax xs us->ax (xs.drop n) (us.drop n)
 |_,_,0,r=>r|_,_,_+1,.nil=>.nil|_,_,n+1,.cons _ t=>ax.drop n t
theorem ax.none_of:∀{xs:QV}{us:List Value}{i:Nat},ax xs us->xs[i]?=none->us[i]?=none:=λ{xs us i} r e=>by have h1:=r.length;have h2:xs.length<=i:=List.getElem?_eq_none_iff.mp e;exact List.getElem?_eq_none_iff.mpr (by omega)
def cE:Option V->Option Value->Prop
 |some v,some u=>aC v u|none,none=>True|_,_=>False
def KV {κ:Type}:List (κ×V)->List (κ×Value)->Prop:=Paired λ(p:κ×V) (q:κ×Value)=>p.1=q.1/\aC p.2 q.2
noncomputable def kV:bp->V
 |.inl i=>.int i|.inr x=>.str x
inductive HO where
 /-- a list -/
 |lst (xs:QV)
 /-- a tuple (never changes) -/
 |tup (xs:QV)
 /-- a dict whose keys are ints and texts;one whose keys are tuples of ints and texts (the empty one is both) -/
 |dK (kvs:List (bp × V))|dT (kvs:List (List bp × V))
 /-- a set of ints: its members,its size -/
 |set (S:Int->Bool) (n:Nat)
 /-- an instance of the class at C,its dict at dx,its attributes -/
 |ins (C dx:Addr) (fs:List (Str × V))
 /-- the dict of the instance at x -/
 |own (x:Addr)
 /-- the dict of an exception -/
 |xd (fs:List (Str × V))
 /-- a bound method,f of x -/
 |met (f x:Addr)
 /-- a range object lo,lo+1,.. below hi -/
 |rng (lo hi:Int)
 /-- a thing that is known to the object (the script;a dict while a loop walks it): read,never written while it is so -/
 |frz (o:Obj) (u:HO)
 /-- a code object's table -/
 |tbl (ps:Array Value)
 /-- any other thing,by what is true of its one object (a def of one's own: SetO a S n:=HO.ext λh=>..) -/
 |ext (φ:Heap->Prop)
abbrev Hp:=Addr->Option HO
def upd (H:Hp)(a:Addr)(o:HO):Hp:=λb=>if b=a then some o else H b
variable {H:Hp}{a:Addr}{o:HO}
theorem aw:upd H a o a=some o:=by unfold upd;rw[NU rfl]
variable {b:Addr}
theorem aE(h:b≠a):upd H a o b=H b:=by unfold upd;rw[NR h]
theorem tf{u:HO}(h:H a=some o)(h':H b=some u)(d:o≠u):a≠b:=by intro e;subst e;rw[h]at h';exact d (Oj h')
theorem bX(h:H a=some o)(h':H b=none):a≠b:=by intro e;subst e;rw[h]at h';cases h'
section
variable (P:Program)(w:World)
def c_ (H:Hp)(h:Heap)(a:Addr):HO->Prop
 |.lst xs=>xs.length<=sizeLine/\∃(its:List Value) (n:Nat),ax xs its/\h.get? a=some {cls:=.type "list",data:=.seq its.toArray n}|.tup xs=>xs.length<=sizeLine/\∃ its:List Value,ax xs its/\IsTup h a its.toArray|.dK kvs=>kvs.length<=sizeLine/\(a==sysModules)=false/\∃ vs,KV kvs vs/\h.DictOf (eM P w) a vs|.dT kvs=>kvs.length<=sizeLine/\(a==sysModules)=false/\∃ xs:List (List bp×Addr×Value),
   Paired (λ(p:List bp×V) (q:List bp×Addr×Value)=>p.1=q.1/\H q.2.1=some (.tup (p.1.map kV))/\aC p.2 q.2.2) kvs xs/\
   ∃ o es ep,h.get? a=some o/\o.ExactDict/\o.data=.dict es ep/\es.toList=xs.map (entryOfKey (tupleKind (eM P w)))/\(xs.map (·.1)).Nodup
 |.set S n=>h.SetOf (intKind P w) a S n|.ins C dx fs=>H dx=some (.own a)/\fs.length<=1000/\dx≠a/\h.get? a=some (PySem.W.instObj C dx)/\
   ∃ mA,h.Ns1 dx mA/\(∀ f,cE (fs.lookup f) (mA f))/\PySem.Within mA (fs.map (·.1))
 |.own _=>∃ o,h.get? a=some o|.xd fs=>∃ mA,h.Ns1 a mA/\∀ f,cE (fs.lookup f) (mA f)|.rng lo hi=>∃ t u v,h.get? a=some {cls:=.type "range",data:=.fields #[.int lo t,.int hi u,.int 1 v]}|.frz o u=>h.get? a=some o/\c_ H h a u|.tbl ps=>h.get? a=some {cls:=.none,data:=.fields ps}|.met f x=>h.get? a=some (PySem.W.methodObj (.ref f) (.ref x))|.ext φ=>φ h/\(∃ o,h.get? a=some o)/\∀ h1 h2:Heap,φ h1->(∀ o,h1.get? a=some o->h2.get? a=some o)->φ h2
def dz (H:Hp)(h:Heap):Prop:=∀ a o,H a=some o->c_ P w H h a o
end
variable {α:Type}{P:Program}{w:World}{h h':Heap}{H':Hp}
section
theorem c_.lt (x:c_ P w H h a o):a<h.objs.size:=by
 cases o with
 |lst xs=>obtain⟨_,_,_,_,e⟩:=x;exact Pe e
 |tup xs=>obtain⟨_,_,_,p⟩:=x;exact p.lt
 |dK kvs=>obtain⟨_,_,_,_,o,_,_,e,_⟩:=x;exact Pe e
 |dT kvs=>obtain⟨_,_,_,_,o,_,_,e,_⟩:=x;exact Pe e
 |set S n=>obtain⟨o,_,_,_,e,_⟩:=x;exact Pe e
 |ins C dx fs=>obtain⟨_,_,_,e,_⟩:=x;exact Pe e
 |own y=>obtain⟨_,e⟩:=x;exact Pe e
 |xd fs=>obtain⟨_,⟨_,_,_,e,_⟩,_⟩:=x;exact Pe e
 |rng lo hi=>obtain⟨_,_,_,e⟩:=x;exact Pe e
 |frz ob u=>obtain⟨e,_⟩:=x;exact Pe e
 |tbl ps=>exact Pe (show h.get? a=some _ from x)
 |met f y=>exact Pe (show h.get? a=some _ from x)
 |ext φ=>obtain⟨_,⟨_,e⟩,_⟩:=x;exact Pe e
theorem Paired.mapP{β:Type}{F G:α->β->Prop}:∀{l₁:List α}{l₂:List β},Paired F l₁ l₂->(∀ a b,F a b->G a b)->Paired G l₁ l₂
 |_,_,.nil,_=>.nil|_,_,.cons r t,f=>.cons (f _ _ r) (Paired.mapP t f)
theorem c_.stay (x:c_ P w H h a o)(k:∀ b u,(b=a\/H b=some (.own a))->h.get? b=some u->h'.get? b=some u)
  (ho:∀ b,H b=some (.own a)->H' b=some (.own a)) (ht:∀ b xs,H b=some (.tup xs)->H' b=some (.tup xs)):c_ P w H' h' a o:=by
 induction o with
 |lst xs=>obtain⟨z,its,n,r,e⟩:=x;exact⟨z,its,n,r,k _ _ (.inl rfl) e⟩
 |tup xs=>obtain⟨z,its,r,ob,e,c⟩:=x;exact⟨z,its,r,ob,k _ _ (.inl rfl) e,c⟩
 |dK kvs=>obtain⟨z,y,vs,r,ob,es,ep,e,c⟩:=x;exact⟨z,y,vs,r,ob,es,ep,k _ _ (.inl rfl) e,c⟩
 |dT kvs=>obtain⟨z,y,xs,r,ob,es,ep,e,c⟩:=x;exact⟨z,y,xs,Paired.mapP r λp q z=>⟨z.1,ht _ _ z.2.1,z.2.2⟩,ob,es,ep,k _ _ (.inl rfl) e,c⟩
 |set S n=>obtain⟨ob,es,ep,t,e,c⟩:=x;exact⟨ob,es,ep,t,k _ _ (.inl rfl) e,c⟩
 |ins C dx fs=>obtain⟨d,z,ne,e,mA,⟨od,es,ep,e2,c⟩,r⟩:=x;exact⟨ho _ d,z,ne,k _ _ (.inl rfl) e,mA,⟨od,es,ep,k _ _ (.inr d) e2,c⟩,r⟩
 |own y=>obtain⟨ob,e⟩:=x;exact⟨ob,k _ _ (.inl rfl) e⟩
 |xd fs=>obtain⟨mA,⟨od,es,ep,e,c⟩,r⟩:=x;exact⟨mA,⟨od,es,ep,k _ _ (.inl rfl) e,c⟩,r⟩
 |rng lo hi=>obtain⟨t,u,v,e⟩:=x;exact⟨t,u,v,k _ _ (.inl rfl) e⟩
 |frz ob u ih=>obtain⟨e,q⟩:=x;exact⟨k _ _ (.inl rfl) e,ih q⟩
 |tbl ps=>have e:h.get? a=some {cls:=.none,data:=.fields ps}:=x;show h'.get? a=some {cls:=.none,data:=.fields ps};exact k a _ (.inl rfl) e
 |met f y=>have e:h.get? a=some (PySem.W.methodObj (.ref f) (.ref y)):=x;show h'.get? a=some (PySem.W.methodObj (.ref f) (.ref y));exact k a _ (.inl rfl) e
 |ext φ=>obtain⟨p,⟨o,e⟩,st⟩:=x;exact⟨st _ _ p λo q=>k _ _ (.inl rfl) q,⟨o,k _ _ (.inl rfl) e⟩,st⟩
theorem dz.lt (x:dz P w H h)(e:H a=some o):a<h.objs.size:=(x a o e).lt
theorem dz.fresh (x:dz P w H h)(e:h.objs.size<=a):H a=none:=by
 cases q:H a with
 |none=>rfl
 |some u=>exact Oa (N1 (x.lt q) e) (OX _)
theorem dz.kept (x:dz P w H h)(k:∀ b u,h.get? b=some u->h'.get? b=some u):dz P w H h':=λa o e=>
 (x a o e).stay (λb u _ q=>k b u q) (λ_ q=>q) λ_ _ q=>q
theorem dz.laid (x:dz P w H h)(k:∀ b u,h.get? b=some u->h'.get? b=some u)(hp:h.objs.size<=a)(new:c_ P w (upd H a o) h' a o):dz P w (upd H a o) h':=λb u e=>by
 have hn:=x.fresh hp;by_cases hb:b=a
 ·subst hb;rw[aw]at e;cases e;exact new
 ·rw[aE hb]at e;exact(x b u e).stay (λc v _ q=>k c v q) (λc q=>by rw[aE (bX q hn)];exact q) λc xs q=>by rw[aE (bX q hn)];exact q
end
def Rd (H:Hp)(a:Addr)(u:HO):Prop:=H a=some u\/∃ o,H a=some (.frz o u)
theorem Rd.ok{u:HO}(r:Rd H a u)(x:dz P w H h):c_ P w H h a u:=by
 rcases r with r|⟨o,r⟩
 ·exact x a u r
 ·obtain⟨_,q⟩:=x a _ r;exact q
def sJ:Option HO->Prop
 |some (.lst _)=>True|some (.dK _)=>True|some (.dT _)=>True|some (.set _ _)=>True|some (.ins _ _ _)=>True|some (.ext _)=>True|_=>False
section
variable {x e:Addr}{o':HO}
theorem dz.write (ok:dz P w H h)(mu:sJ (H x))(he:e=x\/H e=some (.own x))(k:∀ b u,b≠e->h.get? b=some u->h'.get? b=some u)(heo:∃ u,h'.get? e=some u)
  (new:c_ P w (upd H x o') h' x o'):dz P w (upd H x o') h':=λb u q=>by
 have nown:∀ c y,H c=some (.own y)->c≠x:=λc y r z=>by subst z;rw[r]at mu;exact mu
 have ntup:∀ c xs,H c=some (.tup xs)->c≠x:=λc xs r z=>by subst z;rw[r]at mu;exact mu
 by_cases hb:b=x
 ·subst hb;rw[aw]at q;cases q;exact new
 ·rw[aE hb]at q
  by_cases hbe:b=e
  ·have q':H b=some (.own x):=by
    rcases he with z|z
    ·exact Oa (hbe.trans z) hb
    ·rw[hbe];exact z
   rw[q]at q';cases q'
   obtain⟨v,hv⟩:=heo
   exact⟨v,by rw[hbe];exact hv⟩
  ·refine(ok b u q).stay (λc v hc r=>k c v ?_ r) (λc r=>by rw[aE (nown c b r)];exact r) λc xs r=>by rw[aE (ntup c xs r)];exact r
   rcases hc with rfl|hc
   ·exact hbe
   ·rintro rfl
    rcases he with z|z
    ·exact nown c b hc z
    ·rw[hc]at z;cases z;exact hb rfl
end
structure Un (fs ex:QW)(H H':Hp)(h h':Heap):Prop where
 keep:∀ b o,h.get? b=some o->H b=none->b∉fs->b∉ex->h'.get? b=some o
 slot:∀ b o,h.get? b=some o->H b=none->b∈fs->b∉ex->∃ sl,h'.get? b=some {o with slots:=sl}
 free:∀ b o,h.get? b=some o->H b=none->b∉ex->H' b=none
 there:∀ b o,h.get? b=some o->b∉ex->∃ o',h'.get? b=some o'
 tups:∀ b xs,H b=some (.tup xs)->H' b=some (.tup xs)
 frzs:∀ b o u,H b=some (.frz o u)->H' b=some (.frz o u)
 tbls:∀ b ps,H b=some (.tbl ps)->∃ more,H' b=some (.tbl (ps++more))
section
variable {fs fs' ex ex':QW}{H1 H2:Hp}{h1 h2:Heap}{x e:Addr}
theorem Un.any(u:Un fs ex H H1 h h1){ob:Obj}(q:h.get? b=some ob)(n:H b=none)(hx:b∉ex):∃ sl,h1.get? b=some {ob with slots:=sl}:=by
 by_cases hb:b∈fs
 ·exact u.slot b ob q n hb hx
 ·exact⟨ob.slots,u.keep b ob q n hb hx⟩
theorem Un.kept (k:∀ b u,h.get? b=some u->h'.get? b=some u):Un fs ex H H h h':=
 ⟨λb ob q _ _ _=>k b ob q,λb ob q _ _ _=>⟨ob.slots,k b ob q⟩,λ_ _ _ n _=>n,λb ob q _=>⟨ob,k b ob q⟩,λ_ _ q=>q,λ_ _ _ q=>q,λ_ ps q=>⟨#[],by rw[q];simp⟩⟩
theorem Un.refl:Un fs ex H H h h:=Un.kept λ_ _ q=>q
theorem Un.laid (k:∀ b u,h.get? b=some u->h'.get? b=some u)(hp:h.objs.size<=a)(hn:H a=none):Un fs ex H (upd H a o) h h' where
 keep:=λb u q _ _ _=>k b u q
 slot:=λb u q _ _ _=>⟨u.slots,k b u q⟩
 free:=λb u q n _=>by rw[aE (Ol (N1 (Pe q) hp))];exact n
 there:=λb u q _=>⟨u,k b u q⟩
 tups:=λb xs q=>by rw[aE (bX q hn)];exact q
 frzs:=λb u xs q=>by rw[aE (bX q hn)];exact q
 tbls:=λb ps q=>⟨#[],by rw[aE (bX q hn),q];simp⟩
theorem Un.write (mu:sJ (H x))(he:e=x\/H e=some (.own x))(k:∀ b u,b≠e->h.get? b=some u->h'.get? b=some u)(heo:∃ u,h'.get? e=some u):Un fs ex H (upd H x o) h h':=by
 have hx:∀ b,H b=none->b≠x:=λb n z=>by subst z;rw[n]at mu;exact mu
 have hb:∀ b,H b=none->b≠e:=λb n z=>by
  subst z;rcases he with r|r
  ·exact hx b n r
  ·rw[n]at r;cases r
 have hm:∀ b u,H b=some u->¬ sJ (some u)->b≠x:=λb u q nm z=>by subst z;rw[q]at mu;exact nm mu
 refine⟨λb u q n _ _=>k b u (hb b n) q,λb u q n _ _=>⟨u.slots,k b u (hb b n) q⟩,λb u q n _=>by rw[aE (hx b n)];exact n,λb u q _=>?_,
  λb xs q=>by rw[aE (hm b _ q λz=>z)];exact q,λb u xs q=>by rw[aE (hm b _ q λz=>z)];exact q,λb ps q=>⟨#[],by rw[aE (hm b _ q λz=>z),q];simp⟩⟩
 by_cases hbe:b=e
 ·subst hbe;exact heo
 ·exact⟨u,k b u hbe q⟩
end
def uM (h:Heap)(H:Hp):QW:=(List.range h.objs.size).filter λa=>(H a).isSome
def fw (h:Heap)(H:Hp):Heap:=PySem.W.hideAll h (uM h H)
theorem Kf (h:Heap)(H:Hp):(fw h H).objs.size=h.objs.size:=PySem.W.hideAll_size _ _
theorem IZ{o:Obj}(e:h.get? b=some o)(n:H b=none):(fw h H).get? b=some o:=
 PySem.W.hideAll_get _ e λhm=>by
  have q:(H b).isSome=true:=(OY.mp hm).2
  rw[n]at q;simp at q
theorem Ij{o:Obj}(e:(fw h H).get? b=some o):h.get? b=some o/\H b=none:=by
 have e':h.get? b=some o:=PySem.W.of_hideAll (uM h H) e;nomatch e';cases q:H b with
 |none=>rfl
 |some x=>have hm:b∈uM h H:=OY.mpr ⟨List.mem_range.mpr (Pe e'),by simp[q]⟩;have z:(fw h H).get? b=none:=PySem.W.hideAll_none (uM h H) hm;rw[z]at e;cases e
structure Mod (K:Fg)(mg:Str->Option Value)(base:Heap):Prop where
 kin:K.In base
 glob:base.Ns mainGlobals mg
 blt:∃ mb,base.Ns builtinsNs mb/\∀ x:Str,x≠"__name__" ->mb x=bootBuiltins x
 nolimit:base.NoLimit
structure Cx where
 prog:Program
 w:World
 K:Fg
 mg:Str->Option Value
 base:Heap
 A:Around
 N:List Str
 s₀:Shared
 H₀:Hp
 env:Env
 outer:List Env
 stack:List Env
 ex:QW
 fn:Str->Bool
 calm:Bool
 pn:QX
 xe:Value->Shared->Prop
def d0 (l:List Env):QW:=l.filterMap (·.frame)
abbrev Cx.fs (X:Cx):QW:=d0 X.outer
def oF (sc:Scope)(x:Str):Prop:=sc.names.lookup x=some .local\/sc.names.lookup x=some .cell\/sc.names.lookup x=some .free
def oH (sc:Scope)(x:Str):Prop:=sc.names.lookup x=some .local\/sc.names.lookup x=some .cell
def sN (env:Env)(h:Heap)(m:Str->Option Value)(x:Str)(u:Value):Prop:=
 (env.kindOf x=some .local/\m x=some u)\/((env.kindOf x=some .cell\/env.kindOf x=some .free)/\∃ c,env.cells.lookup x=some c/\h.IsCell c (some u))
structure Cx.Ok (X:Cx):Prop where
 mod:Mod X.K X.mg X.base
 kind:X.env.scope.kind=.function
 glob:X.env.globals=mainGlobals
 blt:X.env.builtins=builtinsNs
 above:X.s₀.heap.objs.size<=X.env.locals
 inj:∀ x y c,X.env.cells.lookup x=some c->X.env.cells.lookup y=some c->x=y
 has:∀ x,(X.env.kindOf x=some .cell\/X.env.kindOf x=some .free)->∃ c,X.env.cells.lookup x=some c
 cab:∀ x c,X.fn x=true->X.env.cells.lookup x=some c->X.s₀.heap.objs.size<=c
 hd:X.calm=true->X.A.handled=none
 frames:X.A.frames=some X.stack
 stk:X.stack=X.outer\/(X.stack=X.env::X.outer/\X.env.frame=some X.env.locals)
 exf:∀ b∈X.ex,b≠X.env.locals/\∀ x c,X.env.cells.lookup x=some c->c≠b
 bs:∀ b o,X.base.get? b=some o->X.s₀.heap.get? b=some o/\X.H₀ b=none
 bsz:X.base.objs.size<=X.s₀.heap.objs.size
 noex:∀ b o,X.base.get? b=some o->b∉X.ex
 exfs:∀ b∈X.ex,b∉X.fs
 funs:X.s₀.heap.FunFrames X.base X.outer
 frf:∀ b∈X.fs,X.H₀ b=none
structure am (X:Cx)(Py:QX)(σ:List (Option V))(H:Hp)(s:Shared):Prop where
 ok:X.Ok
 os:s.os=X.s₀.os
 bare:AllBare s.gens
 base:Un X.fs X.ex X.H₀ H X.s₀.heap s.heap
 loc:∃ m,s.heap.Ns X.env.locals m/\∀(i:Nat) (x:Str) (v:V),X.N[i]?=some x->σ[i]?=some (some v)->oF X.env.scope x->∃ u,aC v u/\sN X.env s.heap m x u
 cell:∀ x c,X.env.cells.lookup x=some c->∃ v,s.heap.IsCell c v
 free:H X.env.locals=none
 freeC:∀ x c,X.env.cells.lookup x=some c->H c=none
 pin:∀ p∈X.pn++Py,s.heap.get? p.1=some p.2/\H p.1=none/\p.1≠X.env.locals/\p.1∉X.fs/\∀ v,p.2.data≠.cell v
 hok:dz X.prog X.w H s.heap
 len:σ.length=X.N.length
variable {x:Str}{g':Array GenState}{t' i j:Nat}{d':Drawn}{ch:QW}{it:Addr}{N:List Str}{M:Model}{A:Around}{E:Value->Shared->Prop}{v:V}{s' s:Shared}{X:Cx}{Py:QX}
section
variable {σ:List (Option V)}
theorem Cx.Ok.nofr(ok:X.Ok){o:Obj}(e:X.base.get? b=some o):b∉X.fs:=λhb=>by have:=(ok.funs.mem hb).1;rw[e]at this;cases this
theorem am.bs (I:am X Py σ H s):∀ b o,X.base.get? b=some o->s.heap.get? b=some o/\H b=none:=λb o e=>
 ⟨I.base.keep b o (I.ok.bs b o e).1 (I.ok.bs b o e).2 (I.ok.nofr e) (I.ok.noex b o e),I.base.free b o (I.ok.bs b o e).1 (I.ok.bs b o e).2 (I.ok.noex b o e)⟩
theorem am.bk (I:am X Py σ H s):∀ b o,X.base.get? b=some o->s.heap.get? b=some o:=λb o e=>(I.bs b o e).1
theorem am.mod (I:am X Py σ H s):Mod X.K X.mg X.base:=I.ok.mod
theorem am.kIn (I:am X Py σ H s):X.K.In s.heap:=I.ok.mod.kin.keeps I.bk
theorem am.lt (I:am X Py σ H s):X.env.locals<s.heap.objs.size:=let ⟨_,hn,_⟩:=I.loc;hn.lt
theorem am.sz (I:am X Py σ H s):X.s₀.heap.objs.size<=s.heap.objs.size:=Od I.ok.above (O7 I.lt)
theorem am.nofs(I:am X Py σ H s)(h:s.heap.objs.size<=a):a∉X.fs:=λhb=>by obtain⟨_,o,ho,_⟩:=I.ok.funs.mem hb;exact Oa (N1 (Pe ho) (Od I.sz h)) (OX _)
theorem am.cne (I:am X Py σ H s):∀ x c,X.env.cells.lookup x=some c->c≠X.env.locals:=λx c e z=>by obtain⟨v,o,ho,hd⟩:=I.cell x c e;obtain⟨m,⟨o',es,ep,ho',hd',_⟩,_⟩:=I.loc;rw[z,ho']at ho;cases ho;rw[hd']at hd;cases hd
theorem am.funs (I:am X Py σ H s):s.heap.FunFrames X.base X.outer:=by
 have all:∀(l:List Env),(∀ b∈d0 l,b∈X.fs)->X.s₀.heap.FunFrames X.base l->s.heap.FunFrames X.base l:=by
  intro l;induction l with
  |nil=>intro _ _;trivial
  |cons env r ih=>intro hs hl;obtain⟨hk,⟨L,o,hf,hn,ho,hd⟩,hr⟩:=hl;have hL:L∈X.fs:=hs L (by unfold d0;rw[OP,hf];exact NW);obtain⟨sl,e⟩:=I.base.slot L o ho (I.ok.frf L hL) hL λz=>I.ok.exfs L z hL;exact⟨hk,⟨L,_,hf,hn,e,hd⟩,ih (λb hb=>hs b (by unfold d0;rw[OP,hf];exact NZ _ hb)) hr⟩
 exact all X.outer (λ_ hb=>hb) I.ok.funs
theorem am.stack (I:am X Py σ H s):s.heap.FunFrames X.base X.stack:=by
 rcases I.ok.stk with e|⟨e,hf⟩
 ·rw[e];exact I.funs
 ·rw[e];obtain⟨m,hn,_⟩:=I.loc;refine .cons (by rw[I.ok.kind];decide) hf hn ?_ I.funs;exact Heap.get?_none_of_le (Od I.ok.bsz I.ok.above)
theorem am.stkSub (I:am X Py σ H s):∀ b∈d0 X.stack,b∈X.env.locals::X.fs:=λb hb=>by
 rcases I.ok.stk with e|⟨e,hf⟩
 ·rw[e]at hb;exact NZ _ hb
 ·rw[e]at hb;unfold d0 at hb;rw[OP,hf]at hb;exact hb
theorem am.stkFree (I:am X Py σ H s):∀ b∈d0 X.stack,H b=none:=λb hb=>by
 rcases NP.mp (I.stkSub b hb)with e|hb
 ·rw[e];exact I.free
 ·obtain⟨_,o,ho,_⟩:=I.ok.funs.mem hb;exact I.base.free b o ho (I.ok.frf b hb) λz=>I.ok.exfs b z hb
theorem am.step(I:am X Py σ H s)(hch:∀ b∈ch,(b∈X.ex\/X.s₀.heap.objs.size<=b)/\b≠X.env.locals/\(∀ x c,X.env.cells.lookup x=some c->c≠b)/\∀ p∈X.pn++Py,p.1≠b)(keep:∀ b o,b≠X.env.locals->b∉X.fs->b∉ch->s.heap.get? b=some o->H b=none->h'.get? b=some o)(slot:∀ b o,b≠X.env.locals->b∈X.fs->b∉ch->s.heap.get? b=some o->H b=none->∃ sl,h'.get? b=some {o with slots:=sl})(free:∀ b o,b∉ch->s.heap.get? b=some o->H b=none->H' b=none)(there:∀ b o,b∉ch->s.heap.get? b=some o->∃ o',h'.get? b=some o')(tups:∀ b xs,H b=some (.tup xs)->H' b=some (.tup xs))(frzs:∀ b o u,H b=some (.frz o u)->H' b=some (.frz o u))(tbls:∀ b ps,H b=some (.tbl ps)->∃ more,H' b=some (.tbl (ps++more)))(ns:∀ m,s.heap.Ns X.env.locals m->h'.Ns X.env.locals m)(hok:dz X.prog X.w H' h')(hg:AllBare g'):
  am X Py σ H' {s with heap:=h',gens:=g',drawn:=d',toks:=t'}:=by
 have neL:∀ b o,X.s₀.heap.get? b=some o->b≠X.env.locals:=λb o e=>Ol (N1 (Pe e) I.ok.above);have neC:∀ b o,X.s₀.heap.get? b=some o->b∉X.ex->b∉ch:=λb o e hx hb=>by
  rcases(hch b hb).1 with z|z
  ·exact hx z
  ·exact Oa (N1 (Pe e) z) (OX _)
 have cellK:∀ x c,X.env.cells.lookup x=some c->∀ v,s.heap.IsCell c v->h'.IsCell c v:=λx c e v ⟨o,ho,hd⟩=>by
  have nch:c∉ch:=λz=>(hch c z).2.2.1 x c e rfl;by_cases hc:c∈X.fs
  ·obtain⟨sl,q⟩:=slot c o (I.cne x c e) hc nch ho (I.freeC x c e);exact⟨_,q,hd⟩
  ·exact⟨o,keep c o (I.cne x c e) hc nch ho (I.freeC x c e),hd⟩
 refine⟨I.ok,I.os,hg,⟨λb o e n hb hx=>?_,λb o e n hb hx=>?_,λb o e n hx=>?_,λb o e hx=>?_,λb xs e=>tups b xs (I.base.tups b xs e),λb o xs e=>frzs b o xs (I.base.frzs b o xs e),λb ps e=>?_⟩,?_,λx c e=>?_,?_,λx c e=>?_,λp hp=>?_,hok,I.len⟩
 ·exact keep b o (neL b o e) hb (neC b o e hx) (I.base.keep b o e n hb hx) (I.base.free b o e n hx)
 ·obtain⟨sl,e1⟩:=I.base.slot b o e n hb hx;obtain⟨sl',e2⟩:=slot b _ (neL b o e) hb (neC b o e hx) e1 (I.base.free b o e n hx);exact⟨sl',e2⟩
 ·obtain⟨o',e1⟩:=I.base.there b o e hx;exact free b o' (neC b o e hx) e1 (I.base.free b o e n hx)
 ·obtain⟨o',e1⟩:=I.base.there b o e hx;exact there b o' (neC b o e hx) e1
 ·obtain⟨m1,e1⟩:=I.base.tbls b ps e;obtain⟨m2,e2⟩:=tbls b _ e1;exact⟨m1++m2,by rw[e2,Array.append_assoc]⟩
 ·obtain⟨m,hn,hl⟩:=I.loc;refine⟨m,ns m hn,λi x v e1 e2 e3=>?_⟩;obtain⟨u,r,l⟩:=hl i x v e1 e2 e3;nomatch u,r;rcases l with l|⟨k,c,e,z⟩
  ·exact .inl l
  ·exact .inr ⟨k,c,e,cellK x c e _ z⟩
 ·obtain⟨v,z⟩:=I.cell x c e;exact⟨v,cellK x c e v z⟩
 ·obtain⟨m,⟨o,_,_,ho,_⟩,_⟩:=I.loc;exact free _ o (λz=>(hch _ z).2.1 rfl) ho I.free
 ·obtain⟨v,o,ho,hd⟩:=I.cell x c e;exact free c o (λz=>(hch c z).2.2.1 x c e rfl) ho (I.freeC x c e)
 ·obtain⟨e,n,ne,nf,d⟩:=I.pin p hp;have nch:p.1∉ch:=λz=>(hch p.1 z).2.2.2 p hp rfl;exact⟨keep p.1 p.2 ne nf nch e n,free p.1 p.2 nch e n,ne,nf,d⟩
theorem am.un(I:am X Py σ H s)(u:Un X.fs [] H H' s.heap h')(hok:dz X.prog X.w H' h'):am X Py σ H' {s with heap:=h',toks:=t'}:=by obtain⟨m,⟨o,es,ep,ho,r⟩,_⟩:=id I.loc;obtain⟨sl,hL⟩:=u.any ho I.free (by simp);exact I.step (g':=s.gens) (d':=s.drawn) (ch:=[]) (λ_ z=>nomatch z) (λb o _ hb _ e n=>u.keep b o e n hb (by simp)) (λb o _ hb _ e n=>u.slot b o e n hb (by simp)) (λb o _ e n=>u.free b o e n (by simp)) (λb o _ e=>u.there b o e (by simp)) u.tups u.frzs u.tbls (λm' hm=>by obtain⟨o',es',ep',ho',r'⟩:=hm;rw[ho]at ho';cases ho';exact⟨_,es',ep',hL,r'⟩) hok I.bare
theorem am.call(I:am X Py σ H s)(u:Un (d0 X.stack) ch H H' s.heap h')(hok:dz X.prog X.w H' h')(hg:AllBare g')(hch:∀ b∈ch,(b∈X.ex\/X.s₀.heap.objs.size<=b)/\b≠X.env.locals/\(∀ x c,X.env.cells.lookup x=some c->c≠b)/\∀ p∈X.pn++Py,p.1≠b):
  am X Py σ H' {s with heap:=h',gens:=g',drawn:=d',toks:=t'}:=by obtain⟨m,⟨o,es,ep,ho,r⟩,_⟩:=id I.loc;obtain⟨sl,hL⟩:=u.any ho I.free λz=>(hch _ z).2.1 rfl;exact I.step (ch:=ch) hch (λb o hL hb hc e n=>u.keep b o e n (λz=>(NP.mp (I.stkSub b z)).elim hL hb) hc) (λb o _ _ hc e n=>u.any e n hc) (λb o hc e n=>u.free b o e n hc) (λb o hc e=>u.there b o e hc) u.tups u.frzs u.tbls (λm' hm=>by obtain⟨o',es',ep',ho',r'⟩:=hm;rw[ho]at ho';cases ho';exact⟨_,es',ep',hL,r'⟩) hok hg
theorem am.turned(I:am X Py σ H s)(k:∀ b o,b≠it->s.heap.get? b=some o->h'.get? b=some o)(hn:H it=none)(hL:it≠X.env.locals)(h1:it∈X.ex\/X.s₀.heap.objs.size<=it)(h2:∀ x c,X.env.cells.lookup x=some c->c≠it)(h3:∀ p∈X.pn++Py,p.1≠it):am X Py σ H {s with heap:=h',toks:=t'}:=by
 have nit:∀ b u,H b=some u->b≠it:=λb u e z=>by rw[z,hn]at e;cases e
 refine I.step (g':=s.gens) (d':=s.drawn) (ch:=[it]) (λb hb=>?_) (λb o _ _ hc e _=>k b o (λz=>hc (by simp[z])) e) (λb o _ _ hc e _=>⟨o.slots,k b o (λz=>hc (by simp[z])) e⟩) (λ_ _ _ _ n=>n)
  (λb o hc e=>⟨o,k b o (λz=>hc (by simp[z])) e⟩) (λ_ _ e=>e) (λ_ _ _ e=>e) (λb ps e=>⟨#[],by rw[e];simp⟩) (λm hm=>?_) (λb u e=>?_) I.bare
 ·have e:b=it:=by simpa using hb
  subst e;exact⟨h1,hL,h2,h3⟩
 ·obtain⟨o,es,ep,ho,r⟩:=hm;exact⟨o,es,ep,k _ o (Ne.symm hL) ho,r⟩
 ·refine(I.hok b u e).stay (λc v hc q=>k c v ?_ q) (λ_ q=>q) λ_ _ q=>q;rcases hc with z|z
  ·rw[z];exact nit b u e
  ·exact nit c _ z
theorem am.tok (I:am X Py σ H s)(t:Nat):am X Py σ H {s with toks:=t}:=I.un (h':=s.heap) (t':=t) Un.refl I.hok
theorem am.kept(I:am X Py σ H s)(k:∀ b u,s.heap.get? b=some u->h'.get? b=some u):am X Py σ H {s with heap:=h',toks:=t'}:=I.un (Un.kept k) (I.hok.kept k)
theorem am.laid(I:am X Py σ H s)(k:∀ b u,s.heap.get? b=some u->h'.get? b=some u)(hp:s.heap.objs.size<=a)(new:c_ X.prog X.w (upd H a o) h' a o):
  am X Py σ (upd H a o) {s with heap:=h',toks:=t'}:=I.un (Un.laid k hp (I.hok.fresh hp)) (I.hok.laid k hp new)
theorem am.write{x e:Addr}(I:am X Py σ H s)(mu:sJ (H x))(he:e=x\/H e=some (.own x))(k:∀ b u,b≠e->s.heap.get? b=some u->h'.get? b=some u)(heo:∃ u,h'.get? e=some u)(new:c_ X.prog X.w (upd H x o) h' x o):am X Py σ (upd H x o) {s with heap:=h',toks:=t'}:=I.un (Un.write mu he k heo) (I.hok.write mu he k heo new)
theorem am.pins_of {pins':QX}(I:am X Py σ H s)(h:∀ p∈pins',s.heap.get? p.1=some p.2/\H p.1=none/\p.1≠X.env.locals/\p.1∉X.fs/\∀ v,p.2.data≠.cell v):am X pins' σ H s:=
 ⟨I.ok,I.os,I.bare,I.base,I.loc,I.cell,I.free,I.freeC,λp hp=>(bC.mp hp).elim (λz=>I.pin p (Ob _ z)) (h p),I.hok,I.len⟩
theorem Dw(hN:N.Nodup)(a:N[i]?=some x)(b:N[j]?=some x):i=j:=by obtain⟨h1,e1⟩:=dF.mp a;obtain⟨h2,e2⟩:=dF.mp b;exact(List.getElem_inj hN).mp (e1.trans e2.symm)
variable {Q:Unit->Shared->Prop}
theorem DZ(I:am X Py σ H s)(hN:X.N.Nodup)(hi:X.N[i]?=some x)(hx:oH X.env.scope x)(r:aC v u)(h:∀ s',am X Py (σ.set i (some v)) H s'->(∃ a,Heap.SameBut a s.heap s'.heap/\(a=X.env.locals\/X.env.cells.lookup x=some a))->Q () s')(hf:autoParam (X.fn x=true\/X.env.scope.names.lookup x=some .local) oB):wpAny M A (storeName X.env x u) Q E s:=by
 obtain⟨m,hn,hl⟩:=id I.loc;have hcls:(X.env.scope.kind==.class ||(X.env.scope.kind==.module&&X.env.locals !=X.env.globals))=false:=by rw[I.ok.kind];rfl
 have hiσ:i<σ.length:=by rw[I.len];exact(dF.mp hi).1
 have cne:=I.cne;have tracked:∀{a:Addr}{h':Heap},(∃ o,s.heap.get? a=some o/\H a=none)->Heap.SameBut a s.heap h'->dz X.prog X.w H h':=λ{a h'} ha hs b ob e=>by
  obtain⟨_,_,hfree⟩:=ha;refine(I.hok b ob e).stay (λc w' hc q=>(hs.2 c ?_).trans q) (λ_ q=>q) λ_ _ q=>q;rintro rfl;rcases hc with rfl|hc
  ·rw[hfree]at e;cases e
  ·rw[hfree]at hc;cases hc
 rcases hx with hk|hk
 ·refine wpAny_storeName_local hk hn (λh' hn' hs=>?_) hcls;obtain⟨oL,_,_,hoL,_⟩:=id hn;refine h _ ⟨I.ok,I.os,I.bare,⟨λb o e n hb hx=>?_,λb o e n hb hx=>?_,I.base.free,λb o e hx=>?_,I.base.tups,I.base.frzs,I.base.tbls⟩,⟨_,hn',λj y v' e1 e2 e3=>?_⟩,λy c e=>?_,I.free,I.freeC,λp hp=>?_,tracked ⟨oL,hoL,I.free⟩ hs,by simpa using I.len⟩ ⟨_,hs,.inl rfl⟩
  ·exact(hs.2 b (Ol (N1 (Pe e) I.ok.above))).trans (I.base.keep b o e n hb hx)
  ·obtain⟨sl,e1⟩:=I.base.slot b o e n hb hx;exact⟨sl,(hs.2 b (Ol (N1 (Pe e) I.ok.above))).trans e1⟩
  ·obtain⟨o',e1⟩:=I.base.there b o e hx;exact⟨o',(hs.2 b (Ol (N1 (Pe e) I.ok.above))).trans e1⟩
  ·by_cases hj:j=i
   ·subst hj;rw[hi]at e1;cases e1;rw[List.getElem?_set_self hiσ]at e2;cases e2;exact⟨u,r,.inl ⟨hk,by simp⟩⟩
   ·rw[List.getElem?_set_ne (Ne.symm hj)]at e2;obtain⟨u',r',q⟩:=hl j y v' e1 e2 e3;nomatch u',r';rcases q with⟨k,e⟩|⟨k,c,e,z⟩
    ·refine .inl ⟨k,?_⟩;have:y≠x:=λe=>hj (Dw hN e1 (e ▸ hi));simp[this,e]
    ·exact .inr ⟨k,c,e,z.sameBut hs (cne y c e)⟩
  ·obtain⟨w',z⟩:=I.cell y c e;exact⟨w',z.sameBut hs (cne y c e)⟩
  ·obtain⟨e,n,ne,nf,d⟩:=I.pin p hp;exact⟨(hs.2 p.1 ne).trans e,n,ne,nf,d⟩
 ·have hfn:X.fn x=true:=by
   rcases hf with z|z
   ·exact z
   ·rw[z]at hk;cases hk
  obtain⟨c,hc⟩:=I.ok.has x (.inl hk);obtain⟨w',z⟩:=I.cell x c hc;refine wpAny_storeName_cell I.ok.kind hk hc z (λh' hc' hs=>?_);obtain⟨oc,hoc,hocd⟩:=id z;refine h {s with heap:=h'} ⟨I.ok,I.os,I.bare,⟨λb o e n hb hx=>?_,λb o e n hb hx=>?_,I.base.free,λb o e hx=>?_,I.base.tups,I.base.frzs,I.base.tbls⟩,⟨m,hn.sameBut hs (Ne.symm (cne x c hc)),λj y v' e1 e2 e3=>?_⟩,λy c' e=>?_,I.free,I.freeC,λp hp=>?_,tracked ⟨oc,hoc,I.freeC x c hc⟩ hs,by simpa using I.len⟩ ⟨c,hs,.inr hc⟩
  ·exact(hs.2 b (Ol (N1 (Pe e) (I.ok.cab x c hfn hc)))).trans (I.base.keep b o e n hb hx)
  ·obtain⟨sl,e1⟩:=I.base.slot b o e n hb hx;exact⟨sl,(hs.2 b (Ol (N1 (Pe e) (I.ok.cab x c hfn hc)))).trans e1⟩
  ·obtain⟨o',e1⟩:=I.base.there b o e hx;exact⟨o',(hs.2 b (Ol (N1 (Pe e) (I.ok.cab x c hfn hc)))).trans e1⟩
  ·by_cases hj:j=i
   ·subst hj;rw[hi]at e1;cases e1;rw[List.getElem?_set_self hiσ]at e2;cases e2;exact⟨u,r,.inr ⟨.inl hk,c,hc,hc'⟩⟩
   ·rw[List.getElem?_set_ne (Ne.symm hj)]at e2;obtain⟨u',r',q⟩:=hl j y v' e1 e2 e3;nomatch u',r';rcases q with q|⟨k,c',e,z'⟩
    ·exact .inl q
    ·refine .inr ⟨k,c',e,z'.sameBut hs ?_⟩;rintro rfl;exact hj (Dw hN e1 (I.ok.inj _ _ _ e hc ▸ hi))
  ·by_cases hcc:c'=c
   ·subst hcc;exact⟨_,hc'⟩
   ·obtain⟨w2,z2⟩:=I.cell y c' e;exact⟨w2,z2.sameBut hs hcc⟩
  ·obtain⟨e,n,ne,nf,d⟩:=I.pin p hp;refine⟨(hs.2 p.1 ?_).trans e,n,ne,nf,d⟩;intro q;rw[q,hoc]at e;have q':oc=p.2:=Oj e;exact d w' (by rw[<-q'];exact hocd)
theorem Dv(I:am X Py σ H s)(hN:X.N.Nodup)(hi:X.N[i]?=some x)(hx:oH X.env.scope x)(r:aC v u)(h:∀ s',am X Py (σ.set i (some v)) H s'->Q () s')(hf:autoParam (X.fn x=true\/X.env.scope.names.lookup x=some .local) oB):wpAny M A (storeName X.env x u) Q E s:=
 DZ I hN hi hx r (λs' I' _=>h s' I') hf
theorem am.call'(I:am X Py σ H s)(ho:s'.os=s.os)(u:Un (d0 X.stack) ch H H' s.heap s'.heap)(hok:dz X.prog X.w H' s'.heap)(hg:AllBare s'.gens)(hch:∀ b∈ch,(b∈X.ex\/X.s₀.heap.objs.size<=b)/\b≠X.env.locals/\(∀ x c,X.env.cells.lookup x=some c->c≠b)/\∀ p∈X.pn++Py,p.1≠b):am X Py σ H' s':=by obtain⟨h',g',d',t',o'⟩:=s';have e:o'=s.os:=ho;subst e;exact I.call (g':=g') (t':=t') (d':=d') u hok hg hch
end
abbrev XK:=Value->Option Addr->Hp->Prop
abbrev St:=List (Option V)
abbrev VK:=V->Hp->Prop
abbrev TE:=St->Hp->VK->Prop
abbrev TT:=St->Hp->(Bool->Hp->Prop)->Prop
abbrev TA:=St->Hp->(QV->Hp->Prop)->Prop
structure bI where
 nx:St->Hp->Prop
 rt:VK
 bk:St->Hp->Prop:=λ_ _=>False
 ct:St->Hp->Prop:=λ_ _=>False
abbrev TS:=bI->St->Hp->Prop
def EP (X:Cx)(Py:QX)(σ:St)(Q:VK)(u:Value)(s':Shared):Prop:=∃ v H',am X Py σ H' s'/\aC v u/\Q v H'
def TP (X:Cx)(Py:QX)(σ:St)(Q:Bool->Hp->Prop)(b:Bool)(s':Shared):Prop:=∃ H',am X Py σ H' s'/\Q b H'
def AP (X:Cx)(Py:QX)(σ:St)(Q:QV->Hp->Prop)(us:List Value)(s':Shared):Prop:=∃ vs H',am X Py σ H' s'/\ax vs us/\Q vs H'
def SP (X:Cx)(Py:QX)(D:bI)(f:Flow)(s':Shared):Prop:=
 match f with
 |.next=>∃ σ' H',am X Py σ' H' s'/\D.nx σ' H'|.brk=>∃ σ' H',am X Py σ' H' s'/\D.bk σ' H'|.cont=>∃ σ' H',am X Py σ' H' s'/\D.ct σ' H'|.ret u=>∃ v σ' H',am X Py σ' H' s'/\aC v u/\D.rt v H'
def PE (X:Cx)(e:Expr)(t:TE):Prop:=
 ∀(Py:QX) (s:Shared) (σ:St) (H:Hp) (Q:VK),am X Py σ H s->t σ H Q->wpAny (model X.prog X.w) X.A (eval e X.env) (EP X Py σ Q) X.xe s
def PT (X:Cx)(e:Expr)(t:TT):Prop:=
 ∀(Py:QX) (s:Shared) (σ:St) (H:Hp) (Q:Bool->Hp->Prop),am X Py σ H s->t σ H Q->wpAny (model X.prog X.w) X.A (isTrue e X.env (eval e X.env)) (TP X Py σ Q) X.xe s
def PW (X:Cx)(e:Expr)(t:TT):Prop:=
 ∀(PQ:Sem Value) (Py:QX) (s:Shared) (σ:St) (H:Hp) (Q:Bool->Hp->Prop),am X Py σ H s->t σ H Q->wpAny (model X.prog X.w) X.A (isTrue e X.env PQ) (TP X Py σ Q) X.xe s
variable {e:Expr}
theorem PW.pt{t:TT}(h:PW X e t):PT X e t:=h _
def PA (X:Cx)(es:List Expr)(t:TA):Prop:=
 ∀(pos:Pos) (Py:QX) (s:Shared) (σ:St) (H:Hp) (Q:QV->Hp->Prop),am X Py σ H s->t σ H Q->wpAny (model X.prog X.w) X.A (spliced (backTo pos (starEach es X.env))) (AP X Py σ Q) X.xe s
def PS (X:Cx)(st:Stmt)(t:TS):Prop:=
 ∀(Py:QX) (s:Shared) (σ:St) (H:Hp) (D:bI),am X Py σ H s->t D σ H->wpAny (model X.prog X.w) X.A (exec st X.env) (SP X Py D) X.xe s
def fN (X:Cx)(st:List Stmt)(t:TS):Prop:=
 ∀(Py:QX) (s:Shared) (σ:St) (H:Hp) (D:bI),am X Py σ H s->t D σ H->wpAny (model X.prog X.w) X.A (execs st X.env) (SP X Py D) X.xe s
theorem aN{t:Sem α}{Q Q':α->Shared->Prop}(h:wpAny M A t Q E s)(hQ:∀ a s,Q a s->Q' a s):wpAny M A t Q' E s:=Pi h hQ λ_ _ x=>x
variable {Q:Value->Shared->Prop}{ta tb:TE}{σ:St}{R:V->V->Hp->Prop}{pos:Pos}{op:CmpOp}{c:Expr}
section
theorem NO{a b:Expr}(ha:PE X a ta)(hb:PE X b tb)(I:am X Py σ H s)(h:ta σ H λx H1=>tb σ H1 λy H2=>R x y H2){Q:α->Shared->Prop}{f:Value->Value->Sem α}(hf:∀ v u s2 x y H2,am X Py σ H2 s2->aC x v->aC y u->R x y H2->wpAny (model X.prog X.w) X.A (f v u) Q X.xe s2):
  wpAny (model X.prog X.w) X.A (eval a X.env) (λv s₁=>wpAny (model X.prog X.w) X.A (eval b X.env) (λu s₂=>wpAny (model X.prog X.w) X.A (f v u) Q X.xe s₂) X.xe s₁) X.xe s:=by refine aN (ha Py s σ H _ I h) λv s1 ⟨x,H1,I1,r1,q1⟩=>?_;refine aN (hb Py s1 σ H1 _ I1 q1) λu s2 ⟨y,H2,I2,r2,q2⟩=>?_;exact hf v u s2 x y H2 I2 r1 r2 q2
def i9 (i:Nat):TE:=λσ H Q=>∃ v,σ[i]?=some (some v)/\Q v H
def tC (v:V):TE:=λ_ H Q=>Q v H
theorem HM(hN:X.N[i]?=some x)(hv:oF X.env.scope x)(hd:↥((x==("__debug__":Str))=false))(hcd:↥((x==("__classdict__":Str))=false)):PE X (.Name x pos) (i9 i):=by
 intro Py s σ H Q I h;obtain⟨v,e,h⟩:=h;obtain⟨m,hn,hl⟩:=I.loc;obtain⟨u,r,l⟩:=hl i x v hN e hv;have fin:EP X Py σ Q u s:=⟨v,H,I,r,h⟩;rcases l with⟨hk,hm⟩|⟨hk,c,hc,hcell⟩
 ·exact wpAny_Name (wpAny_loadName_local I.ok.kind hk hn hm fin) hd
 ·rcases hk with hk|hk
  ·exact wpAny_Name (wpAny_loadName_cell I.ok.kind hk hc hcell fin) hd
  ·exact wpAny_Name (wpAny_loadName_free I.ok.kind hk hc hcell fin hcd) hd
theorem aj {i j pos}:PE X (.Constant (.int i) j pos) (tC (.int i)):=λ_ _ _ H _ I h=>wpAny_Constant_int ⟨.int i,H,I.tok _,⟨_,rfl⟩,h⟩
theorem gk {b j pos}:PE X (.Constant (.bool b) j pos) (tC (.bl b)):=λ_ _ _ H _ I h=>Constant_bool ⟨.bl b,H,I,rfl,h⟩
theorem gH {j pos}:PE X (.Constant .none j pos) (tC .non):=λ_ _ _ H _ I h=>Constant_none ⟨.non,H,I,rfl,h⟩
theorem bY {x j pos}:PE X (.Constant (.str x) j pos) (tC (.str x)):=λ_ _ _ H _ I h=>Calls.Constant_str ⟨.str x,H,I.tok _,⟨_,rfl⟩,h⟩
def Gl (X:Cx)(x:Str):Prop:=X.env.kindOf x=some .globalImplicit
theorem mD(I:am X Py σ H s)(hg:Gl X x)(hm:X.mg x=some u)(h:Q u s)(hd:↥((x==("__debug__":Str))=false)):wpAny (model X.prog X.w) X.A (eval (.Name x pos) X.env) Q E s:=
 Calls.Name_function_global I.ok.kind hg (Calls.loadGlobal_global (by rw[I.ok.glob];exact I.mod.glob.keeps I.bk) hm h) hd
theorem nR(I:am X Py σ H s)(hg:Gl X x)(hm:X.mg x=none)(hv:bootBuiltins x=some u)(h:Q u s)(hn:↥(x≠"__name__"))(hd:↥((x==("__debug__":Str))=false)):wpAny (model X.prog X.w) X.A (eval (.Name x pos) X.env) Q E s:=by obtain⟨mb,h1,h2⟩:=I.mod.blt;exact Calls.Name_function_global I.ok.kind hg (Calls.loadGlobal_builtin (by rw[I.ok.glob];exact I.mod.glob.keeps I.bk) hm (by rw[I.ok.blt];exact h1.keeps I.bk) ((h2 x hn).trans hv) h) hd
theorem CN(hg:Gl X x)(hm:X.mg x=some u)(r:aC v u)(hd:↥((x==("__debug__":Str))=false)):PE X (.Name x pos) (tC v):=
 λ_ _ _ H _ I h=>mD I hg hm ⟨v,H,I,r,h⟩ hd
theorem tQ(hg:Gl X x)(hm:X.mg x=none)(hv:bootBuiltins x=some u)(r:aC v u)(hn:↥(x≠"__name__"))(hd:↥((x==("__debug__":Str))=false)):PE X (.Name x pos) (tC v):=
 λ_ _ _ H _ I h=>nR I hg hm hv ⟨v,H,I,r,h⟩ hn hd
variable {a b:Expr}
def PC (X:Cx)(op:CmpOp)(a b:Expr)(t:TE):Prop:=
 ∀(Py:QX) (s:Shared) (σ:St) (H:Hp) (Q:VK),am X Py σ H s->t σ H Q->
  wpAny (model X.prog X.w) X.A (eval a X.env) (λv s₁=>wpAny (model X.prog X.w) X.A (eval b X.env) (λu s₂=>wpAny (model X.prog X.w) X.A (compareOp op v u) (EP X Py σ Q) X.xe s₂) X.xe s₁) X.xe s
def tB (t:TE):TT:=λσ H Q=>t σ H λx H1=>∃ c,x=.bl c/\Q c H1
theorem HL{t:TE}(h:PC X op a b t)(h1:behindInMarks op b=false:=by first|exact nobehind _ (by decide) (by decide)|rfl):PE X (.Compare a [op] [b] pos) t:=λPy s σ H Q I hw=>wpAny_Compare1 (h Py s σ H Q I hw) h1
theorem mi{t:TE}(h:PC X op a b t)(h1:behindInMarks op b=false:=by first|exact nobehind _ (by decide) (by decide)|rfl):PT X (.Compare a [op] [b] pos) (tB t):=by intro Py s σ H Q I hw;refine wpAny_isTrue_Compare1 (aN (h Py s σ H _ I hw) λv s1 h1=>aN h1 λu s2 h2=>aN h2 λc s3 ⟨x,H1,I1,r1,q1⟩=>?_) h1;obtain⟨d,rfl,q⟩:=q1;cases r1;exact Pj ⟨H1,I1,q⟩
theorem fg{t:TE}(h:PE X e t)(he:autoParam (∀ PQ,isTrue e X.env PQ=(do let v<-PQ;standAt e.pos;holding [v] (truthy v))) lJ):PT X e (tB t):=by intro Py s σ H Q I hw;refine isTrue_plain (aN (h Py s σ H _ I hw) λv s1 ⟨x,H1,I1,r1,q1⟩=>?_) (he _);obtain⟨d,rfl,q⟩:=q1;cases r1;exact Pj ⟨H1,I1,q⟩
variable {tA tB':TT}{rest:List Expr}
def qc (t u:TT):TT:=λσ H Q=>t σ H λc H1=>if c=true then u σ H1 Q else Q false H1
def Ff (t u:TT):TT:=λσ H Q=>t σ H λc H1=>if c=true then Q true H1 else u σ H1 Q
def pV (t:TT):TT:=λσ H Q=>t σ H λc H1=>Q (!c) H1
theorem ww (ha:PT X a tA):PW X (.BoolOp .And [a] pos) tA:=by
 intro wh Py s σ H Q I h;refine isTrue_and (aN (ha Py s σ H Q I h) λc s1 e=>?_);cases c with
 |true=>exact isTrue_and_nil e
 |false=>exact e
theorem oU (ha:PT X a tA):PW X (.BoolOp .Or [a] pos) tA:=by
 intro wh Py s σ H Q I h;refine isTrue_or (aN (ha Py s σ H Q I h) λc s1 e=>?_);cases c with
 |false=>exact isTrue_or_nil e
 |true=>exact e
theorem vM (ha:PT X a tA)(hb:PW X (.BoolOp .And (b::rest) pos) tB'):PW X (.BoolOp .And (a::b::rest) pos) (qc tA tB'):=by
 intro wh Py s σ H Q I h;refine isTrue_and (aN (ha Py s σ H _ I h) λc s1 ⟨H1,I1,q1⟩=>?_);cases c with
 |true=>exact hb wh Py s1 σ H1 Q I1 q1
 |false=>exact⟨H1,I1,q1⟩
theorem kK (ha:PT X a tA)(hb:PW X (.BoolOp .Or (b::rest) pos) tB'):PW X (.BoolOp .Or (a::b::rest) pos) (Ff tA tB'):=by
 intro wh Py s σ H Q I h;refine isTrue_or (aN (ha Py s σ H _ I h) λc s1 ⟨H1,I1,q1⟩=>?_);cases c with
 |true=>exact⟨H1,I1,q1⟩
 |false=>exact hb wh Py s1 σ H1 Q I1 q1
theorem iU (ha:PT X a tA):PT X (.UnaryOp .Not a pos) (pV tA):=by intro Py s σ H Q I h;exact isTrue_not (ha Py s σ H (λc H1=>Q (!c) H1) I h)
def BK (ta tb:TE):TE:=λσ H Q=>ta σ H λx H1=>∃ c,x=.bl c/\if c=true then tb σ H1 Q else Q (.bl false) H1
def BJ (ta:TE):TE:=λσ H Q=>ta σ H λx H1=>∃ c,x=.bl c/\Q (.bl (!c)) H1
theorem fJ {op}{t:TE}(h:PE X a t):PE X (.BoolOp op [a] pos) t:=λPy s σ H Q I hw=>BoolOp_one (h Py s σ H Q I hw)
theorem eU (ha:PE X a ta)(hb:PE X (.BoolOp .And (b::rest) pos) tb):PE X (.BoolOp .And (a::b::rest) pos) (BK ta tb):=by
 intro Py s σ H Q I h;refine BoolOp_and (aN (ha Py s σ H _ I h) λv s1 ⟨x,H1,I1,r1,q1⟩=>?_);obtain⟨c,rfl,q1⟩:=q1;cases r1;refine Pj ?_;cases c with
 |true=>exact hb Py s1 σ H1 Q I1 q1
 |false=>exact⟨.bl false,H1,I1,rfl,q1⟩
theorem HJ (ha:PE X a ta):PE X (.UnaryOp .Not a pos) (BJ ta):=by intro Py s σ H Q I h;refine UnaryOp_ (aN (ha Py s σ H _ I h) λv s1 ⟨x,H1,I1,r1,q1⟩=>?_);obtain⟨c,rfl,q1⟩:=q1;cases r1;exact not_of (Pj ⟨.bl (!c),H1,I1,rfl,q1⟩)
def Fh (t:TT)(ta tb:TE):TE:=λσ H Q=>t σ H λc H1=>if c=true then ta σ H1 Q else tb σ H1 Q
theorem w_(hc:PT X c tA)(ha:PE X a ta)(hb:PE X b tb):PE X (.IfExp c a b pos) (Fh tA ta tb):=by
 intro Py s σ H Q I h;refine wpAny_IfExp (aN (hc Py s σ H _ I h) λd s1 ⟨H1,I1,q1⟩=>?_);cases d with
 |true=>exact ha Py s1 σ H1 Q I1 q1
 |false=>exact hb Py s1 σ H1 Q I1 q1
end
def ar (K:Fg)(H:Hp)(a:Addr)(xs:QV):Prop:=
 Rd H a (.lst xs)\/
  ∃(o:Obj) (its:Array Value) (n:Nat),K.lookup a=some o/\o.cls=.type "list"/\o.dict=none/\o.data=.seq its n/\its.size<=sizeLine/\ax xs its.toList
def aH (K:Fg)(H:Hp)(a:Addr)(xs:QV):Prop:=
 Rd H a (.tup xs)\/
  ∃(o:Obj) (its:Array Value) (n:Nat),K.lookup a=some o/\o.cls=.type "tuple"/\o.data=.seq its n/\its.size<=sizeLine/\ax xs its.toList
noncomputable def zU:Value->Option V
 |.none=>some .non|.bool b=>some (.bl b)|.int i _=>some (.int i)|.str x _=>some (.str x)|.bytes b _=>some (.byt b)|.float b _=>some (.flt b)|.ref a=>some (.ref a)|.type n=>some (.ty n)|_=>none
theorem aC.abs{x:V}(r:aC x u):zU u=some x:=by
 cases x with
 |non=>cases r;rfl
 |bl _=>cases r;rfl
 |int _=>obtain⟨t,rfl⟩:=r;rfl
 |str _=>obtain⟨t,rfl⟩:=r;rfl
 |byt _=>obtain⟨t,rfl⟩:=r;rfl
 |flt _=>obtain⟨t,rfl⟩:=r;rfl
 |ref _=>cases r;rfl
 |ty _=>cases r;rfl
variable {y:V}
theorem aC.inj{x:V}(r:aC x u)(q:aC y u):x=y:=Oj (r.abs.symm.trans q.abs)
theorem ax.inj:∀{xs ys:QV}{us:List Value},ax xs us->ax ys us->xs=ys
 |_,_,_,.nil,.nil=>rfl|_,_,_,.cons r t,.cons r' t'=>by rw[r.inj r',ax.inj t t']
variable {K:Fg}
section
variable {ys:QV}
theorem ar.of(h:H a=some (.lst xs)):ar K H a xs:=.inl (.inl h)
theorem aH.of(h:H a=some (.tup xs)):aH K H a xs:=.inl (.inl h)
theorem am.list (I:am X Py σ H s)(h:ar X.K H a xs):∃ its:List Value,ax xs its/\PlainL s.heap a its.toArray/\xs.length<=sizeLine:=by
 rcases h with h|⟨o,its,n,hk,hc,hd,hs,hz,r⟩
 ·obtain⟨z,its,n,r,e⟩:=h.ok I.hok;exact⟨its,r,⟨_,n,e,rfl,rfl,rfl⟩,z⟩
 ·nomatch its.toList,r,⟨o,n,I.kIn a o hk,hc,hd,by simpa using hs⟩;have e:=r.length;simp only[Array.length_toList]at e;omega
theorem am.tuple (I:am X Py σ H s)(h:aH X.K H a xs):∃ its:List Value,ax xs its/\IsTup s.heap a its.toArray/\xs.length<=sizeLine:=by
 rcases h with h|⟨o,its,n,hk,hc,hs,hz,r⟩
 ·obtain⟨z,its,r,p⟩:=h.ok I.hok;exact⟨its,r,p,z⟩
 ·nomatch its.toList,r,⟨o,I.kIn a o hk,hc,n,by simpa using hs⟩;have e:=r.length;simp only[Array.length_toList]at e;omega
theorem am.list_inj (I:am X Py σ H s)(h:ar X.K H a xs)(h':ar X.K H a ys):xs=ys:=by
 obtain⟨its,r,⟨o,n,e,_,_,d⟩,_⟩:=I.list h;obtain⟨its',r',⟨o',n',e',_,_,d'⟩,_⟩:=I.list h';rw[e]at e';cases e';rw[d]at d';injection d' with d1 _;have:its=its':=by simpa using congrArg Array.toList d1
 subst this;exact r.inj r'
theorem am.tuple_inj (I:am X Py σ H s)(h:aH X.K H a xs)(h':aH X.K H a ys):xs=ys:=by
 obtain⟨its,r,⟨o,e,_,n,d⟩,_⟩:=I.tuple h;obtain⟨its',r',⟨o',e',_,n',d'⟩,_⟩:=I.tuple h';rw[e]at e';cases e';rw[d]at d';injection d' with d1 _;have:its=its':=by simpa using congrArg Array.toList d1
 subst this;exact r.inj r'
end
abbrev Cx.wish (X:Cx)(E:Value->Shared->Prop):Cx:={X with xe:=E}
abbrev Cx.nox (X:Cx):Cx:=X.wish λ_ _=>False
theorem Cx.Ok.wish(ok:X.Ok)(E:Value->Shared->Prop):(X.wish E).Ok:=
 ⟨ok.mod,ok.kind,ok.glob,ok.blt,ok.above,ok.inj,ok.has,ok.cab,ok.hd,ok.frames,ok.stk,ok.exf,ok.bs,ok.bsz,ok.noex,ok.exfs,ok.funs,ok.frf⟩
theorem Cx.Ok.unwish(ok:(X.wish E).Ok):X.Ok:=
 ⟨ok.mod,ok.kind,ok.glob,ok.blt,ok.above,ok.inj,ok.has,ok.cab,ok.hd,ok.frames,ok.stk,ok.exf,ok.bs,ok.bsz,ok.noex,ok.exfs,ok.funs,ok.frf⟩
section
theorem am.wish (I:am X Py σ H s)(E:Value->Shared->Prop):am (X.wish E) Py σ H s:=⟨I.ok.wish E,I.os,I.bare,I.base,I.loc,I.cell,I.free,I.freeC,I.pin,I.hok,I.len⟩
theorem am.unwish (I:am (X.wish E) Py σ H s):am X Py σ H s:=⟨I.ok.unwish,I.os,I.bare,I.base,I.loc,I.cell,I.free,I.freeC,I.pin,I.hok,I.len⟩
theorem SP.unwish{D:bI}{f:Flow}(h:SP (X.wish E) Py D f s'):SP X Py D f s':=by
 cases f with
 |next=>obtain⟨σ',H',I,q⟩:=h;exact⟨σ',H',I.unwish,q⟩
 |brk=>obtain⟨σ',H',I,q⟩:=h;exact⟨σ',H',I.unwish,q⟩
 |cont=>obtain⟨σ',H',I,q⟩:=h;exact⟨σ',H',I.unwish,q⟩
 |ret u=>obtain⟨v,σ',H',I,r,q⟩:=h;exact⟨v,σ',H',I.unwish,r,q⟩
theorem fN.nox {st:List Stmt}{t:TS}(h:fN X.nox st t):fN X st t:=λPy s σ H D I hw=>
 Pi (h Py s σ H D (I.wish _) hw) (λ_ _ q=>q.unwish) λ_ _ z=>Ov z
end
variable {tc:TT}{te:TE}
section
variable {st:Stmt}{rest:List Stmt}{t u:TS}
def sV:TS:=λD σ H=>D.nx σ H
def fX (t u:TS):TS:=λD σ H=>t {D with nx:=u D} σ H
theorem bE:fN X [] sV:=λ_ _ σ H _ I h=>Ps ⟨σ,H,I,h⟩
theorem az (h1:PS X st t)(h2:fN X rest u):fN X (st::rest) (fX t u):=by
 intro Py s σ H D I h;refine wpAny_execs_cons (aN (h1 Py s σ H {D with nx:=u D} I h) λf s1 q=>?_);cases f with
 |next=>obtain⟨σ',H',I',q⟩:=q;exact h2 Py s1 σ' H' D I' q
 |ret v=>exact q
 |brk=>exact q
 |cont=>exact q
theorem ay (h1:PS X st t):fN X [st] t:=by
 intro Py s σ H D I h;refine wpAny_execs_cons (aN (h1 Py s σ H D I h) λf s1 q=>?_);cases f with
 |next=>exact Ps q
 |ret v=>exact q
 |brk=>exact q
 |cont=>exact q
def p_:TS:=λD σ H=>D.ct σ H
theorem am.quiet(I:am X Py σ H s):interactive X.env=false:=by simp[interactive,I.ok.kind]
def vA (te:TE):TS:=λD σ H=>te σ H λ_ H1=>D.nx σ H1
theorem dC (he:PE X e te)(hs:⇑(swapsWith e none pos.line X.env=pure false)):PS X (.Expr e pos) (vA te):=by intro Py s σ H D I h;exact wpAny_Expr_any (aN (he Py s σ H _ I h) λv s1 ⟨x,H1,I1,r1,q1⟩=>⟨σ,H1,I1,q1⟩) I.quiet hs
def kj (te:TE):TS:=λD σ H=>te σ H D.rt
theorem aJ (he:PE X e te):PS X (.Return (some e) pos) (kj te):=by intro Py s σ H D I h;exact wpAny_Return_some (aN (he Py s σ H _ I h) λv s1 ⟨x,H1,I1,r1,q1⟩=>⟨x,σ,H1,I1,r1,q1⟩)
def pU:TS:=λD _ H=>D.rt .non H
theorem CM:PS X (.Return none pos) pU:=λ_ _ σ H _ I h=>wpAny_Return_none ⟨.non,σ,H,I,rfl,h⟩
def ja (c:TT)(t u:TS):TS:=λD σ H=>c σ H λb H1=>if b=true then t D σ H1 else u D σ H1
theorem bq{a b:List Stmt}(hc:PT X c tc)(ha:fN X a t)(hb:fN X b u):PS X (.If c a b pos) (ja tc t u):=by
 intro Py s σ H D I h;refine wpAny_If (aN (hc Py s σ H _ I h) λd s1 ⟨H1,I1,q1⟩=>?_);cases d with
 |true=>exact ha Py s1 σ H1 D I1 q1
 |false=>exact hb Py s1 σ H1 D I1 q1
def Gm:TS:=λ_ _ _=>False
end
abbrev TG:=V->St->Hp->(St->Hp->Prop)->Prop
abbrev lO:=QV->St->Hp->(St->Hp->Prop)->Prop
def PG (X:Cx)(target:Expr)(t:TG):Prop:=
 ∀(Py:QX) (s:Shared) (σ:St) (H:Hp) (v:V) (u:Value) (Q:St->Hp->Prop),am X Py σ H s->aC v u->t v σ H Q->
  wpAny (model X.prog X.w) X.A (assign target X.env u) (λ_ s'=>∃ σ' H',am X Py σ' H' s'/\Q σ' H') X.xe s
def sG (X:Cx)(ts:List Expr)(t:lO):Prop:=
 ∀(Py:QX) (s:Shared) (σ:St) (H:Hp) (vs:QV) (us:List Value) (Q:St->Hp->Prop),am X Py σ H s->ax vs us->t vs σ H Q->
  wpAny (model X.prog X.w) X.A (assignInOrder ((assignEach ts X.env).map (·.2)) us) (λ_ s'=>∃ σ' H',am X Py σ' H' s'/\Q σ' H') X.xe s
abbrev kD:=V->V->V->Hp->(Hp->Prop)->Prop
def sF (X:Cx)(t:kD):Prop:=
 ∀(Py:QX) (s:Shared) (σ:St) (H:Hp) (o i v:V) (ov iv u:Value) (Q:Hp->Prop),am X Py σ H s->aC o ov->aC i iv->aC v u->t o i v H Q->
  wpAny (model X.prog X.w) X.A (setItem ov iv u) (λ_ s'=>∃ H',am X Py σ H' s'/\Q H') X.xe s
variable {es:List Expr}{n:Nat}{tg:Expr}{g:TG}{pos':Pos}
section
def lY (i:Nat):TG:=λv σ H Q=>Q (σ.set i (some v)) H
theorem CL(hN:X.N.Nodup)(hi:X.N[i]?=some x)(hx:oH X.env.scope x)(hf:autoParam (X.fn x=true\/X.env.scope.names.lookup x=some .local) oB):PG X (.Name x pos) (lY i):=by intro Py s σ H v u Q I r h;exact wpAny_assign_Name (Dv I hN hi hx r (λs' I'=>⟨_,H,I',h⟩) hf)
def zQ:lO:=λvs σ H Q=>vs=[]/\Q σ H
inductive lT (vs:QV)(P:V->QV->Prop):Prop
 |mk (v:V) (r:QV) (e:vs=v::r) (q:P v r):lT vs P
def rS (t:TG)(u:lO):lO:=λvs σ H Q=>lT vs λv r=>t v σ H λσ' H'=>u r σ' H' Q
theorem lA:sG X [] zQ:=by intro Py s σ H vs us Q I r h;obtain⟨e,h⟩:=h;subst e;cases r;exact assignInOrder_nil ⟨σ,H,I,h⟩
theorem gC{t:TG}{u:lO}(h1:PG X e t)(h2:sG X es u)(hs:⇑((assignEach (e::es) X.env).map (·.2)=assign e X.env::(assignEach es X.env).map (·.2))):sG X (e::es) (rS t u):=by
 intro Py s σ H vs us Q I r h;obtain⟨v,vr,e1,h⟩:=h;subst e1;cases r with|cons r rr=>rw[hs];refine assignInOrder_cons (aN (h1 Py s σ H _ _ _ I r h) λ_ s1 ⟨σ1,H1,I1,q1⟩=>?_);exact h2 Py s1 σ1 H1 _ _ Q I1 rr q1
inductive sy (K:Fg)(n:Nat)(v:V)(H:Hp)(P:QV->Prop):Prop
 |mk (a:Addr) (xs:QV) (e:v=.ref a) (h:aH K H a xs) (l:xs.length=n) (q:P xs):sy K n v H P
def rQ (K:Fg)(n:Nat)(t:lO):TG:=λv σ H Q=>sy K n v H λxs=>t xs σ H Q
theorem Gk{k:Nat}{t:lO}(hc:X.calm=true)(h:sG X es t)(hn:⇑((assignEach es X.env).length=n))(hst:⇑((assignEach es X.env).findIdx? (·.1)=none)):PG X (.Tuple es k pos) (rQ X.K n t):=by intro Py s σ H v u Q I r hw;obtain⟨a,xs,e1,hq,hl,hw⟩:=hw;subst e1;cases r;obtain⟨its,rv,ht,hz⟩:=I.tuple hq;refine assign_Tuple_tuple (I.ok.hd hc) ht (by simp[hn,<-hl,rv.length]) hst λh' hx=>?_;have I1:am X Py σ H {s with heap:=h'}:=I.kept (t':=s.toks) λb o e=>hx b o (Ol (Pe e)) e;exact h Py _ σ H xs _ Q I1 (by simpa using rv) hw
def rR (to ti:TE)(t:kD):TG:=λv σ H Q=>to σ H λo H1=>ti σ H1 λi H2=>t o i v H2 λH3=>Q σ H3
theorem tG {o i:Expr}{to ti:TE}{t:kD}(ho:PE X o to)(hi:PE X i ti)(hs:sF X t)
  (ha:autoParam (∀ v,assign (.Subscript o i pos) X.env v=(do
   let ov<-holding [v] (eval o X.env)
   let iv<-holding [v,ov] (eval i X.env)
   standAt pos
   holding [v,ov,iv] (setItem ov iv v)
   release [v,ov,iv] [])) lJ):PG X (.Subscript o i pos) (rR to ti t):=by intro Py s σ H v u Q I r h;rw[ha];refine Pc (Pw (aN (ho Py s σ H _ I h) λov s1 ⟨x,H1,I1,r1,q1⟩=>?_));refine Pc (Pw (aN (hi Py s1 σ H1 _ I1 q1) λiv s2 ⟨y,H2,I2,r2,q2⟩=>?_));refine Pc (wpAny_standAt (Pc (Pw (aN (hs Py s2 σ H2 x y v ov iv u _ I2 r1 r2 r q2) λ_ s3 ⟨H3,I3,q3⟩=>?_))));exact wpAny_release ⟨σ,H3,I3,q3⟩
def ir (te:TE)(g:TG):TS:=λD σ H=>te σ H λx H1=>g x σ H1 D.nx
theorem oS(he:PE X e te)(hg:PG X tg g)(hs:⇑(swapsWithSole [tg] e pos.line X.env=pure false))(hw:⇑(swappedStores [tg] e X.env=pure none))(h1:⇑((assignEach [tg] X.env).map (·.2)=[assign tg X.env])):PS X (.Assign [tg] e pos) (ir te g):=by intro Py s σ H D I h;refine wpAny_Assign_stores (aN (he Py s σ H _ I h) λv s1 ⟨x,H1,I1,r1,q1⟩=>?_) hs hw;rw[h1];exact aN (hg Py s1 σ H1 x v _ I1 r1 q1) λ_ s2 q=>q
theorem Gj(hN:X.N.Nodup)(hi:X.N[i]?=some x)(hx:oH X.env.scope x)(he:PE X e te)(hs:⇑(swapsWith e (some (.Name x pos')) pos.line X.env=pure false))(hf:autoParam (X.fn x=true\/X.env.scope.names.lookup x=some .local) oB):
  PS X (.Assign [.Name x pos'] e pos) (ir te (lY i)):=by intro Py s σ H D I h;refine wpAny_Assign_Name (aN (he Py s σ H _ I h) λv s1 ⟨y,H1,I1,r1,q1⟩=>?_) hs;exact Dv I1 hN hi hx r1 (λs2 I2=>⟨_,H1,I2,q1⟩) hf
end
variable {body:List Stmt}
section
def Gi (c:TT)(tb:TS):TS:=λD σ H=>∃ W:Nat->St->Hp->Prop,(∃ m,W m σ H)/\∀ m σ H,W m σ H->
 c σ H λb H1=>if b=true then ∃ N:St->Hp->Prop,(∀ σ' H',N σ' H'->∃ m',m'<m/\W m' σ' H')/\tb {D with nx:=N,ct:=N,bk:=D.nx} σ H1 else D.nx σ H1
theorem uf{tb:TS}(hp:PassesOwn (model X.prog X.w) X.A X.env X.xe)(hc:PT X c tc)(hb:fN X body tb):PS X (.While c body [] pos) (Gi tc tb):=by
 intro Py s σ H D I h;obtain⟨W,⟨m0,w0⟩,turn⟩:=h;refine wpAny_While (codeAny_whileLoop (λn s'=>∃ σ' H',am X Py σ' H' s'/\W n σ' H') ?_ m0 ⟨σ,H,I,w0⟩);rintro n s1 ⟨σ1,H1,I1,w1⟩;refine Pq hp (aN (hc Py s1 σ1 H1 _ I1 (turn n σ1 H1 w1)) λb s2 ⟨H2,I2,q2⟩=>?_);cases b with
 |true=>
  obtain⟨N,hN,q2⟩:=q2;rw[NU rfl];refine Pq hp (aN (hb Py s2 σ1 H2 _ I2 q2) λf s3 q3=>?_);cases f with
  |next=>obtain⟨σ3,H3,I3,n3⟩:=q3;obtain⟨m',hm,w3⟩:=hN σ3 H3 n3;exact⟨m',hm,σ3,H3,I3,w3⟩
  |cont=>obtain⟨σ3,H3,I3,n3⟩:=q3;obtain⟨m',hm,w3⟩:=hN σ3 H3 n3;exact⟨m',hm,σ3,H3,I3,w3⟩
  |brk=>exact q3
  |ret v=>exact q3
 |false=>rw[NR N5];exact Ps ⟨σ1,H2,I2,q2⟩
end
structure It where
 go:Nat->Hp->Prop
 yld:Nat->Hp->V->Hp->Prop
 stop:Nat->Hp->Prop
def dg (X:Cx)(Py:QX)(H:Hp)(b:Addr):Prop:=
 H b=none/\b≠X.env.locals/\b∉X.fs/\(b∈X.ex\/X.s₀.heap.objs.size<=b)/\(∀ x c,X.env.cells.lookup x=some c->c≠b)/\∀ p∈X.pn++Py,p.1≠b
theorem am.fpOk(I:am X Py σ H s)(hb:s.heap.objs.size<=b)(hn:H' b=none):dg X Py H' b:=by
 refine⟨hn,Nat.ne_of_gt (N1 I.lt hb),I.nofs hb,.inr (Od I.sz hb),λx c e z=>?_,λp hp z=>?_⟩
 ·obtain⟨v,q⟩:=I.cell x c e;exact Oa (N1 q.lt (by rw[z];exact hb)) (OX _)
 ·exact Oa (N1 (Pe (I.pin p hp).1) (by rw[z];exact hb)) (OX _)
structure iD (P:Program)(w:World)(K:Fg)(tg:Expr)(J:It)(fp:QW)(it:Addr)(tn:Nat->Heap->Prop):Prop where
 mem:it∈fp
 obj:∀ i h,tn i h->∀ b∈fp,∃ o,h.get? b=some o/\∀ v,o.data≠.cell v
 keep:∀ i h h',tn i h->(∀ b∈fp,∀ o,h.get? b=some o->h'.get? b=some o)->tn i h'
 item:∀(X:Cx),X.prog=P->X.w=w->X.K=K->X.calm=true->∀(i:Nat) (Py:QX) (s:Shared) (σ:St) (H:Hp) (E:Value->Shared->Prop),am X Py σ H s->(∀ b∈fp,dg X Py H b)->tn i s.heap->J.go i H->
  wpAny (model P w) X.A (pyNext (.ref it)) (λr s1=>∃ u,r=some u/\
   wpAny (model P w) X.A (letOwnedTupleGo tg (.ref it) u) (λ_ s2=>∃ x H',am X Py σ H' s2/\aC x u/\J.yld i H x H'/\tn (i+1) s2.heap/\∀ b∈fp,H' b=none) E s1) E s
 done:∀(X:Cx),X.prog=P->X.w=w->X.K=K->X.calm=true->∀(i:Nat) (Py:QX) (s:Shared) (σ:St) (H:Hp) (E:Value->Shared->Prop),am X Py σ H s->(∀ b∈fp,dg X Py H b)->tn i s.heap->J.stop i H->
  wpAny (model P w) X.A (pyNext (.ref it)) (λr s1=>r=none/\am X Py σ H s1) E s
 self:∀(A:Around) (i:Nat) (s:Shared) (Q:Value->Shared->Prop) (E:Value->Shared->Prop),tn i s.heap->Q (.ref it) s->wpAny (model P w) A (pyIter (.ref it)) Q E s
abbrev TI:=St->Hp->(It->Hp->Prop)->Prop
def Fq (X:Cx)(Py:QX)(σ:St)(tg:Expr)(R:It->Hp->Prop)(itv:Value)(s2:Shared):Prop:=
 ∃(it:Addr) (fp:QW) (tn:Nat->Heap->Prop) (J:It) (H':Hp),itv=.ref it/\am X Py σ H' s2/\iD X.prog X.w X.K tg J fp it tn/\tn 0 s2.heap/\(∀ b∈fp,dg X Py H' b)/\R J H'
def PI (X:Cx)(tg iter:Expr)(wi:TI):Prop:=
 ∀(Py:QX) (s:Shared) (σ:St) (H:Hp) (R:It->Hp->Prop),am X Py σ H s->wi σ H R->
  wpAny (model X.prog X.w) X.A (eval iter X.env) (λv s1=>wpAny (model X.prog X.w) X.A (pyIter v) (Fq X Py σ tg R) X.xe s1) X.xe s
theorem vz{o:Obj}{n:String}{vs:Array Value}{Q:Unit->Shared->Prop}(ho:s.heap.get? it=some o)(hc:o.cls=.type n)(hd:o.data=.fields vs)(hn:["enumerate","zip","dict_itemiterator","dict_reverseitemiterator","odict_iterator","itertools.zip_longest","itertools.pairwise"].contains n=false)(hQ:Q () s):wpAny M A (letOwnedTupleGo tg (.ref it) u) Q E s:=by
  unfold letOwnedTupleGo;cases tg<;>first
    | exact Pf hQ
    | (cases u<;>first
        | exact Pf hQ
        | (refine Pc (wpAny_load ho ?_)
           rw[hc,hd]
           show wpAny M A (if(["enumerate","zip","dict_itemiterator","dict_reverseitemiterator","odict_iterator","itertools.zip_longest","itertools.pairwise"].contains n&&vs[0]?==some (rawInt _))=true then _ else _) Q E s
           rw[NR (by intro h;rw[hn,OV]at h;cases h)]
           exact Pf hQ))
def lR (K:Fg)(a:Addr):It:=
 ⟨λi H=>∃ xs x,ar K H a xs/\xs[i]?=some x,λi H x H'=>H'=H/\∀ xs,ar K H a xs->xs[i]?=some x,λi H=>∃ xs,ar K H a xs/\xs.length<=i⟩
def u_ (K:Fg)(a:Addr):It:=
 ⟨λi H=>∃ xs x,aH K H a xs/\xs[i]?=some x,λi H x H'=>H'=H/\∀ xs,aH K H a xs->xs[i]?=some x,λi H=>∃ xs,aH K H a xs/\xs.length<=i⟩
def kF (lo:Int)(n:Nat):It:=⟨λi _=>i<n,λi H x H'=>H'=H/\x=.int (lo+i),λi _=>n<=i⟩
theorem Ke(a it:Addr):iD P w K tg (lR K a) [it] it (λi h=>h.IsListIter it a i) where
 mem:=by simp
 obj:=λi h st b hb=>by
  have e:b=it:=by simpa using hb
  subst e
  obtain⟨o,e,c,d⟩:=st
  exact⟨o,e,λv z=>by rw[d]at z;cases z⟩
 keep:=λi h h' st k=>st.at λo e=>k it (by simp) o e
 item:=by
  intro X hP hw hK hc i Py s σ H E I hf st hg
  subst hP hw hK
  obtain⟨xs,x,hq,hx⟩:=hg
  obtain⟨its,rv,p,hz⟩:=I.list hq
  obtain⟨u,hu,ru⟩:=rv.get hx
  obtain⟨f0,f1,f2,f3,f4,f5⟩:=hf it (by simp)
  refine wpAny_pyNext_list_item st p.isList (x:=u) (by simpa using hu) λh' st' sb=>?_
  have I1:am X Py σ H {s with heap:=h'}:=I.turned (t':=s.toks) (λb o hb e=>(sb.2 b hb).trans e) f0 f1 f3 f4 f5
  obtain⟨o,e,c,d⟩:=id st'
  exact⟨u,rfl,vz (s:={s with heap:=h'}) e c d (by decide) ⟨x,H,I1,ru,⟨rfl,λys hy=>by rw[I.list_inj hy hq];exact hx⟩,st',λb hb=>(hf b hb).1⟩⟩
 done:=by
  intro X hP hw hK hc i Py s σ H E I hf st hg
  subst hP hw hK
  obtain⟨xs,hq,hx⟩:=hg
  obtain⟨its,rv,p,hz⟩:=I.list hq
  obtain⟨f0,f1,f2,f3,f4,f5⟩:=hf it (by simp)
  have hl:=rv.length
  exact wpAny_pyNext_list_end (I.ok.hd hc) st p.isList (by simp;omega) λh' eb=>⟨rfl,I.turned (t':=s.toks) (λb o hb e=>eb b o hb e) f0 f1 f3 f4 f5⟩
 self:=λ_ _ _ _ _ st h=>wpAny_pyIter_listiter st h
theorem KN(a it:Addr):iD P w K tg (u_ K a) [it] it (λi h=>h.IsTupleIter it a i) where
 mem:=by simp
 obj:=λi h st b hb=>by
  have e:b=it:=by simpa using hb
  subst e
  obtain⟨o,e,c,d⟩:=st
  exact⟨o,e,λv z=>by rw[d]at z;cases z⟩
 keep:=λi h h' st k=>st.at λo e=>k it (by simp) o e
 item:=by
  intro X hP hw hK hc i Py s σ H E I hf st hg
  subst hP hw hK
  obtain⟨xs,x,hq,hx⟩:=hg
  obtain⟨its,rv,p,hz⟩:=I.tuple hq
  obtain⟨u,hu,ru⟩:=rv.get hx
  obtain⟨f0,f1,f2,f3,f4,f5⟩:=hf it (by simp)
  refine wpAny_pyNext_tuple_item st (show s.heap.IsTuple a its.toArray from p) (x:=u) (by simpa using hu) λh' st' sb=>?_
  have I1:am X Py σ H {s with heap:=h'}:=I.turned (t':=s.toks) (λb o hb e=>(sb.2 b hb).trans e) f0 f1 f3 f4 f5
  obtain⟨o,e,c,d⟩:=id st'
  exact⟨u,rfl,vz (s:={s with heap:=h'}) e c d (by decide) ⟨x,H,I1,ru,⟨rfl,λys hy=>by rw[I.tuple_inj hy hq];exact hx⟩,st',λb hb=>(hf b hb).1⟩⟩
 done:=by
  intro X hP hw hK hc i Py s σ H E I hf st hg
  subst hP hw hK
  obtain⟨xs,hq,hx⟩:=hg
  obtain⟨its,rv,p,hz⟩:=I.tuple hq
  obtain⟨f0,f1,f2,f3,f4,f5⟩:=hf it (by simp)
  have hl:=rv.length
  exact wpAny_pyNext_tuple_end (I.ok.hd hc) st (show s.heap.IsTuple a its.toArray from p) (by simp;omega) λh' eb=>⟨rfl,I.turned (t':=s.toks) (λb o hb e=>eb b o hb e) f0 f1 f3 f4 f5⟩
 self:=λ_ _ _ _ _ st h=>wpAny_pyIter_tupleiter st h
theorem KM(it:Addr)(lo:Int)(n:Nat):iD P w K tg (kF lo n) [it] it (λi h=>IsRangeIter h it (lo+(i:Nat)*1) ((n:Int) - (i:Nat)) 1) where
 mem:=by simp
 obj:=λi h st b hb=>by
  have e:b=it:=by simpa using hb
  subst e
  exact⟨_,st,λv z=>by
   have z':Data.fields _=Data.cell v:=z
   cases z'⟩
 keep:=λi h h' st k=>k it (by simp) _ st
 item:=by
  intro X hP hw hK hc i Py s σ H E I hf st hg
  subst hP hw hK
  obtain⟨f0,f1,f2,f3,f4,f5⟩:=hf it (by simp)
  have W:=Walks.range (prog:=X.prog) (w:=X.w) (I.ok.hd hc) it lo 1 n
  refine W.item i s _ _ hg st λv h' tk hv st' kk=>?_
  obtain⟨t,rfl⟩:=hv
  have I1:am X Py σ H {s with heap:=h',toks:=tk}:=I.turned (λb o hb e=>kk b o (by simpa using hb) e) f0 f1 f3 f4 f5
  refine⟨_,rfl,vz (s:={s with heap:=h',toks:=tk}) (n:="range_iterator") st' rfl rfl (by decide) ⟨.int (lo+i),H,I1,⟨t,?_⟩,⟨rfl,rfl⟩,st',λb hb=>(hf b hb).1⟩⟩
  rw[Int.mul_one]
 done:=by
  intro X hP hw hK hc i Py s σ H E I hf st hg
  subst hP hw hK
  obtain⟨f0,f1,f2,f3,f4,f5⟩:=hf it (by simp)
  exact wpAny_pyNext_range_end (I.ok.hd hc) st (by have:n<=i:=hg;omega) λh' eb=>⟨rfl,I.turned (t':=s.toks) (λb o hb e=>eb b o hb e) f0 f1 f3 f4 f5⟩
 self:=λ_ _ _ _ _ st h=>wpAny_pyIter_rangeiter st h
variable {l:Expr}{tl:TE}{lo:Int}{p:Pos}{fp:QW}
section
def vw (K:Fg)(tl:TE):TI:=λσ H R=>tl σ H λx H1=>∃ a,x=.ref a/\(∃ xs,ar K H1 a xs)/\R (lR K a) H1
def mY (K:Fg)(tl:TE):TI:=λσ H R=>tl σ H λx H1=>∃ a,x=.ref a/\(∃ xs,aH K H1 a xs)/\R (u_ K a) H1
theorem Ii(hl:PE X l tl):PI X tg l (vw X.K tl):=by
 intro Py s σ H R I h;refine aN (hl Py s σ H _ I h) λv s1 ⟨x,H1,I1,r1,q1⟩=>?_;obtain⟨a,e,⟨xs,hq⟩,q⟩:=q1;subst e;cases r1;obtain⟨its,rv,p,hz⟩:=I1.list hq;refine wpAny_pyIter_list p.isList ?_;refine⟨s1.heap.objs.size,[s1.heap.objs.size],_,_,H1,rfl,I1.kept (t':=s1.toks) λb o e=>Pd _ e,Ke a _,⟨_,Ph _ rfl,rfl,rfl⟩,λb hb=>?_,q⟩;have e:b=s1.heap.objs.size:=by simpa using hb
 subst e;exact I1.fpOk (NV _) (I1.hok.fresh (NV _))
theorem Gh(hl:PE X l tl):PI X tg l (mY X.K tl):=by
 intro Py s σ H R I h;refine aN (hl Py s σ H _ I h) λv s1 ⟨x,H1,I1,r1,q1⟩=>?_;obtain⟨a,e,⟨xs,hq⟩,q⟩:=q1;subst e;cases r1;obtain⟨its,rv,p,hz⟩:=I1.tuple hq;refine wpAny_pyIter_tuple (show s1.heap.IsTuple a its.toArray from p) ?_;refine⟨s1.heap.objs.size,[s1.heap.objs.size],_,_,H1,rfl,I1.kept (t':=s1.toks) λb o e=>Pd _ e,KN a _,⟨_,Ph _ rfl,rfl,rfl⟩,λb hb=>?_,q⟩;have e:b=s1.heap.objs.size:=by simpa using hb
 subst e;exact I1.fpOk (NV _) (I1.hok.fresh (NV _))
theorem IY{R:It->Hp->Prop}{hi:Int}{t u v:Tok}{tk:Nat}(I:am X Py σ H s)(h1:-(2 ^ 62)<=lo)(h2:lo<2 ^ 62)(h3:-(2 ^ 62)<=hi)(h4:hi<2 ^ 62)(q:R (kF lo (hi - lo).toNat) H):wpAny (model X.prog X.w) X.A (pyIter (.ref s.heap.objs.size)) (Fq X Py σ tg R) E {s with heap:=s.heap.push {cls:=.type "range",data:=.fields #[.int lo t,.int hi u,.int 1 v]},toks:=tk}:=by
 refine wpAny_pyIter_range (IsRange.new ..) (small_one h1 h2 h3 h4) ?_;have I1:am X Py σ H {s with heap:=s.heap.push {cls:=.type "range",data:=.fields #[.int lo t,.int hi u,.int 1 v]},toks:=tk}:=I.kept λb o e=>Pd _ e;refine⟨(s.heap.push {cls:=.type "range",data:=.fields #[.int lo t,.int hi u,.int 1 v]}).objs.size,[(s.heap.push {cls:=.type "range",data:=.fields #[.int lo t,.int hi u,.int 1 v]}).objs.size],_,_,H,rfl,
  I1.kept (t':=tk) λb o e=>Pd _ e,KM _ lo (hi - lo).toNat,?_,λb hb=>?_,q⟩
 ·have e1:lo+((0:Nat):Int)*1=lo:=by simp
  have e2:(((hi - lo).toNat:Nat):Int) - ((0:Nat):Int)=Builtin.Range.rangeSize lo hi 1:=by rw[rangeSize_one];split<;>omega
  show IsRangeIter _ _ (lo+((0:Nat):Int)*1) ((((hi - lo).toNat:Nat):Int) - ((0:Nat):Int)) 1;rw[e1,e2];exact Ph _ rfl
 ·have e:b=(s.heap.push {cls:=.type "range",data:=.fields #[.int lo t,.int hi u,.int 1 v]}).objs.size:=by simpa using hb
  subst e;exact I1.fpOk (NV _) (I1.hok.fresh (NV _))
def BA (ta:TA):TI:=λσ H R=>ta σ H λvs H1=>∃ j:Int,vs=[.int j]/\-(2 ^ 62)<=j/\j<2 ^ 62/\R (kF 0 j.toNat) H1
theorem iQ{a:Expr}{ta:TA}(hg:Gl X "range")(hm:X.mg "range"=none)(ha:PA X [a] ta)(hs:⇑(starEach [a] X.env=[(false,eval a X.env)])):PI X tg (.Call (.Name "range" p) [a] [] pos) (BA ta):=by
 intro Py s σ H R I h;refine Call_ (nR I hg hm boot_range (PyProof.Rows.callWith_type1 (aN (ha pos Py s σ H _ I h) λus s1 ⟨vs,H1,I1,r1,q1⟩=>?_) hs rfl));obtain⟨j,e,q1,q2,q⟩:=q1;subst e;cases r1 with|cons r rr=>cases rr;obtain⟨t,rfl⟩:=r;exact call_range_1 (IY I1 (by omega) (by omega) q1 q2 (by simpa using q))
def pY (wi:TI)(g:TG)(tb:TS):TS:=λD σ H=>wi σ H λJ H1=>∃ W:Nat->Nat->St->Hp->Prop,(∃ m,W 0 m σ H1)/\∀ i m σ H,W i m σ H->
 (J.stop i H/\D.nx σ H)\/(J.go i H/\∃ N:St->Hp->Prop,(∀ σ' H',N σ' H'->∃ m',m'<m/\W (i+1) m' σ' H')/\∀ x H',J.yld i H x H'->g x σ H' λσ2 H2=>tb {D with nx:=N,ct:=N,bk:=D.nx} σ2 H2)
def oR (fp:QW)(h:Heap):QX:=fp.filterMap λb=>(h.get? b).map λo=>(b,o)
theorem uE{o:Obj}(hb:b∈fp)(e:h.get? b=some o):(b,o)∈oR fp h:=OI.mpr ⟨b,hb,by rw[e];rfl⟩
theorem Kd{p:Addr×Obj}(hp:p∈oR fp h):p.1∈fp/\h.get? p.1=some p.2:=by
 obtain⟨b,hb,e⟩:=OI.mp hp;cases q:h.get? b with
 |none=>rw[q]at e;cases e
 |some o=>rw[q]at e;have e':(b,o)=p:=Oj e;subst e';exact⟨hb,q⟩
theorem am.pinned(I:am X Py σ H s)(hf:∀ b∈fp,dg X Py H b)(ho:∀ b∈fp,∃ o,s.heap.get? b=some o/\∀ v,o.data≠.cell v):am X (Py++oR fp s.heap) σ H s:=
 I.pins_of λp hp=>(bC.mp hp).elim (λz=>I.pin p (N3 _ z)) λz=>by
  obtain⟨hb,e⟩:=Kd z
  obtain⟨f0,f1,f2,_⟩:=hf p.1 hb
  obtain⟨o,e',d⟩:=ho p.1 hb
  rw[e]at e';cases e'
  exact⟨e,f0,f1,f2,d⟩
theorem am.unpinned{pl:QX}(I:am X (Py++pl) σ H s):am X Py σ H s:=I.pins_of λp hp=>I.pin p (N3 _ (Ob _ hp))
theorem gy{iter:Expr}{wi:TI}{tb:TS}(hp:PassesOwn (model X.prog X.w) X.A X.env X.xe)(hc:X.calm=true)(hi:PI X tg iter wi)(hg:PG X tg g)(hb:fN X body tb)(hs:autoParam (∀ x,foldedSetIterable iter X.env x=pure x) lJ):PS X (.For tg iter body [] pos) (pY wi g tb):=by
 intro Py s σ H D I h;refine wpAny_For (aN (hi Py s σ H _ I h) λv s1 h1=>aN h1 λitv s2 h2=>?_) hs;obtain⟨it,fp,tn,J,H2,e,I2,T,st2,f2,W,⟨m0,w0⟩,turn⟩:=h2;subst e;have stat:∀{H':Hp},(∀ b∈fp,H' b=none)->∀ b∈fp,dg X Py H' b:=λhn b hb=>⟨hn b hb,(f2 b hb).2⟩;refine codeAny_forLoop_any (λn s'=>∃ i σ' H',am X Py σ' H' s'/\tn i s'.heap/\(∀ b∈fp,H' b=none)/\W i n σ' H') ?_ m0 ⟨0,σ,H2,I2,st2,λb hb=>(f2 b hb).1,w0⟩;rintro n s3 ⟨i,σ3,H3,I3,st3,fr3,w3⟩;rcases turn i n σ3 H3 w3 with⟨stop,qn⟩|⟨go,N,hN,step⟩
 ·refine Pq hp (aN (T.done X rfl rfl rfl hc i Py s3 σ3 H3 X.xe I3 (stat fr3) st3 stop) λr s4 ⟨hr,I4⟩=>?_);subst hr;exact Ps ⟨σ3,H3,I4,qn⟩
 ·refine Pq hp (aN (T.item X rfl rfl rfl hc i Py s3 σ3 H3 X.xe I3 (stat fr3) st3 go) λr s4 ⟨u,hr,h4⟩=>?_);subst hr;refine Pq hp (aN h4 λ_ s5 ⟨x,H5,I5,r5,y5,st5,fr5⟩=>?_);have I5':=I5.pinned (stat fr5) (T.obj _ _ st5);refine Pq hp (aN (hg _ s5 σ3 H5 x u _ I5' r5 (step x H5 y5)) λ_ s6 ⟨σ6,H6,I6,q6⟩=>?_);refine Pq hp (aN (hb _ s6 σ6 H6 _ I6 q6) λf s7 q7=>?_);have again:∀{σ7:St}{H7:Hp},am X (Py++oR fp s5.heap) σ7 H7 s7->N σ7 H7->∃ m,m<n/\∃ i σ' H',am X Py σ' H' s7/\tn i s7.heap/\(∀ b∈fp,H' b=none)/\W i m σ' H':=λ{σ7 H7} I7 n7=>by obtain⟨m',hm,w7⟩:=hN σ7 H7 n7;refine⟨m',hm,i+1,σ7,H7,I7.unpinned,T.keep _ _ _ st5 λb hb o e=>(I7.pin (b,o) (N3 _ (N3 _ (uE hb e)))).1,λb hb=>?_,w7⟩;obtain⟨o,e,d⟩:=T.obj _ _ st5 b hb;exact(I7.pin (b,o) (N3 _ (N3 _ (uE hb e)))).2.1
  cases f with
  |next=>obtain⟨σ7,H7,I7,n7⟩:=q7;exact again I7 n7
  |cont=>obtain⟨σ7,H7,I7,n7⟩:=q7;exact again I7 n7
  |brk=>obtain⟨σ7,H7,I7,q7⟩:=q7;exact⟨σ7,H7,I7.unpinned,q7⟩
  |ret v=>obtain⟨x7,σ7,H7,I7,r7,q7⟩:=q7;exact⟨x7,σ7,H7,I7.unpinned,r7,q7⟩
end
theorem IX{tb:TS}{D:bI}(Pv:Nat->St->Hp->Prop)(h0:Pv 0 σ H)(hl:∀ i σ H,i<=xs.length->Pv i σ H->ar K H a xs)(hs:∀ i x σ H,xs[i]?=some x->Pv i σ H->g x σ H λσ2 H2=>tb {D with nx:=Pv (i+1),ct:=Pv (i+1),bk:=D.nx} σ2 H2)(hd:∀ σ H,Pv xs.length σ H->D.nx σ H):
  ∃ W:Nat->Nat->St->Hp->Prop,(∃ m,W 0 m σ H)/\∀ i m σ H,W i m σ H->
   ((lR K a).stop i H/\D.nx σ H)\/((lR K a).go i H/\∃ N:St->Hp->Prop,(∀ σ' H',N σ' H'->∃ m',m'<m/\W (i+1) m' σ' H')/\∀ x H',(lR K a).yld i H x H'->g x σ H' λσ2 H2=>tb {D with nx:=N,ct:=N,bk:=D.nx} σ2 H2):=by
 nomatch λi m σ H=>m=xs.length - i/\i<=xs.length/\Pv i σ H,⟨xs.length,by simp,OF _,h0⟩;rintro i m σ H ⟨rfl,hi,p⟩;have q:=hl i σ H hi p;by_cases hlt:i<xs.length
 ·refine .inr ⟨⟨xs,xs[i],q,by simp[hlt]⟩,Pv (i+1),λσ' H' p'=>⟨xs.length - (i+1),by omega,rfl,hlt,p'⟩,λx H' y=>?_⟩;obtain⟨e,y⟩:=y;subst e;exact hs i x σ _ (y xs q) p
 ·have e:i=xs.length:=by omega
  subst e;exact .inl ⟨⟨xs,q,NV _⟩,hd σ H p⟩
theorem Kc{tb:TS}{D:bI}(Pv:Nat->St->Hp->Prop)(h0:Pv 0 σ H)(hs:∀ i σ H,i<n->Pv i σ H->g (.int (lo+i)) σ H λσ2 H2=>tb {D with nx:=Pv (i+1),ct:=Pv (i+1),bk:=D.nx} σ2 H2)(hd:∀ σ H,Pv n σ H->D.nx σ H):
  ∃ W:Nat->Nat->St->Hp->Prop,(∃ m,W 0 m σ H)/\∀ i m σ H,W i m σ H->
   ((kF lo n).stop i H/\D.nx σ H)\/((kF lo n).go i H/\∃ N:St->Hp->Prop,(∀ σ' H',N σ' H'->∃ m',m'<m/\W (i+1) m' σ' H')/\∀ x H',(kF lo n).yld i H x H'->g x σ H' λσ2 H2=>tb {D with nx:=N,ct:=N,bk:=D.nx} σ2 H2):=by
 nomatch λi m σ H=>m=n - i/\i<=n/\Pv i σ H,⟨n,by simp,OF _,h0⟩;rintro i m σ H ⟨rfl,hi,p⟩;by_cases hlt:i<n
 ·refine .inr ⟨hlt,Pv (i+1),λσ' H' p'=>⟨n - (i+1),by omega,rfl,hlt,p'⟩,λx H' y=>?_⟩;obtain⟨e,y⟩:=y;subst e y;exact hs i σ _ hlt p
 ·have e:i=n:=by omega
  subst e;exact .inl ⟨NV _,hd σ H p⟩
abbrev R2:=V->V->Hp->VK->Prop
def bV (X:Cx)(f:Value->Value->Sem Value)(r:R2):Prop:=
 ∀(Py:QX) (s:Shared) (σ:St) (H:Hp) (x y:V) (v u:Value) (Q:VK),am X Py σ H s->aC x v->aC y u->r x y H Q->
  wpAny (model X.prog X.w) X.A (f v u) (EP X Py σ Q) X.xe s
def zW (X:Cx)(f:Value->Sem Value)(r:V->Hp->VK->Prop):Prop:=
 ∀(Py:QX) (s:Shared) (σ:St) (H:Hp) (x:V) (v:Value) (Q:VK),am X Py σ H s->aC x v->r x H Q->
  wpAny (model X.prog X.w) X.A (f v) (EP X Py σ Q) X.xe s
def dD (X:Cx)(f:Value)(r:QV->Hp->VK->Prop):Prop:=
 ∀(Py:QX) (s:Shared) (σ:St) (H:Hp) (xs:QV) (us:List Value) (Q:VK),am X Py σ H s->ax xs us->r xs H Q->
  wpAny (model X.prog X.w) X.A (call f us) (EP X Py σ Q) X.xe s
def zX (X:Cx)(r:V->Hp->(Bool->Hp->Prop)->Prop):Prop:=
 ∀(Py:QX) (s:Shared) (σ:St) (H:Hp) (x:V) (v:Value) (Q:Bool->Hp->Prop),am X Py σ H s->aC x v->r x H Q->
  wpAny (model X.prog X.w) X.A (truthy v) (TP X Py σ Q) X.xe s
def i_ (r:R2)(ta tb:TE):TE:=λσ H Q=>ta σ H λx H1=>tb σ H1 λy H2=>r x y H2 Q
def Fd (r:V->Hp->VK->Prop)(ta:TE):TE:=λσ H Q=>ta σ H λx H1=>r x H1 Q
def rI (C:Int->Int->Prop)(g:Int->Int->V):R2:=λx y H Q=>∃ i j,x=.int i/\y=.int j/\C i j/\Q (g i j) H
def jQ (g:Int->Int->V):R2:=λx y H Q=>∃ i j,x=.int i/\y=.int j/\Q (g i j) H
def rU (g:Int->V):V->Hp->VK->Prop:=λx H Q=>∃ i,x=.int i/\Q (g i) H
variable {r:R2}
section
variable {a b:Expr}{tc:TE}
theorem m5(ha:PE X a ta)(hb:PE X b tb)(I:am X Py σ H s)(h:ta σ H λx H1=>tb σ H1 λy H2=>R x y H2){f:Value->Value->Sem Value}(hf:∀ v u s2 x y H2,am X Py σ H2 s2->aC x v->aC y u->R x y H2->wpAny (model X.prog X.w) X.A (f v u) Q X.xe s2):
  wpAny (model X.prog X.w) X.A (eval a X.env) (λv s₁=>wpAny (model X.prog X.w) X.A (eval b X.env) (λu s₂=>wpAny (model X.prog X.w) X.A (f v u) Q X.xe s₂) X.xe s₁) X.xe s:=by refine aN (ha Py s σ H _ I h) λv s1 ⟨x,H1,I1,r1,q1⟩=>?_;refine aN (hb Py s1 σ H1 _ I1 q1) λu s2 ⟨y,H2,I2,r2,q2⟩=>?_;exact hf v u s2 x y H2 I2 r1 r2 q2
theorem aO{op:Operator}(ho:bV X (binaryOp op) r)(ha:PE X a ta)(hb:PE X b tb):PE X (.BinOp a op b pos) (i_ r ta tb):=by intro Py s σ H Q I h;exact wpAny_BinOp (m5 ha hb I h λv u s2 x y H2 I2 rx ry q=>ho Py s2 σ H2 x y v u Q I2 rx ry q)
theorem dP {op:UnaryOp}{r:V->Hp->VK->Prop}(ho:zW X (unaryOp op) r)(ha:PE X a ta):PE X (.UnaryOp op a pos) (Fd r ta):=by intro Py s σ H Q I h;exact UnaryOp_ (aN (ha Py s σ H _ I h) λv s1 ⟨x,H1,I1,r1,q1⟩=>ho Py s1 σ H1 x v Q I1 r1 q1)
variable {g:Int->Int->Int}
theorem uO{f:Value->Value->Sem Value}{C:Int->Int->Prop}(rule:∀(i j:Int) (t u:Tok) (s:Shared) (Q:Value->Shared->Prop) (E:Value->Shared->Prop),C i j->Q (.int (g i j) s.toks) {s with toks:=s.toks+1}->wpAny (model X.prog X.w) X.A (f (.int i t) (.int j u)) Q E s):
  bV X f (rI C λi j=>.int (g i j)):=by intro Py s σ H x y v u Q I rx ry h;obtain⟨i,j,rfl,rfl,hc,q⟩:=h;obtain⟨t,rfl⟩:=rx;obtain⟨t',rfl⟩:=ry;exact rule i j t t' s _ _ hc ⟨.int (g i j),H,I.tok _,⟨_,rfl⟩,q⟩
theorem qC{f:Value->Value->Sem Value}(rule:∀(i j:Int) (t u:Tok) (s:Shared) (Q:Value->Shared->Prop) (E:Value->Shared->Prop),Q (.int (g i j) s.toks) {s with toks:=s.toks+1}->wpAny (model X.prog X.w) X.A (f (.int i t) (.int j u)) Q E s):
  bV X f (jQ λi j=>.int (g i j)):=by intro Py s σ H x y v u Q I rx ry h;obtain⟨i,j,rfl,rfl,q⟩:=h;obtain⟨t,rfl⟩:=rx;obtain⟨t',rfl⟩:=ry;exact rule i j t t' s _ _ ⟨.int (g i j),H,I.tok _,⟨_,rfl⟩,q⟩
theorem kr {f:Value->Value->Sem Value}{g:Int->Int->Bool}
  (rule:∀(i j:Int) (t u:Tok) (s:Shared) (Q:Value->Shared->Prop) (E:Value->Shared->Prop),Q (.bool (g i j)) s->wpAny (model X.prog X.w) X.A (f (.int i t) (.int j u)) Q E s):
  bV X f (jQ λi j=>.bl (g i j)):=by intro Py s σ H x y v u Q I rx ry h;obtain⟨i,j,rfl,rfl,q⟩:=h;obtain⟨t,rfl⟩:=rx;obtain⟨t',rfl⟩:=ry;exact rule i j t t' s _ _ ⟨.bl (g i j),H,I,rfl,q⟩
def sT (i j:Int):Prop:=0<j/\j<1073741824
def sS (i j:Int):Prop:=0<=j/\j<=1000000/\i.natAbs<2 ^ 64
def gb (i j:Int):Prop:=(-(2 ^ 64)<i/\i<2 ^ 64)\/(-(2 ^ 64)<j/\j<2 ^ 64)
theorem gb.ok {i j:Int}(h:gb i j):IntMulOk i j:=by
 rcases h with⟨h1,h2⟩|⟨h1,h2⟩
 ·exact .of_left (intBits_le_64 h1 h2)
 ·exact .of_right (intBits_le_64 h1 h2)
theorem Gg:bV X (binaryOp .Add) (jQ λi j=>.int (i+j)):=qC λ_ _ _ _ _ _ _ q=>add_int q
theorem mh:bV X (binaryOp .Sub) (jQ λi j=>.int (i - j)):=qC λ_ _ _ _ _ _ _ q=>sub_int q
theorem Gf:bV X (binaryOp .Mult) (rI gb λi j=>.int (i*j)):=uO λ_ _ _ _ _ _ _ hc q=>mul_int q hc.ok
theorem cW:bV X (binaryOp .FloorDiv) (rI sT λi j=>.int (i/j)):=uO λi j _ _ _ _ _ hc q=>by have h1:(0:Int)<j:=hc.1;have h2:j<1073741824:=hc.2;exact floordiv_int (by omega) (by rw[Int.fdiv_eq_ediv_of_nonneg i (by omega)];exact q) (.inl (PyProof.noPylong_small (by omega)))
theorem cy:bV X (binaryOp .Mod) (rI (λ_ j=>0<j) λi j=>.int (i%j)):=uO λi j _ _ _ _ _ hc q=>by have h1:(0:Int)<j:=hc;exact mod_int' (by omega) (by rw[Int.fmod_eq_emod_of_nonneg i (by omega)];exact q)
theorem mf:bV X (binaryOp .Pow) (rI sS λi j=>.int (i ^ j.toNat)):=uO λ_ _ _ _ _ _ _ hc q=>pow_int_small hc.1 hc.2.1 hc.2.2 q
theorem NA {f:Value->Sem Value}{g:Int->Int}
  (rule:∀(i:Int) (t:Tok) (s:Shared) (Q:Value->Shared->Prop) (E:Value->Shared->Prop),Q (.int (g i) s.toks) {s with toks:=s.toks+1}->wpAny (model X.prog X.w) X.A (f (.int i t)) Q E s):
  zW X f (rU λi=>.int (g i)):=by intro Py s σ H x v Q I rx h;obtain⟨i,rfl,q⟩:=h;obtain⟨t,rfl⟩:=rx;exact rule i t s _ _ ⟨.int (g i),H,I.tok _,⟨_,rfl⟩,q⟩
theorem dX:zW X (unaryOp .USub) (rU λi=>.int (-i)):=NA λ_ _ _ _ _ q=>neg_int q
end
noncomputable def qe:V->V->Bool
 |.non,.non=>true | .non,.int _=>true | .int _,.non=>true | .non,.bl _=>true | .bl _,.non=>true | .non,.str _=>true | .str _,.non=>true|.int _,.int _=>true | .bl _,.bl _=>true | .str _,.str _=>true | .byt _,.byt _=>true|.int _,.str _=>true | .str _,.int _=>true | .bl _,.str _=>true | .str _,.bl _=>true|_,_=>false
def Fl:R2:=λx y H Q=>qe x y=true/\Q (.bl (decide (x=y))) H
def Fk:R2:=λx y H Q=>qe x y=true/\Q (.bl (!decide (x=y))) H
theorem CK {i j:Int}:decide (V.int i=V.int j)=(i==j):=by rw[OJ];simp
theorem BX {i j:Bool}:decide (V.bl i=V.bl j)=(i==j):=by rw[OJ];simp
theorem CJ {i j:Str}:decide (V.str i=V.str j)=(i==j):=by rw[OJ];simp
theorem CI {i j:Array UInt8}:decide (V.byt i=V.byt j)=(i.toList==j.toList):=by rw[OJ];cases i;cases j;simp
variable {r':R2}{op':CmpOp}
section
variable {a b:Expr}{tc:TE}
theorem cZ{Q:VK}{k k':Bool}(I:am X Py σ H s)(q:Q (.bl k) H)(e:k=k'):EP X Py σ Q (.bool k') s:=by subst e;exact⟨.bl k,H,I,rfl,q⟩
theorem qB:bV X (compareOp .Eq) Fl:=by
 intro Py s σ H x y v u Q I rx ry h;obtain⟨hs,q⟩:=h;cases x with
 |non=>
  cases rx;cases y with
  |non=>cases ry;exact PySem.EqNone.eq_none_none (cZ I q (by simp))
  |bl j=>cases ry;exact PySem.EqNone.eq_none_bool (cZ I q (by simp))
  |int j=>obtain⟨t',rfl⟩:=ry;exact PySem.EqNone.eq_none_int (cZ I q (by simp))
  |str j=>obtain⟨t',rfl⟩:=ry;exact PySem.EqNone.eq_none_str (cZ I q (by simp))
  |_=>exact Oa (show false=true from hs) N5
 |bl i=>
  cases rx;cases y with
  |non=>cases ry;exact PySem.EqNone.eq_bool_none (cZ I q (by simp))
  |bl j=>cases ry;exact eq_bool (cZ I q BX)
  |str j=>obtain⟨t',rfl⟩:=ry;exact PySem.EqMixed.eq_bool_str (cZ I q (by simp))
  |_=>exact Oa (show false=true from hs) N5
 |int i=>
  obtain⟨t,rfl⟩:=rx;cases y with
  |non=>cases ry;exact PySem.EqNone.eq_int_none (cZ I q (by simp))
  |int j=>obtain⟨t',rfl⟩:=ry;exact eq_int (cZ I q CK)
  |str j=>obtain⟨t',rfl⟩:=ry;exact PySem.EqMixed.eq_int_str (cZ I q (by simp))
  |_=>exact Oa (show false=true from hs) N5
 |str i=>
  obtain⟨t,rfl⟩:=rx;cases y with
  |non=>cases ry;exact PySem.EqNone.eq_str_none (cZ I q (by simp))
  |bl j=>cases ry;exact PySem.EqMixed.eq_str_bool (cZ I q (by simp))
  |int j=>obtain⟨t',rfl⟩:=ry;exact PySem.EqMixed.eq_str_int (cZ I q (by simp))
  |str j=>obtain⟨t',rfl⟩:=ry;exact eq_str (cZ I q CJ)
  |_=>exact Oa (show false=true from hs) N5
 |byt i=>
  obtain⟨t,rfl⟩:=rx;cases y with
  |byt j=>obtain⟨t',rfl⟩:=ry;exact PySem.W.eq_bytes (cZ I q CI)
  |_=>exact Oa (show false=true from hs) N5
 |_=>cases y<;>exact Oa (show false=true from hs) N5
theorem qA:bV X (compareOp .NotEq) Fk:=by
 intro Py s σ H x y v u Q I rx ry h;obtain⟨hs,q⟩:=h;cases x with
 |non=>
  cases rx;cases y with
  |non=>cases ry;exact PySem.EqNone.ne_none_none (cZ I q (by simp))
  |bl j=>cases ry;exact PySem.EqNone.ne_none_bool (cZ I q (by simp))
  |int j=>obtain⟨t',rfl⟩:=ry;exact PySem.EqNone.ne_none_int (cZ I q (by simp))
  |str j=>obtain⟨t',rfl⟩:=ry;exact PySem.EqNone.ne_none_str (cZ I q (by simp))
  |_=>exact Oa (show false=true from hs) N5
 |bl i=>
  cases rx;cases y with
  |non=>cases ry;exact PySem.EqNone.ne_bool_none (cZ I q (by simp))
  |bl j=>cases ry;exact ne_bool (cZ I q (congrArg not BX))
  |str j=>obtain⟨t',rfl⟩:=ry;exact PySem.EqMixed.ne_bool_str (cZ I q (by simp))
  |_=>exact Oa (show false=true from hs) N5
 |int i=>
  obtain⟨t,rfl⟩:=rx;cases y with
  |non=>cases ry;exact PySem.EqNone.ne_int_none (cZ I q (by simp))
  |int j=>obtain⟨t',rfl⟩:=ry;exact ne_int (cZ I q (congrArg not CK))
  |str j=>obtain⟨t',rfl⟩:=ry;exact PySem.EqMixed.ne_int_str (cZ I q (by simp))
  |_=>exact Oa (show false=true from hs) N5
 |str i=>
  obtain⟨t,rfl⟩:=rx;cases y with
  |non=>cases ry;exact PySem.EqNone.ne_str_none (cZ I q (by simp))
  |bl j=>cases ry;exact PySem.EqMixed.ne_str_bool (cZ I q (by simp))
  |int j=>obtain⟨t',rfl⟩:=ry;exact PySem.EqMixed.ne_str_int (cZ I q (by simp))
  |str j=>obtain⟨t',rfl⟩:=ry;exact ne_str (cZ I q (congrArg not CJ))
  |_=>exact Oa (show false=true from hs) N5
 |byt i=>
  obtain⟨t,rfl⟩:=rx;cases y with
  |byt j=>obtain⟨t',rfl⟩:=ry;exact PySem.W.ne_bytes (cZ I q (congrArg not CI))
  |_=>exact Oa (show false=true from hs) N5
 |_=>cases y<;>exact Oa (show false=true from hs) N5
theorem oM:bV X (compareOp .Lt) (jQ λi j=>.bl (decide (i<j))):=kr λ_ _ _ _ _ _ _ q=>lt_int q
theorem nj:bV X (compareOp .LtE) (jQ λi j=>.bl (decide (i<=j))):=kr λ_ _ _ _ _ _ _ q=>le_int q
theorem vv:bV X (compareOp .Gt) (jQ λi j=>.bl (decide (j<i))):=kr λ_ _ _ _ _ _ _ q=>gt_int q
theorem vt:bV X (compareOp .GtE) (jQ λi j=>.bl (decide (j<=i))):=kr λ_ _ _ _ _ _ _ q=>ge_int q
theorem md:bV X (compareOp .Is) (λx y H Q=>y=.non/\Q (.bl (decide (x=.non))) H):=by
 intro Py s σ H x y v u Q I rx ry h;obtain⟨rfl,q⟩:=h;cases ry;refine is_none_gen (cZ I q ?_);cases x<;>first
  |(cases rx;rfl)|(obtain⟨t,rfl⟩:=rx;rfl)
theorem wv:bV X (compareOp .IsNot) (λx y H Q=>y=.non/\Q (.bl (!decide (x=.non))) H):=by
 intro Py s σ H x y v u Q I rx ry h;obtain⟨rfl,q⟩:=h;cases ry;refine isnot_none_gen (cZ I q ?_);cases x<;>first
  |(cases rx;rfl)|(obtain⟨t,rfl⟩:=rx;rfl)
theorem bV.or{f:Value->Value->Sem Value}(h:bV X f r)(h':bV X f r'):bV X f (λx y H Q=>r x y H Q\/r' x y H Q):=by
 intro Py s σ H x y v u Q I rx ry q;rcases q with q|q
 ·exact h Py s σ H x y v u Q I rx ry q
 ·exact h' Py s σ H x y v u Q I rx ry q
theorem tF(b:Expr)(h:↥(op≠.In))(h2:↥(op≠.NotIn)):behindInMarks op b=false:=by
 have e1:(op==CmpOp.In)=false:=by cases op<;>first|rfl|exact Oa rfl h
 have e2:(op==CmpOp.NotIn)=false:=by cases op<;>first|rfl|exact Oa rfl h2
 cases b<;>simp[behindInMarks,e1,e2]
theorem wu(ho:bV X (compareOp op) r)(ha:PE X a ta)(hb:PE X b tb)(hm:behindInMarks op b=false):PE X (.Compare a [op] [b] pos) (i_ r ta tb):=by intro Py s σ H Q I h;exact wpAny_Compare1 (m5 ha hb I h λv u s2 x y H2 I2 rx ry q=>ho Py s2 σ H2 x y v u Q I2 rx ry q) hm
def oK (t:TE):TT:=λσ H Q=>t σ H λx H'=>∃ k,x=.bl k/\Q k H'
theorem wr(ho:bV X (compareOp op) r)(ha:PE X a ta)(hb:PE X b tb)(hm:behindInMarks op b=false):PT X (.Compare a [op] [b] pos) (oK (i_ r ta tb)):=by
 intro Py s σ H Q I h;refine wpAny_isTrue_Compare1 (aN (ha Py s σ H _ I h) λv s1 ⟨x,H1,I1,r1,q1⟩=>aN (hb Py s1 σ H1 _ I1 q1) λu s2 ⟨y,H2,I2,r2,q2⟩=>
  aN (ho Py s2 σ H2 x y v u _ I2 r1 r2 q2) λc s3 ⟨z,H3,I3,r3,k,e,q3⟩=>?_) hm
 subst e;cases r3;exact Pj ⟨H3,I3,q3⟩
def vL (r r':R2)(ta tb tc:TE):TE:=λσ H Q=>ta σ H λx H1=>tb σ H1 λy H2=>r x y H2 λz H3=>∃ k,z=.bl k/\
 (if k=true then tc σ H3 λw' H4=>r' y w' H4 Q else Q (.bl false) H3)
theorem IW(ho:bV X (compareOp op) r)(ho':bV X (compareOp op') r')(ha:PE X a ta)(hb:PE X b tb)(hc:PE X c tc)(hm:autoParam (lastMarks [op,op'] [b,c]=false) Fc):PE X (.Compare a [op,op'] [b,c] pos) (vL r r' ta tb tc):=by
 intro Py s σ H Q I h;refine Compare_chain (aN (ha Py s σ H _ I h) λv s1 ⟨x,H1,I1,r1,q1⟩=>chain_link (aN (hb Py s1 σ H1 _ I1 q1) λu s2 ⟨y,H2,I2,r2,q2⟩=>
  aN (ho Py s2 σ H2 x y v u _ I2 r1 r2 q2) λd s3 ⟨z,H3,I3,r3,k,e,q3⟩=>?_)) hm
 subst e;cases r3;refine Pj ?_;cases k with
 |false=>exact ite_ff ⟨.bl false,H3,I3,rfl,q3⟩
 |true=>exact ite_tt (chain_last (aN (hc Py s3 σ H3 _ I3 q3) λw' s4 ⟨z',H4,I4,r4,q4⟩=>ho' Py s4 σ H4 y z' u w' Q I4 r2 r4 q4))
theorem IV(ho:bV X (compareOp op) r)(ho':bV X (compareOp op') r')(ha:PE X a ta)(hb:PE X b tb)(hc:PE X c tc)(hm:autoParam (lastMarks [op,op'] [b,c]=false) Fc):PT X (.Compare a [op,op'] [b,c] pos) (oK (vL r r' ta tb tc)):=by
 intro Py s σ H Q I h;refine isTrue_chain (aN (ha Py s σ H _ I h) λv s1 ⟨x,H1,I1,r1,q1⟩=>test_link (aN (hb Py s1 σ H1 _ I1 q1) λu s2 ⟨y,H2,I2,r2,q2⟩=>
  aN (ho Py s2 σ H2 x y v u _ I2 r1 r2 q2) λd s3 ⟨z,H3,I3,r3,k,e,q3⟩=>?_)) hm
 subst e;cases r3;refine Pj ?_;cases k with
 |false=>obtain⟨k',e',q'⟩:=q3;cases e';exact ite_ff ⟨H3,I3,q'⟩
 |true=>refine ite_tt (test_last (aN (hc Py s3 σ H3 _ I3 q3) λw' s4 ⟨z',H4,I4,r4,q4⟩=>aN (ho' Py s4 σ H4 y z' u w' _ I4 r2 r4 q4) λd' s5 ⟨z2,H5,I5,r5,k2,e2,q5⟩=>?_));subst e2;cases r5;exact Pj ⟨H5,I5,q5⟩
def jm (K:Fg)(x:V)(H:Hp)(k:Bool):Prop:=
 match x with
 |.non=>k=false|.bl b=>k=b|.int i=>k=(i !=0)|.str y=>y.length<=sizeLine/\k=((y.length:Int) !=0)|.byt y=>y.size<=sizeLine/\k=((y.size:Int) !=0)|.ref p=>(∃ xs,ar K H p xs/\k=!xs.isEmpty)\/(∃ xs,aH K H p xs/\k=!xs.isEmpty)\/∃ kvs,H p=some (.dK kvs)/\k=!kvs.isEmpty|_=>False
theorem KL {κ:Type}{kvs:List (κ×V)}{vs:List (κ×Value)}(r:KV kvs vs):(!vs.isEmpty)=!kvs.isEmpty:=by cases r<;>rfl
theorem EA{its:List Value}(r:ax xs its):(!its.toArray.isEmpty)=!xs.isEmpty:=by cases r<;>simp
theorem nQ:(sizeLine:Nat)<2 ^ 63:=by rw[sizeLine_eq];decide
theorem Ge:zX X (λx H Q=>∃ k,jm X.K x H k/\Q k H):=by
 intro Py s σ H x v Q I rx h;obtain⟨k,e,q⟩:=h;have hl:=nQ;have hs:sizeLine=16777216:=sizeLine_eq;cases x with
 |non=>cases rx;have e':k=false:=e;subst e';exact truthy_none ⟨H,I,q⟩
 |bl b=>cases rx;have e':k=b:=e;subst e';exact Pj ⟨H,I,q⟩
 |int i=>obtain⟨t,rfl⟩:=rx;have e':k=(i !=0):=e;subst e';exact PySem.P.truthy_int ⟨H,I,q⟩
 |str y=>obtain⟨t,rfl⟩:=rx;obtain⟨hy,e'⟩:y.length<=sizeLine/\k=((y.length:Int) !=0):=e;subst e';exact PySem.P.truthy_str (by omega) ⟨H,I.tok _,q⟩
 |byt y=>obtain⟨t,rfl⟩:=rx;obtain⟨hy,e'⟩:y.size<=sizeLine/\k=((y.size:Int) !=0):=e;subst e';exact PySem.W.truthy_bytes (by omega) ⟨H,I.tok _,q⟩
 |ref p=>
  cases rx;have e':(∃ xs,ar X.K H p xs/\k=!xs.isEmpty)\/(∃ xs,aH X.K H p xs/\k=!xs.isEmpty)\/∃ kvs,H p=some (.dK kvs)/\k=!kvs.isEmpty:=e;rcases e' with⟨xs,hx,e'⟩|⟨xs,hx,e'⟩|⟨kvs,hx,e'⟩
  ·subst e';obtain⟨its,r,pl,hz⟩:=I.list hx;have hlen:=r.length;exact wpAny_truthy_list pl.isList (by simp only[bM];omega) ⟨H,I.tok _,by rw[EA r];exact q⟩
  ·subst e';obtain⟨its,r,pl,hz⟩:=I.tuple hx;have hlen:=r.length;exact truthy_tuple pl (by simp only[bM];omega) ⟨H,I.tok _,by rw[EA r];exact q⟩
  ·subst e';obtain⟨hz,hS,vs,r,m⟩:kvs.length<=sizeLine/\(p==sysModules)=false/\∃ vs,KV kvs vs/\s.heap.DictOf (eM X.prog X.w) p vs:=I.hok p _ hx;have hlen:kvs.length=vs.length:=Paired.length r;exact wpAny_truthy_dict hS m (by omega) ⟨H,I.tok _,by rw[KL r];exact q⟩
 |_=>exact(show False from e).elim
theorem IU (ha:PE X a ta)(he:∀ PQ,isTrue a X.env PQ=(do let v<-PQ;standAt a.pos;holding [v] (truthy v))):
  PT X a (λσ H Q=>ta σ H λx H'=>∃ k,jm X.K x H' k/\Q k H'):=by intro Py s σ H Q I h;exact isTrue_plain (aN (ha Py s σ H _ I h) λv s1 ⟨x,H1,I1,r1,q1⟩=>Ge Py s1 σ H1 x v Q I1 r1 q1) (he _)
variable {x:V}
theorem jz(r:ax [x] us):∃ u,us=[u]/\aC x u:=by
 cases r with|cons r1 r2=>cases r2;exact⟨_,rfl,r1⟩
theorem vq(r:ax [x,y] us):∃ u w',us=[u,w']/\aC x u/\aC y w':=by
 cases r with|cons r1 r2=>
  cases r2 with|cons r3 r4=>cases r4;exact⟨_,_,rfl,r1,r3⟩
theorem Kb (hc:X.calm=true):dD X (.builtin "max") (λxs H Q=>∃ i j,xs=[.int i,.int j]/\Q (.int (if j>i then j else i)) H):=by
 intro Py s σ H xs us Q I r h;obtain⟨i,j,rfl,q⟩:=h;obtain⟨u,w',rfl,⟨t,rfl⟩,⟨t',rfl⟩⟩:=vq r;refine max_two_ints (I.ok.hd hc) λh' tk k=>⟨_,H,I.kept k,?_,q⟩;by_cases hj:j>i
 ·rw[NU hj,NU hj];exact⟨_,rfl⟩
 ·rw[NR hj,NR hj];exact⟨_,rfl⟩
theorem Ka (hc:X.calm=true):dD X (.builtin "min") (λxs H Q=>∃ i j,xs=[.int i,.int j]/\Q (.int (if j<i then j else i)) H):=by
 intro Py s σ H xs us Q I r h;obtain⟨i,j,rfl,q⟩:=h;obtain⟨u,w',rfl,⟨t,rfl⟩,⟨t',rfl⟩⟩:=vq r;refine min_two_ints (I.ok.hd hc) λh' tk k=>⟨_,H,I.kept k,?_,q⟩;by_cases hj:j<i
 ·rw[NU hj,NU hj];exact⟨_,rfl⟩
 ·rw[NR hj,NR hj];exact⟨_,rfl⟩
theorem J_:dD X (.type "int") (λxs H Q=>(∃ i,xs=[.int i]/\Q (.int i) H)\/∃ k,xs=[.bl k]/\Q (.int (if k then 1 else 0)) H):=by
 intro Py s σ H xs us Q I r h;rcases h with⟨i,rfl,q⟩|⟨k,rfl,q⟩
 ·obtain⟨u,rfl,t,rfl⟩:=jz r;exact call_int_int ⟨.int i,H,I,⟨_,rfl⟩,q⟩
 ·obtain⟨u,rfl,r1⟩:=jz r;cases r1;exact call_int_bool ⟨.int (if k then 1 else 0),H,I.tok _,⟨_,rfl⟩,q⟩
end
structure gV (h:Heap)(x dx C:Addr)(mA:Str->Option Value):Prop where
 obj:h.get? x=some (PySem.W.instObj C dx)
 ns:h.Ns1 dx mA
 ne:dx≠x
variable {dx:Addr}{mA:Str->Option Value}
theorem KA(n:h.Ns1 dx mA):∃ od,h.get? dx=some od/\∀ name,PySem.W.lookIn name od=some (mA name):=by
 obtain⟨o,es,ep,ho,hd,hk,_,hm⟩:=n;refine⟨o,ho,λname=>?_⟩;have e:=hm name;unfold nsFind findBy at e;rw[<-Array.find?_toList]at e;unfold PySem.W.lookIn;rw[hd];dsimp only;split
 ·rename_i y q;rw[q]at e;exact congrArg some e
 ·rename_i q;rw[q]at e;have a:es.toList.any (·.refKey)=false:=by rw[List.any_eq_false];intro y hy;obtain⟨z,t,hkey⟩:=hk y (Array.mem_toList_iff.mp hy);simp[DictEntry.refKey,hkey]
  have a':¬ es.toList.any (·.refKey)=true:=by rw[a];exact N5
  rw[NR a'];exact congrArg some e
variable {C:Addr}
theorem gV.look{x:Addr}(I:gV h x dx C mA):∃ od,PySem.W.InstAt h x (PySem.W.instObj C dx) C (some od)/\∀ name,PySem.W.lookIn name od=some (mA name):=
 let ⟨od,ho,hl⟩:=KA I.ns
 ⟨od,⟨I.obj,rfl,rfl,ho⟩,hl⟩
variable {pl:Sem Bool}{kw:List (Str×Value)}{prog:Program}{name:Str}
section
variable {x f:Addr}{v:Value}
theorem Iy{expr:Bool}(X:K.In s.heap)(I:gV s.heap x dx C mA)(hg:PySem.W.plainGet K C name=true)(hh:PySem.W.hasDictIn K C=true)(ha:PySem.W.findIn K (.ref C) name=some none)(hv:mA name=some v)(hv':PySem.W.handedIn v=true)(h:Q v {s with toks:=s.toks+1}):
  wpAny (model prog w) A (getAttr (.ref x) name expr) Q E s:=by obtain⟨od,J,hl⟩:=I.look;exact PySem.W.get_value X J (PySem.W.plainGet_of hg).1 (PySem.W.findObj_own hh ha rfl (by rw[hl,hv])) hv' h
theorem IS{Q:Value×List Value->Shared->Prop}(X:K.In s.heap)(I:gV s.heap x dx C mA)(hg:PySem.W.plainGet K C name=true)(hf:PySem.W.findIn K (.ref C) name=some (some (.ref f)))(ht:PySem.W.isFn K (.ref f)=true)(hv:mA name=none)(h:Q (.ref f,[.ref x]) s):
  wpAny (model prog w) A (getMethod (.ref x) name pl) Q E s:=by obtain⟨od,J,hl⟩:=I.look;exact PySem.W.method_fn X J (PySem.W.plainGet_of hg).1 (PySem.W.plainGet_of hg).2 hf (OR.mp ht) (by show(PySem.W.lookIn name od).map (·.isSome)=some false;rw[hl,hv];rfl) h
theorem Iw {ns:List Str}{Q:Unit->Shared->Prop}(X:K.In s.heap)(I:gV s.heap x dx C mA)
  (hs:PySem.W.findIn K (.ref C) "__setattr__"=some (some (.builtin "object.__setattr__"))) (hp:PySem.W.plainOver K C=true) (ht:PySem.W.takerIn K C name=some none) (hh:PySem.W.hasDictIn K C=true)
  (hw:PySem.Within mA ns) (hsz:ns.length<=sizeLine)
  (h:∀ h',gV h' x dx C (λy=>if y=name then some v else mA y)->Heap.SameBut dx s.heap h'->Q () {s with heap:=h',toks:=s.toks+2}):
  wpAny (model prog w) A (setAttr (.ref x) name v) Q E s:=by obtain⟨od,J,hl⟩:=I.look;refine PySem.W.set_plain X J hs (PySem.W.osa_open (s:={s with toks:=s.toks+1}) (r:=none) X J hp ht λb=>?_);obtain⟨cd,hc,hd'⟩:=PySem.W.any_some hh;have hx:s.heap.get? x=some ⟨.ref C,some dx,.plain,#[]⟩:=I.obj;refine Pc (Pf (Pc (Pc (wpAny_loadPart hx (Pc (PySem.W.Looks.here (s:={s with toks:=s.toks+1}) (PySem.W.looks_clsIn X hc) ?_))))));rw[hd'];refine Pf (a:=some dx) (Pc (Pf (Pc ?_)));refine wpAny_nsSet1 (s:={s with toks:=s.toks+1}) I.ns λh' hn2 hs2=>?_;obtain⟨oD,esD,epD,hoD,hdD,hcD⟩:=hn2.count (PySem.Within.cons name v hw);refine Pc (wpAny_lookBehind hoD (by rw[hdD];exact pastItsLine_dict (Od hcD (by rw[N_];omega))) ?_);exact Pf (h _ ⟨(hs2.2 _ (Ne.symm I.ne)).trans I.obj,hn2,I.ne⟩ hs2)
theorem Dt{R:Result->Shared->Prop}{vs:List Value}(X:K.In s.heap)(hm:PySem.W.makesIn K C=true)(hi:PySem.W.findIn K (.ref C) "__init__"=some (some (.ref f)))(hf:PySem.W.typeIn K (.ref f)=some (.type "function"))(h:codeAny (model prog w) (A.under (.builtin "type.__call__" ⟨.ref C::vs,kw⟩)) (.call (.ref f) ⟨.ref (s.heap.objs.size+1)::vs,kw⟩) (PySem.W.InitBack (s.heap.objs.size+1) R)
   {s with heap:=(s.heap.push PySem.W.emptyDict).push (PySem.W.instObj C s.heap.objs.size)}):
  codeAny (model prog w) A (.call (.ref C) ⟨vs,kw⟩) R s:=by obtain⟨hh,g,d,t,os⟩:=s;exact PySem.W.make_core (PySem.W.makes_of X hm) (PySem.W.looks_findIn X hi) (λself=>PySem.W.bind_fn X self hf) (.inl rfl) h
end
noncomputable def au (f:Str) (v:V):List (Str×V)->List (Str×V)
 |[]=>[(f,v)]|(g,x)::r=>if g=f then(g,v)::r else(g,x)::au f v r
theorem fW (f g:Str)(v:V):∀ fs:List (Str×V),(au f v fs).lookup g=if g=f then some v else fs.lookup g
 |[]=>by
  show List.lookup g [(f,v)]=_;by_cases h:g=f
  ·have hb:(g==f)=true:=OR.mpr h;simp only[List.lookup,hb,NU h]
  ·have hb:(g==f)=false:=OK.mpr h;simp only[List.lookup,hb,NR h]
 |(k,x)::r=>by
  have ih:=fW f g v r;rw[show au f v ((k,x)::r)=(if k=f then(k,v)::r else(k,x)::au f v r)from rfl];by_cases hk:k=f
  ·rw[NU hk];by_cases h:g=k
   ·have hb:(g==k)=true:=OR.mpr h;simp only[List.lookup,hb,NU (h.trans hk)]
   ·have hb:(g==k)=false:=OK.mpr h;simp only[List.lookup,hb,NR (λe:g=f=>h (e.trans hk.symm))]
  ·rw[NR hk];by_cases h:g=k
   ·have hb:(g==k)=true:=OR.mpr h;simp only[List.lookup,hb,NR (λe:g=f=>hk (h.symm.trans e))]
   ·have hb:(g==k)=false:=OK.mpr h;simp only[List.lookup,hb];exact ih
theorem xl (f:Str)(v:V):∀ fs:List (Str×V),f∈(au f v fs).map (·.1)/\∀ g,g∈fs.map (·.1)->g∈(au f v fs).map (·.1)
 |[]=>⟨by simp[au],λg h=>by simp at h⟩|(k,x)::r=>by
  obtain⟨i1,i2⟩:=xl f v r;rw[show au f v ((k,x)::r)=(if k=f then(k,v)::r else(k,x)::au f v r)from rfl];by_cases hk:k=f
  ·rw[NU hk];subst hk;exact⟨by simp,λg h=>by simpa using h⟩
  ·rw[NR hk];refine⟨?_,λg h=>?_⟩
   ·rw[bw];exact NZ _ i1
   ·rw[bw]at h ⊢;rcases NP.mp h with e|e
    ·exact NP.mpr (.inl e)
    ·exact NZ _ (i2 g e)
theorem x_ (f:Str)(v:V):∀ fs:List (Str×V),(au f v fs).length<=fs.length+1
 |[]=>by simp[au]|(k,x)::r=>by
  have ih:=x_ f v r;rw[show au f v ((k,x)::r)=(if k=f then(k,v)::r else(k,x)::au f v r)from rfl];by_cases hk:k=f
  ·rw[NU hk,N_,N_];omega
  ·rw[NR hk,N_,N_];omega
theorem cE.some_of{o:Option Value}(r:cE (some v) o):∃ u,o=some u/\aC v u:=by
 cases o with
 |none=>exact(show False from r).elim
 |some u=>exact⟨u,rfl,r⟩
theorem cE.none_of {o:Option Value}(r:cE none o):o=none:=by
 cases o with
 |none=>rfl
 |some u=>exact(show False from r).elim
theorem Kz(r:aC v u):PySem.W.handedIn u=true:=by
 cases v with
 |non=>cases(show u=Value.none from r);rfl
 |bl b=>cases(show u=Value.bool b from r);rfl
 |int i=>obtain⟨t,e⟩:=(show ∃ t,u=Value.int i t from r);cases e;rfl
 |str x=>obtain⟨t,e⟩:=(show ∃ t,u=Value.str x t from r);cases e;rfl
 |byt b=>obtain⟨t,e⟩:=(show ∃ t,u=Value.bytes b t from r);cases e;rfl
 |flt b=>obtain⟨t,e⟩:=(show ∃ t,u=Value.float b t from r);cases e;rfl
 |ref a=>cases(show u=Value.ref a from r);rfl
 |ty n=>cases(show u=Value.type n from r);rfl
section
variable {fs fs':List (Str×V)}
theorem tP (hok:dz P w H h)(e:H a=some (.ins C dx fs)):∃ mA,gV h a dx C mA/\(∀ f,cE (fs.lookup f) (mA f))/\PySem.Within mA (fs.map (·.1))/\fs.length<=1000/\H dx=some (.own a):=by obtain⟨d,z,ne,ob,mA,n,r,q⟩:=(show c_ P w H h a (.ins C dx fs)from hok a _ e);exact⟨mA,⟨ob,n,ne⟩,r,q,z,d⟩
end
structure f_ (K:Fg)(C:Addr):Prop where
 pg:PySem.W.plainGet K C Str.empty=true
 hd:PySem.W.hasDictIn K C=true
 po:PySem.W.plainOver K C=true
 sa:PySem.W.findIn K (.ref C) "__setattr__"=some (some (.builtin "object.__setattr__"))
theorem f_.get(c:f_ K C)(f:Str):PySem.W.plainGet K C f=true:=c.pg
def eZ (K:Fg)(C:Addr)(f:Str):Prop:=PySem.W.findIn K (.ref C) f=some none
theorem eZ.taker{f:Str}(n:eZ K C f):PySem.W.takerIn K C f=some none:=by unfold PySem.W.takerIn;rw[show PySem.W.findIn K (.ref C) f=some none from n];rfl
structure br (K:Fg)(C:Addr)(m:Str)(f:Addr):Prop where
 at_:PySem.W.findIn K (.ref C) m=some (some (.ref f))
 fn:PySem.W.isFn K (.ref f)=true
 kp:PySem.W.keepIn K (.ref f)=true
section
variable {fs:List (Str×V)}{f:Str}
theorem KJ{b:Bool}(I:am X Py σ H s)(e:H a=some (.ins C dx fs))(c:f_ X.K C)(n:eZ X.K C f)(l:fs.lookup f=some v)(h:∀ u s',am X Py σ H s'->aC v u->Q u s'):wpAny (model X.prog X.w) A (getAttr (.ref a) f b) Q E s:=by obtain⟨mA,O,r,_,_,_⟩:=tP I.hok e;obtain⟨u,hu,ru⟩:=cE.some_of (v:=v) (o:=mA f) (by rw[<-l];exact r f);exact Iy I.kIn O (c.get f) c.hd n hu (Kz ru) (h u _ (I.tok _) ru)
theorem xw{m:Str}{g:Addr}{Q:Value×List Value->Shared->Prop}(I:am X Py σ H s)(e:H a=some (.ins C dx fs))(c:f_ X.K C)(k:br X.K C m g)(l:fs.lookup m=none)(h:Q (.ref g,[.ref a]) s):wpAny (model X.prog X.w) A (getMethod (.ref a) m pl) Q E s:=by obtain⟨mA,O,r,_,_,_⟩:=tP I.hok e;have hn:mA m=none:=cE.none_of (by rw[<-l];exact r m);exact IS I.kIn O (c.get m) k.at_ k.fn hn h
theorem K9{Q:Unit->Shared->Prop}(I:am X Py σ H s)(e:H a=some (.ins C dx fs))(c:f_ X.K C)(n:eZ X.K C f)(hl:fs.length<1000)(ry:aC y u)(h:∀ s',am X Py σ (upd H a (.ins C dx (au f y fs))) s'->Q () s'):wpAny (model X.prog X.w) A (setAttr (.ref a) f u) Q E s:=by
 obtain⟨mA,O,r,wi,_,ho⟩:=tP I.hok e;have hz:(fs.map (·.1)).length<=sizeLine:=by rw[aV,sizeLine_eq];omega
 refine Iw I.kIn O c.sa c.po n.taker c.hd wi hz λh' O' sb=>h _ ?_;have hd:∃ o,h'.get? dx=some o:=let ⟨o,_,_,e',_⟩:=O'.ns;⟨o,e'⟩;refine I.write (x:=a) (e:=dx) (by rw[e];exact OH) (.inr ho) (λb q hb z=>(sb.2 b hb).trans z) hd ?_;refine⟨by rw[aE O.ne];exact ho,?_,O.ne,O'.obj,_,O'.ns,λg=>?_,λg hg=>?_⟩
 ·have:=x_ f y fs;omega
 ·show cE ((au f y fs).lookup g) (if g=f then some u else mA g);rw[fW];by_cases q:g=f
  ·rw[NU q,NU q];exact ry
  ·rw[NR q,NR q];exact r g
 ·by_cases q:g=f
  ·rw[q];exact(xl f y fs).1
  ·refine(xl f y fs).2 g (wi g λz=>hg ?_);show(if g=f then some u else mA g)=none;rw[NR q];exact z
theorem am.made (I:am X Py σ H s):am X Py σ (upd (upd H s.heap.objs.size (.own (s.heap.objs.size+1))) (s.heap.objs.size+1) (.ins C s.heap.objs.size []))
  {s with heap:=(s.heap.push PySem.W.emptyDict).push (PySem.W.instObj C s.heap.objs.size)}:=by
 have e1:(s.heap.push PySem.W.emptyDict).get? s.heap.objs.size=some PySem.W.emptyDict:=Ph s.heap rfl;have e2:((s.heap.push PySem.W.emptyDict).push (PySem.W.instObj C s.heap.objs.size)).get? (s.heap.objs.size+1)=some (PySem.W.instObj C s.heap.objs.size):=by have:=Ph (s.heap.push PySem.W.emptyDict) (o:=PySem.W.instObj C s.heap.objs.size) rfl;rwa [Heap.size_push]at this
 have e3:(s.heap.push PySem.W.emptyDict).Ns s.heap.objs.size (λ_=>none):=⟨PySem.W.emptyDict,#[],_,e1,rfl,(λe he=>Oa he (by simp)),λ_=>rfl⟩;have I1:=I.laid (a:=s.heap.objs.size) (o:=.own (s.heap.objs.size+1)) (h':=s.heap.push PySem.W.emptyDict) (t':=s.toks) (λb u q=>Pd _ q) (NV _) ⟨_,e1⟩;refine I1.laid (a:=s.heap.objs.size+1) (o:=.ins C s.heap.objs.size []) (t':=s.toks) (λb u q=>Pd _ q) (Nat.le_of_eq (Heap.size_push _ _)) ?_;have ne:s.heap.objs.size≠s.heap.objs.size+1:=Ol (O9 _);refine⟨by rw[aE ne,aw],OF _,ne,e2,λ_=>none,(Heap.Ns1.of_empty e3).at λo q=>Pd _ q,λ_=>OH,λy hy=>Oa rfl hy⟩
theorem Iu{env:Env}{f:Str}(hb:attributeBase e f env (eval e env)=eval e env)(h:wpAny (model prog w) A (eval e env) (λo s₁=>wpAny (model prog w) A (getAttr o f true) Q E s₁) E s):wpAny (model prog w) A (eval (.Attribute e f pos) env) Q E s:=
 Attribute_any_ h (by rw[arm_eval_Attribute,hb])
end
inductive ng (K:Fg)(f:Str)(x:V)(H:Hp)(Q:VK):Prop
 |mk (a C dx:Addr) (fs:List (Str×V)) (v:V) (e:x=.ref a) (ea:H a=some (.ins C dx fs)) (c:f_ K C) (n:eZ K C f) (l:fs.lookup f=some v) (q:Q v H):ng K f x H Q
inductive m_ (K:Fg)(f:Str)(y x:V)(H:Hp)(P:Hp->Prop):Prop
 |mk (a C dx:Addr) (fs:List (Str×V)) (e:x=.ref a) (ea:H a=some (.ins C dx fs)) (c:f_ K C) (n:eZ K C f) (l:fs.length<1000) (q:P (upd H a (.ins C dx (au f y fs)))):m_ K f y x H P
def km (K:Fg)(ta:TE)(f:Str):TE:=λσ H Q=>ta σ H λx H1=>ng K f x H1 Q
def qg (K:Fg)(ta tv:TE)(f:Str):TS:=λD σ H=>tv σ H λy H1=>ta σ H1 λx H2=>m_ K f y x H2 (D.nx σ)
variable {apos:Pos}
section
variable {o value:Expr}{f:Str}{tpos:Pos}{tv:TE}
theorem Gd (he:PE X e ta)(hb:attributeBase e f X.env (eval e X.env)=eval e X.env):PE X (.Attribute e f pos) (km X.K ta f):=by intro Py s σ H Q I h;refine Iu hb (aN (he Py s σ H _ I h) λu s1 ⟨x,H1,I1,rx,a,C,dx,fs,v,ex,ea,c,n,l,q⟩=>?_);subst ex;obtain rfl:u=Value.ref a:=rx;exact KJ I1 ea c n l λu' s2 I2 ru=>⟨v,H1,I2,ru,q⟩
theorem eG (ha:PE X o ta)(hv:PE X value tv)(hs:swapsWith value (some (.Attribute o f pos')) pos.line X.env=pure false):PS X (.Assign [.Attribute o f pos'] value pos) (qg X.K ta tv f):=by intro Py s σ H D I h;refine plainObj_wpAny_Assign_Attribute (aN (hv Py s σ H _ I h) λu s1 ⟨y,H1,I1,ry,q⟩=>aN (ha Py s1 σ H1 _ I1 q) λov s2 ⟨x,H2,I2,rx,a,C,dx,fs,ex,ea,c,n,l,q2⟩=>?_) hs;subst ex;obtain rfl:ov=Value.ref a:=rx;exact K9 I2 ea c n l ry λs3 I3=>⟨σ,_,I3,q2⟩
theorem NN{m:Str}{args:List Expr}(he:PE X e te)(I:am X Py σ H s)(h:te σ H λx H1=>∃ a C dx fs g,x=.ref a/\H1 a=some (.ins C dx fs)/\f_ X.K C/\br X.K C m g/\fs.lookup m=none/\
   ∀ s1,am X Py σ H1 s1->wpAny (model X.prog X.w) X.A (callWith pos (.ref g) [.ref a] (backTo pos (starEach args X.env)) (backToKw pos (keywordEach [] X.env))) Q X.xe s1)(ht:eval (.Call (.Attribute e m apos) args [] pos) X.env=(do
   let ov<-eval e X.env
   standAt apos.atName
   let (f,first)<-holding [ov] (getMethod ov m pl)
   callWith pos f first (backTo pos (starEach args X.env)) (backToKw pos (keywordEach [] X.env)))):
  wpAny (model X.prog X.w) X.A (eval (.Call (.Attribute e m apos) args [] pos) X.env) Q X.xe s:=by refine PySem.W.methodCall_KW (pl:=pl) (aN (he Py s σ H _ I h) λu s1 zz=>?_) ht;obtain⟨x,H1,I1,rx,a,C,dx,fs,g,ex,ea,c,k,l,q⟩:=zz;subst ex;obtain rfl:u=Value.ref a:=rx;exact xw I1 ea c k l (q s1 I1)
end
section
variable {c:Value}{b:Bool}
inductive dw (K:Fg)(H:Hp):V->Value->Prop where
 |non:dw K H .non (.type "NoneType")|bl (x:Bool):dw K H (.bl x) (.type "bool")|int (i:Int):dw K H (.int i) (.type "int")|str (x:Str):dw K H (.str x) (.type "str")|flt (x:UInt64):dw K H (.flt x) (.type "float")|lst {a:Addr}{xs:QV}(e:H a=some (.lst xs)):dw K H (.ref a) (.type "list")|frz {a:Addr}{o:Obj}{xs:QV}(e:H a=some (.frz o (.lst xs))):dw K H (.ref a) (.type "list")|tup {a:Addr}{xs:QV}(e:H a=some (.tup xs)):dw K H (.ref a) (.type "tuple")|dK {a:Addr}{kvs:List (bp×V)}(e:H a=some (.dK kvs)):dw K H (.ref a) (.type "dict")|dT {a:Addr}{kvs:List (List bp×V)}(e:H a=some (.dT kvs)):dw K H (.ref a) (.type "dict")|ins {a C dx:Addr}{fs:List (Str×V)}(e:H a=some (.ins C dx fs)) (cl:f_ K C) (ha:PySem.W.findIn K (.ref C) "__class__"=some (some (.builtin "object.__class__")))
   (hn:PySem.W.specialIn K (.builtin "object.__class__") "__get__"=some (some (.builtin "getset_descriptor.__get__"))) (htk:PySem.W.takesIn K (.builtin "object.__class__")=some true)
   (hm:PySem.W.mroIn K C (.type "object")=some true):dw K H (.ref a) (.ref C)
theorem Ky{x:V}{t:Value}(I:am X Py σ H s)(rx:aC x u)(ty:dw X.K H x t)(e:PySem.W.kitOne X.K t c=some b)(h:∀ tk,Q (.bool b) {s with toks:=tk}):
  wpAny (model X.prog X.w) A (call (.builtin "isinstance") [u,c]) Q E s:=by
 cases ty with
 |non=>cases(show u=Value.none from rx);exact Pm PySem.W.kitx_none I.kIn OH e (λz=>nomatch z) h
 |bl y=>cases(show u=Value.bool y from rx);exact Pm PySem.W.kitx_bool I.kIn OH e (λz=>nomatch z) h
 |int i=>obtain⟨t,q⟩:=(show ∃ t,u=Value.int i t from rx);cases q;exact Pm PySem.W.kitx_int I.kIn OH e (λz=>nomatch z) h
 |str y=>obtain⟨t,q⟩:=(show ∃ t,u=Value.str y t from rx);cases q;exact Pm PySem.W.kitx_str I.kIn OH e (λz=>nomatch z) h
 |flt y=>obtain⟨t,q⟩:=(show ∃ t,u=Value.float y t from rx);cases q;exact Pm PySem.W.kitx_float I.kIn OH e (λz=>nomatch z) h
 |@lst a xs ea=>cases(show u=Value.ref a from rx);obtain⟨_,_,n,_,h1⟩:=(show c_ X.prog X.w H s.heap a (.lst xs)from I.hok a _ ea);exact Pm PySem.W.kitx_list I.kIn ⟨_,h1,rfl⟩ e (λz=>nomatch z) h
 |@frz a ob xs ea=>cases(show u=Value.ref a from rx);obtain⟨_,_,_,n,_,h1⟩:=(show c_ X.prog X.w H s.heap a (.frz ob (.lst xs))from I.hok a _ ea);exact Pm PySem.W.kitx_list I.kIn ⟨_,h1,rfl⟩ e (λz=>nomatch z) h
 |@tup a xs ea=>cases(show u=Value.ref a from rx);obtain⟨_,_,_,p⟩:=(show c_ X.prog X.w H s.heap a (.tup xs)from I.hok a _ ea);obtain⟨o,h1,h2,_⟩:=p;exact Pm PySem.W.kitx_tuple I.kIn ⟨o,h1,h2⟩ e (λz=>nomatch z) h
 |@dK a kvs ea=>cases(show u=Value.ref a from rx);obtain⟨_,_,vs,_,p⟩:=(show c_ X.prog X.w H s.heap a (.dK kvs)from I.hok a _ ea);obtain⟨o,es,ep,h1,h2,_⟩:=p;exact Pm PySem.W.kitx_dict I.kIn ⟨o,h1,h2.1⟩ e (λz=>nomatch z) h
 |@dT a kvs ea=>cases(show u=Value.ref a from rx);obtain⟨_,_,xs,_,o,es,ep,h1,h2,_⟩:=(show c_ X.prog X.w H s.heap a (.dT kvs)from I.hok a _ ea);exact Pm PySem.W.kitx_dict I.kIn ⟨o,h1,h2.1⟩ e (λz=>nomatch z) h
 |@ins a C dx fs ea cl ha hn htk hm=>cases(show u=Value.ref a from rx);obtain⟨mA,O,_⟩:=tP I.hok ea;obtain⟨od,J,_⟩:=O.look;exact Pm (PySem.W.kitx_own (cl.get _) cl.hd ha hn htk hm) I.kIn J e (λz=>nomatch z) h
end
structure aQ (k:Nat)(A:Around):Prop where
 hd:A.handled=none
 dp:A.depth+3*k+5<recursionLimit
 un:A.units+16*k+200<cLine
 gd:A.guards=some []
theorem aQ.mono{k:Nat}(r:aQ k A)(h:j<=k):aQ j A:=⟨r.hd,by have:=r.dp;omega,by have:=r.un;omega,r.gd⟩
theorem aQ.deeper{k:Nat}(r:aQ (k+1) A)(env:Env):aQ k (A.deeper env):=
 ⟨r.hd,by have:=r.dp;show A.depth+1+3*k+5<_;omega,by have:=r.un;show A.units+3+16*k+200<_;omega,r.gd⟩
theorem K8:(A.under (.builtin "type.__call__" ⟨.ref C::us,kw⟩)).depth=A.depth+1:=by first|rfl|simp[Around.under,Code.weight,Code.isCreation,Code.isGuard,Code.isCaller,Code.frames,Code.isFrame,guardIds]
theorem K7:(A.under (.builtin "type.__call__" ⟨.ref C::us,kw⟩)).units=A.units+1:=by first|rfl|simp[Around.under,Code.cUnits,Code.frames,Code.isFrame]
theorem LR(h:A.guards=some []):(A.under (.builtin "type.__call__" ⟨.ref C::us,kw⟩)).guards=some []:=by simp[Around.under,Code.guards,Code.isGuard,guardIds,pushGuards,h]
theorem aQ.make{k:Nat}(r:aQ (k+1) A)(C:Addr)(us:List Value)(kw:List (Str×Value)):aQ k (A.under (.builtin "type.__call__" ⟨.ref C::us,kw⟩)):=
 ⟨r.hd,by have:=r.dp;rw[K8];omega,by have:=r.un;rw[K7];omega,LR r.gd⟩
theorem aQ.depth{k:Nat}(r:aQ k A):A.depth<recursionLimit:=by have:=r.dp;omega
theorem aQ.units{k:Nat}(r:aQ k A):A.units+64<cLine:=by have:=r.un;omega
def iq:TA:=λ_ H Q=>Q [] H
def gj (ta:TE)(tr:TA):TA:=λσ H Q=>ta σ H λx H1=>tr σ H1 λxs H2=>Q (x::xs) H2
section
variable {t:TA}
theorem ag:PA X [] iq:=λ_ _ _ _ H Q I h=>Calls.spliced_nil ⟨[],H,I,.nil,h⟩
theorem eL (ha:PE X e te)(hr:PA X es t)(hs:⇑(starEach (e::es) X.env=(false,eval e X.env)::starEach es X.env)):PA X (e::es) (gj te t):=by intro pos Py s σ H Q I h;rw[hs];show wpAny _ _ (spliced ((false,eval e X.env)::backTo pos (starEach es X.env))) _ _ s;refine Calls.spliced_cons (aN (ha Py s σ H _ I h) λu s1 ⟨x,H1,I1,r1,q1⟩=>?_);exact aN (hr pos Py s1 σ H1 _ I1 q1) λus s2 ⟨xs,H2,I2,r2,q2⟩=>⟨x::xs,H2,I2,.cons r1 r2,q2⟩
def pR (t:TA):TE:=λσ H Q=>t σ H λxs H1=>xs.length<=sizeLine/\∀ p,H1 p=none->Q (.ref p) (upd H1 p (.tup xs))
def pW (t:TA):TE:=λσ H Q=>t σ H λxs H1=>xs.length<=sizeLine/\∀ p,H1 p=none->Q (.ref p) (upd H1 p (.lst xs))
theorem cx {x1}(h:PA X es t):PE X (.Tuple es x1 pos) (pR t):=by intro Py s σ H Q I hq;refine wpAny_Tuple_spliced (aN (h pos Py s σ H _ I hq) λus s1 ⟨xs,H1,I1,r,z,q⟩=>⟨by rw[<-r.length];exact z,?_⟩);have hf:H1 s1.heap.objs.size=none:=I1.hok.fresh (NV _);refine⟨.ref s1.heap.objs.size,upd H1 s1.heap.objs.size (.tup xs),I1.laid (t':=s1.toks) (λb u e=>Pd _ e) (NV _) ?_,rfl,q _ hf⟩;exact⟨z,us,r,⟨_,Ph _ rfl,rfl,_,rfl⟩⟩
theorem bv (h:PA X es t):PE X (.List es pos) (pW t):=by intro Py s σ H Q I hq;refine wpAny_List_spliced (aN (h pos Py s σ H _ I hq) λus s1 ⟨xs,H1,I1,r,z,q⟩=>⟨by rw[<-r.length];exact z,?_⟩);have hf:H1 s1.heap.objs.size=none:=I1.hok.fresh (NV _);refine⟨.ref s1.heap.objs.size,upd H1 s1.heap.objs.size (.lst xs),I1.laid (t':=s1.toks) (λb u e=>Pd _ e) (NV _) ?_,rfl,q _ hf⟩;exact⟨z,us,0,r,Ph _ rfl⟩
end
abbrev Sp:=QV->Hp->VK->XK->Prop
abbrev jX:=List Env->Hp->Shared->XK->Value->Shared->Prop
structure gW (P:Program)(w:World)(K:Fg)(mg:Str->Option Value)(base:Heap)(A:Around)(outer:List Env)(s:Shared)(H:Hp):Prop where
 frames:A.frames=some outer
 mod:Mod K mg base
 bs:∀ b o,base.get? b=some o->s.heap.get? b=some o/\H b=none
 bsz:base.objs.size<=s.heap.objs.size
 funs:s.heap.FunFrames base outer
 frf:∀ b∈d0 outer,H b=none
 hok:dz P w H s.heap
 bare:AllBare s.gens
def CE (outer:List Env)(P:Program)(w:World)(H:Hp)(s:Shared)(Q:VK)(u:Value)(s':Shared):Prop:=
 ∃ v H',s'.os=s.os/\AllBare s'.gens/\Un (d0 outer) [] H H' s.heap s'.heap/\dz P w H' s'.heap/\aC v u/\Q v H'
def CR (CX:jX)(outer:List Env)(P:Program)(w:World)(H:Hp)(s:Shared)(Q:VK)(E:XK)(r:Result)(s':Shared):Prop:=
 match r with
 |.ok (.ret u)=>CE outer P w H s Q u s'|.ok _=>False|.error e=>CX outer H s E e s'
structure ck (P:Program)(w:World)(K:Fg)(mg:Str->Option Value)(base:Heap)(CX:jX)(k:Nat)(f:Addr)(fd:FuncData)(ps:List Str)(sp:Sp):Prop where
 len:∀ vs H Q E,sp vs H Q E->vs.length=ps.length
 run:∀(A:Around) (outer:List Env) (s:Shared) (H:Hp) (args:Args) (us:List Value) (vs:QV) (Q:VK) (E:XK),aQ k A->gW P w K mg base A outer s H->BindsTo s fd args (ps.zip us)->ax vs us->sp vs H Q E->
  codeAny (model P w) A (.call (.ref f) args) (CR CX outer P w H s Q E) s
variable {mg:Str->Option Value}{base:Heap}{CX:jX}{fd:FuncData}{sp:Sp}
theorem ck.mono{k:Nat}{f:Addr}{ps:List Str}(F:ck P w K mg base CX j f fd ps sp)(h:j<=k):
  ck P w K mg base CX k f fd ps sp:=⟨F.len,λA outer s H args us vs Q E hr=>F.run A outer s H args us vs Q E (hr.mono h)⟩
variable {outer:List Env}
theorem gW.make(e:gW P w K mg base A outer s H)(C:Addr)(us:List Value)(kw:List (Str×Value)):
  gW P w K mg base (A.under (.builtin "type.__call__" ⟨.ref C::us,kw⟩)) outer s H:=⟨by first|exact e.frames|(simpa[Around.under,Code.envs,Code.isFrame,pushEnvs]using e.frames),e.mod,e.bs,e.bsz,e.funs,e.frf,e.hok,e.bare⟩
section
theorem am.env0 (I:am X Py σ H s):gW X.prog X.w X.K X.mg X.base X.A X.stack s H:=
 ⟨I.ok.frames,I.ok.mod,I.bs,Od I.ok.bsz I.sz,I.stack,I.stkFree,I.hok,I.bare⟩
theorem am.after{Q:VK}(I:am X Py σ H s)(h:CE X.stack X.prog X.w H s Q u s'):EP X Py σ Q u s':=by obtain⟨v,H',os,bare,un,hok,r,q⟩:=h;obtain⟨hh,g,d,t,os'⟩:=s';obtain rfl:os'=s.os:=os;exact⟨v,H',I.call (h':=hh) (g':=g) (d':=d) (t':=t) (ch:=[]) un hok bare (λb z=>Oa z (by simp)),r,q⟩
end
def nE (sp:Sp)(P9:QV)(E:XK)(t:TA):TE:=λσ H Q=>t σ H λvs H1=>sp (vs++P9) H1 Q E
inductive hX (C:Addr)(m:Str)(x:V)(H:Hp)(P:Prop):Prop
 |mk (a dx:Addr) (fs:List (Str×V)) (e:x=.ref a) (ea:H a=some (.ins C dx fs)) (l:fs.lookup m=none) (q:P):hX C m x H P
def oO (C:Addr)(m:Str)(sp:Sp)(P9:QV)(E:XK)(ta:TE)(t:TA):TE:=λσ H Q=>ta σ H λx H1=>hX C m x H1 (t σ H1 λvs H2=>sp (x::(vs++P9)) H2 Q E)
def kJ (C:Addr)(sp:Sp)(P9:QV)(E:XK)(t:TA):TE:=λσ H Q=>t σ H λvs H1=>∀ x dx,H1 x=none->H1 dx=none->dx≠x->
 sp (.ref x::(vs++P9)) (upd (upd H1 dx (.own x)) x (.ins C dx [])) (λv H2=>v=.non/\Q (.ref x) H2) E
def gF (K:Fg)(fd:FuncData)(ps:List Str)(ds:List Value):Prop:=
 ∀(s:Shared) (us:List Value),K.In s.heap->(us++ds).length=ps.length->BindsTo s fd ⟨us,[]⟩ (ps.zip (us++ds))
theorem gF.all{ps:List Str}(h:∀ us:List Value,us.length=ps.length->bindArgs fd ⟨us,[]⟩=pure (ps.zip us)):gF K fd ps []:=λs us _ hl=>by rw[Oo]at hl ⊢;exact .of_eq (h us hl)
def g8 (CX:jX)(X:Cx)(E:XK):Prop:=∀(Py:QX) (σ:St) (H:Hp) (s:Shared) (e:Value) (s':Shared),am X Py σ H s->CX X.stack H s E e s'->X.xe e s'
variable {vs:QV}
section
variable {k:Nat}{f:Addr}{ps:List Str}{P9:QV}{ds:List Value}{E:XK}{m:Str}{o:Expr}{t:TA}
variable {Q:VK}
theorem vP(F:ck X.prog X.w X.K X.mg X.base CX k f fd ps sp)(hr:aQ k X.A)(hb:gF X.K fd ps ds)(hd:ax P9 ds)(hx:g8 CX X E)(I:am X Py σ H s)(r:ax vs us)(h:sp (vs++P9) H Q E):wpAny (model X.prog X.w) X.A (call (.ref f) us) (EP X Py σ Q) X.xe s:=by
 have r2:ax (vs++P9) (us++ds):=r.append hd;have hl:(us++ds).length=ps.length:=by rw[<-r2.length];exact F.len _ _ _ _ h
 refine wpAny_call (Px (F.run X.A X.stack s H ⟨us,[]⟩ (us++ds) (vs++P9) Q E hr I.env0 (hb s us I.kIn hl) r2 h) λr s' hq=>?_);cases r with
 |error e=>exact hx Py σ H s e s' I hq
 |ok fl=>
  cases fl with
  |ret u=>exact I.after hq
  |next=>exact Ov hq
  |brk=>exact Ov hq
  |cont=>exact Ov hq
theorem CZ (F:ck X.prog X.w X.K X.mg X.base CX k f fd ps sp)(hr:aQ k X.A)(hg:Gl X x)(hm:X.mg x=some (.ref f))(hk:PySem.W.keepIn X.K (.ref f)=true)(hb:gF X.K fd ps ds)(hd:ax P9 ds)(hx:g8 CX X E)
  (ha:PA X (e::es) t) (hdb:↥((x==("__debug__":Str))=false)) (he:⇑(starEach (e::es) X.env=(false,eval e X.env)::starEach es X.env)) (hpl:⇑((backTo pos (starEach es X.env)).any (·.1)=false)):
  PE X (.Call (.Name x p) (e::es) [] pos) (nE sp P9 E t):=by intro Py s σ H Q I h;refine Pp (mD I hg hm ?_ hdb);refine PySem.W.callWith_K (h₀:=X.base) I.ok.mod.kin hk (aN (ha pos Py s σ H _ I h) λus s1 ⟨vs,H1,I1,r,q⟩=>⟨I1.kIn,?_⟩) he hpl;exact vP F hr hb hd hx I1 r q
theorem Ir(he:PE X o ta)(c:f_ X.K C)(hm:br X.K C m f)(F:ck X.prog X.w X.K X.mg X.base CX k f fd ps sp)(hr:aQ k X.A)(hb:gF X.K fd ps ds)(hd:ax P9 ds)(hx:g8 CX X E)(ha:PA X (e::es) t)(hst:⇑(starEach (e::es) X.env=(false,eval e X.env)::starEach es X.env))(hpl:⇑((backTo pos (starEach es X.env)).any (·.1)=false))(ht:⇑(eval (.Call (.Attribute o m apos) (e::es) [] pos) X.env=(do
   let ov<-eval o X.env
   standAt apos.atName
   let (f,first)<-holding [ov] (getMethod ov m pl)
   callWith pos f first (backTo pos (starEach (e::es) X.env)) (backToKw pos (keywordEach [] X.env))))):
  PE X (.Call (.Attribute o m apos) (e::es) [] pos) (oO C m sp P9 E ta t):=by intro Py s σ H Q I h;refine PySem.W.methodCall_KW (pl:=pl) (aN (he Py s σ H _ I h) λu s1 ⟨x,H1,I1,rx,a,dx,fs,ex,ea,l,q⟩=>?_) ht;subst ex;obtain rfl:u=Value.ref a:=rx;refine xw I1 ea c hm l ?_;refine PySem.W.callWith_K (first:=[.ref a]) (h₀:=X.base) I.ok.mod.kin hm.kp (aN (ha pos Py s1 σ H1 _ I1 q) λus s2 ⟨vs,H2,I2,r,q2⟩=>⟨I2.kIn,?_⟩) hst hpl;exact vP (us:=.ref a::us) (vs:=.ref a::vs) F hr hb hd hx I2 (.cons rfl r) q2
theorem IR(he:PE X o ta)(c:f_ X.K C)(hm:br X.K C m f)(F:ck X.prog X.w X.K X.mg X.base CX k f fd ps sp)(hr:aQ k X.A)(hb:gF X.K fd ps ds)(hd:ax P9 ds)(hx:g8 CX X E)(ht:⇑(eval (.Call (.Attribute o m apos) [] [] pos) X.env=(do
   let ov<-eval o X.env
   standAt apos.atName
   let (f,first)<-holding [ov] (getMethod ov m pl)
   callWith pos f first (backTo pos (starEach [] X.env)) (backToKw pos (keywordEach [] X.env))))):
  PE X (.Call (.Attribute o m apos) [] [] pos) (oO C m sp P9 E ta iq):=by intro Py s σ H Q I h;refine PySem.W.methodCall_KW (pl:=pl) (aN (he Py s σ H _ I h) λu s1 ⟨x,H1,I1,rx,a,dx,fs,ex,ea,l,q⟩=>?_) ht;subst ex;obtain rfl:u=Value.ref a:=rx;refine xw I1 ea c hm l ?_;exact PySem.W.callWith_K0 (first:=[.ref a]) I1.kIn hm.kp (vP (us:=[.ref a]) (vs:=[.ref a]) F hr hb hd hx I1 (.cons rfl .nil) q)
structure Mk (K:Fg)(C f:Addr):Prop where
 makes:PySem.W.makesIn K C=true
 init:PySem.W.findIn K (.ref C) "__init__"=some (some (.ref f))
 fn:PySem.W.isFn K (.ref f)=true
 kp:PySem.W.keepIn K (.ref C)=true
theorem Ds(M:Mk X.K C f)(F:ck X.prog X.w X.K X.mg X.base CX k f fd ps sp)(hr:aQ (k+1) X.A)(hb:gF X.K fd ps ds)(hd:ax P9 ds)(hx:g8 CX X E)(I:am X Py σ H s)(r:ax vs us)(h:∀ x dx,H x=none->H dx=none->dx≠x->sp (.ref x::(vs++P9)) (upd (upd H dx (.own x)) x (.ins C dx [])) (λv H2=>v=.non/\Q (.ref x) H2) E):
  wpAny (model X.prog X.w) X.A (call (.ref C) us) (EP X Py σ Q) X.xe s:=by
 have hq:=h (s.heap.objs.size+1) s.heap.objs.size (I.hok.fresh (Nat.le_succ _)) (I.hok.fresh (NV _)) (Ol (O9 _));have I2:=am.made (C:=C) I;have r2:ax (V.ref (s.heap.objs.size+1)::(vs++P9)) (Value.ref (s.heap.objs.size+1)::(us++ds)):=.cons rfl (r.append hd);have hl:(Value.ref (s.heap.objs.size+1)::us++ds).length=ps.length:=by have e:=r2.length;rw[F.len _ _ _ _ hq]at e;exact e.symm
 refine wpAny_call (Dt (f:=f) I.kIn M.makes M.init (OR.mp M.fn) (Px (F.run _ X.stack _ _ ⟨Value.ref (s.heap.objs.size+1)::us,[]⟩ (Value.ref (s.heap.objs.size+1)::(us++ds)) _ _ E (hr.make C us [])
  (I2.env0.make C us []) (hb _ (Value.ref (s.heap.objs.size+1)::us) I2.kIn hl) r2 hq) λr s' hq'=>?_))
 cases r with
 |error e=>exact hx Py σ _ _ e s' I2 hq'
 |ok fl=>
  cases fl with
  |ret u=>obtain⟨v,H',I3,rv,ev,q3⟩:=I2.after hq';subst ev;exact⟨rv,⟨V.ref (s.heap.objs.size+1),H',I3,rfl,q3⟩⟩
  |next=>exact Ov hq'
  |brk=>exact Ov hq'
  |cont=>exact Ov hq'
theorem CY (M:Mk X.K C f)(F:ck X.prog X.w X.K X.mg X.base CX k f fd ps sp)(hr:aQ (k+1) X.A)(hg:Gl X x)(hm:X.mg x=some (.ref C))(hb:gF X.K fd ps ds)(hd:ax P9 ds)(hx:g8 CX X E)
  (ha:PA X (e::es) t) (hdb:↥((x==("__debug__":Str))=false)) (he:⇑(starEach (e::es) X.env=(false,eval e X.env)::starEach es X.env)) (hpl:⇑((backTo pos (starEach es X.env)).any (·.1)=false)):
  PE X (.Call (.Name x p) (e::es) [] pos) (kJ C sp P9 E t):=by intro Py s σ H Q I h;refine Pp (mD I hg hm ?_ hdb);refine PySem.W.callWith_K (h₀:=X.base) I.ok.mod.kin M.kp (aN (ha pos Py s σ H _ I h) λus s1 ⟨vs,H1,I1,r,q⟩=>⟨I1.kIn,?_⟩) he hpl;exact Ds M F hr hb hd hx I1 r q
theorem IQ (M:Mk X.K C f)(F:ck X.prog X.w X.K X.mg X.base CX k f fd ps sp)(hr:aQ (k+1) X.A)(hg:Gl X x)(hm:X.mg x=some (.ref C))(hb:gF X.K fd ps ds)(hd:ax P9 ds)(hx:g8 CX X E)
  (hdb:↥((x==("__debug__":Str))=false)):PE X (.Call (.Name x p) [] [] pos) (kJ C sp P9 E iq):=by intro Py s σ H Q I h;refine Pp (mD I hg hm ?_ hdb);exact PySem.W.callWith_K0 I.kIn M.kp (Ds (us:=[]) M F hr hb hd hx I .nil h)
end
section
variable {k:Nat}{f:Addr}{ps ks:List Str}{E:XK}{m:Str}{kpos:Pos}{o:Expr}{kws:List Keyword}{t tk:TA}{nm:Option Str}
variable {g:List Value->List Value->List Value}{gV:QV->QV->QV}
end
structure aU (N P:List Str)(sc:Scope):Prop where
 kind:sc.kind=.function
 co:sc.isCoroutine=false
 gen:sc.isGenerator=false
 nd:N.Nodup
 pre:N.take P.length=P
 par:∀ x∈P,sc.names.lookup x=some .local\/sc.names.lookup x=some .cell
 nofree:∀ y∈sc.names,y.2≠.free
variable {kindOf:Str->Option NameKind}
theorem DY:∀{binds:List (Str×Value)}{m:Str->Option Value},(∀ v,(x,v)∉binds)->bindL kindOf binds m x=m x
 |[],_,_=>rfl|(n,v)::r,m,h=>by
  unfold bindL;rw[DY λw hw=>h w (NZ _ hw)];split
  ·have:x≠n:=by rintro rfl;exact h v NW
   simp[this]
  ·rfl
theorem DX:∀{binds:List (Str×Value)}{m:Str->Option Value},(∀ v,(x,v)∉binds)->bindC kindOf binds m x=m x
 |[],_,_=>rfl|(n,v)::r,m,h=>by
  unfold bindC;rw[DX λw hw=>h w (NZ _ hw)];split
  ·rfl
  ·have:x≠n:=by rintro rfl;exact h v NW
   simp[this]
theorem DW{v:Value}:∀{P:List Str}{vs:List Value}{i:Nat}{m:Str->Option Value},P.Nodup->P[i]?=some x->vs[i]?=some v->kindOf x=some .local->
  bindL kindOf (P.zip vs) m x=some v
 |[],_,_,_,_,h,_,_=>by simp at h|_::_,[],_,_,_,_,h,_=>by simp at h|p::P,w::vs,0,m,nd,h1,h2,hk=>by simp at h1 h2;subst h1;subst h2;show bindL kindOf ((p,w)::P.zip vs) m p=_;unfold bindL;rw[DY λv hv=>(Og.mp nd).1 (List.of_mem_zip hv).1,NU hk];simp|p::P,w::vs,i+1,m,nd,h1,h2,hk=>by show bindL kindOf ((p,w)::P.zip vs) m x=_;unfold bindL;exact DW (i:=i) (Og.mp nd).2 (by simpa using h1) (by simpa using h2) hk
theorem DV{v:Value}:∀{P:List Str}{vs:List Value}{i:Nat}{m:Str->Option Value},P.Nodup->P[i]?=some x->vs[i]?=some v->kindOf x≠some .local->
  bindC kindOf (P.zip vs) m x=some v
 |[],_,_,_,_,h,_,_=>by simp at h|_::_,[],_,_,_,_,h,_=>by simp at h|p::P,w::vs,0,m,nd,h1,h2,hk=>by simp at h1 h2;subst h1;subst h2;show bindC kindOf ((p,w)::P.zip vs) m p=_;unfold bindC;rw[DX λv hv=>(Og.mp nd).1 (List.of_mem_zip hv).1,NR hk];simp|p::P,w::vs,i+1,m,nd,h1,h2,hk=>by show bindC kindOf ((p,w)::P.zip vs) m x=_;unfold bindC;exact DV (i:=i) (Og.mp nd).2 (by simpa using h1) (by simpa using h2) hk
def start (N:List Str)(vs:QV):St:=vs.map some++List.replicate (N.length - vs.length) none
def bU (CX:jX)(P:Program)(w:World)(K:Fg)(mg:Str->Option Value)(base:Heap)(N:List Str)(qual:Str)(scope:Scope)(f:Addr)(cd:Value)(A:Around)(outer:List Env)(s:Shared)(H:Hp)(E:XK):Cx where
 prog:=P
 w:=w
 K:=K
 mg:=mg
 base:=base
 A:=A.deeper (envOfC qual scope s.heap.objs.size f cd)
 N:=N
 s₀:=s
 H₀:=H
 env:=envOfC qual scope s.heap.objs.size f cd
 outer:=outer
 stack:=envOfC qual scope s.heap.objs.size f cd::outer
 ex:=[]
 calm:=true
 fn:=λ_=>true
 pn:=[]
 xe:=λe s'=>wpAny (model P w) (A.deeper (envOfC qual scope s.heap.objs.size f cd)) (leaving (envOfC qual scope s.heap.objs.size f cd) e) (λ_ s''=>CX outer H s E e s'') (λe' s''=>CX outer H s E e' s'') s'
theorem Dr{sc:Scope}(h:sc.names.lookup x=some .cell):∃ c,(cellsFrom n sc.names []).lookup x=some c:=by have q:=PySem.W.cellsFrom_some sc.names n [] (.inl h);exact Option.isSome_iff_exists.mp q
variable {qual:Str}{scope:Scope}
theorem Kx{ps:List Str}{f:Addr}{cd:Value}{s1:Shared}{E:XK}(S:aU N ps scope)(hd:A.handled=none)(e0:gW P w K mg base A outer s H)(hl:vs.length=ps.length)(r:ax vs us)(x:InCallC s s.heap.objs.size (bindL (envOfC qual scope s.heap.objs.size f cd).kindOf (ps.zip us) λ_=>none) (cellsFrom (s.heap.objs.size+1) scope.names []) (bindC (envOfC qual scope s.heap.objs.size f cd).kindOf (ps.zip us) λ_=>none) s1):
  am (bU CX P w K mg base N qual scope f cd A outer s H E) [] (start N vs) H s1:=by
 have hpl:ps.length<=N.length:=by have:=congrArg List.length S.pre;rw[OB]at this;omega
 obtain⟨h1,tk,rfl,hk⟩:=x.done;have noA:∀ b:Addr,b∉(bU CX P w K mg base N qual scope f cd A outer s H E).ex:=λb z=>Oa (show b∈([]:QW)from z) (by simp);refine⟨⟨e0.mod,S.kind,rfl,rfl,NV _,λy z c h1 h2=>?_,λy hy=>?_,λy c _ h=>?_,λ_=>hd,Around.frames_deeper e0.frames,.inr ⟨rfl,rfl⟩,λb z=>Oa z (noA b),e0.bs,e0.bsz,λb _ _=>noA b,λb z=>Oa z (noA b),e0.funs,e0.frf⟩,
  rfl,e0.bare,Un.kept hk,⟨_,x.toInCall.ns,λi y v h1 h2 h3=>?_⟩,λy c h=>⟨_,x.cell y c h⟩,e0.hok.fresh (NV _),λy c h=>?_,λp hp=>Oa (show p∈([]:QX)from hp) (by simp),e0.hok.kept hk,?_⟩
 ·exact name_of_addr x.apart (Pl h1) (Pl h2)
 ·have hy:scope.names.lookup y=some .cell\/scope.names.lookup y=some .free:=hy;rcases hy with hy|hy
  ·exact Dr hy
  ·exact Oa rfl (S.nofree _ (Pl hy))
 ·exact O7 (x.above y c (Pl h))
 ·have hi:i<vs.length:=by
   unfold start at h2;by_cases hi:i<vs.length
   ·exact hi
   ·rw[Pb (by simpa using hi)]at h2;rw[O3]at h2;split at h2<;>cases h2
  have ha:vs[i]?=some v:=by
   unfold start at h2;rw[OT (by simpa using hi),aR]at h2;cases e:vs[i]? with
   |none=>rw[e]at h2;cases h2
   |some a=>rw[e]at h2;cases h2;rfl
  obtain⟨u,hu,rv⟩:=r.get ha;have hp:ps[i]?=some y:=by rw[<-S.pre,List.getElem?_take_of_lt (by omega)];exact h1
  have ndP:ps.Nodup:=by rw[<-S.pre];exact S.nd.sublist (List.take_sublist _ _)
  nomatch u,rv;rcases S.par y (bT hp)with k|k
  ·exact .inl ⟨k,DW ndP hp hu k⟩
  ·obtain⟨c,e⟩:=Dr (n:=s.heap.objs.size+1) k;refine .inr ⟨.inl k,c,e,?_⟩;have q:=x.cell y c e;rw[DV ndP hp hu (by show scope.names.lookup y≠_;rw[k];decide)]at q;exact q
 ·exact e0.hok.fresh (O7 (x.above y c (Pl h)))
 ·unfold start;show _=N.length;rw[N4,aV,O5];omega
theorem Bz{k:Nat}{f:Addr}{params:Arguments}{dV kV doc pm cdv ct oc:Value}{an od:Option Addr}{osl:Array (Option Value)}{ps:List Str}(lk:K.lookup f=some ⟨oc,od,.func (PySem.W.fnOf name qual params body scope dV kV doc pm an cdv ct),osl⟩)(hcd:PySem.W.codeIn K cdv qual=true)(S:aU N ps scope)(len:∀ vs H Q E,sp vs H Q E->vs.length=ps.length)(hbody:∀(A:Around) (outer:List Env) (s:Shared) (H:Hp) (vs:QV) (Q:VK) (E:XK),aQ k (A.deeper (envOfC qual scope s.heap.objs.size f cdv))->sp vs H Q E->
   ∃ t,fN (bU CX P w K mg base N qual scope f cdv A outer s H E) body t/\t {nx:=λ_ H'=>Q .non H',rt:=Q} (start N vs) H):
  ck P w K mg base CX (k+1) f (PySem.W.fnOf name qual params body scope dV kV doc pm an cdv ct) ps sp:=by
 refine⟨len,λA outer s H args us vs Q E hr e0 hb r hsp=>?_⟩;have hl:=len _ _ _ _ hsp;have KX:K.In s.heap:=e0.mod.kin.keeps λb o e=>(e0.bs b o e).1;have lim:s.heap.NoLimit:=e0.mod.nolimit.keeps λb o e=>(e0.bs b o e).1;have hkind:∀ y∈ps.zip us,scope.names.lookup y.1=some .local\/(scope.names.lookup y.1=some .cell/\((cellsFrom (s.heap.objs.size+1) scope.names []).lookup y.1).isSome=true):=λ⟨n,v⟩ hy=>by
  rcases S.par n (List.of_mem_zip hy).1 with q|q
  ·exact .inl q
  ·exact .inr ⟨q,PySem.W.cellsFrom_some _ _ _ (.inl q)⟩
 refine codeAny_call_function hr.depth (KX _ _ lk) rfl S.co S.gen rfl (PySem.W.codeRec_of KX hcd) (hb _ _ _ _ ?_);refine wpAny_newFunctionEnv_cells S.kind hkind λenv he s1 x=>?_;subst he;refine⟨lim.keeps x.toInCall.keep,codeAny_func ?_⟩;obtain⟨t,ht,hq⟩:=hbody A outer s H vs Q E (hr.deeper _) hsp;have I:am (bU CX P w K mg base N qual scope f cdv A outer s H E) [] (start N vs) H s1:=Kx S hr.hd e0 hl r x;refine Pi (ht [] s1 (start N vs) H _ I hq) (λfl s' hs=>?_) λe s' hs=>hs;have fin:∀{σ':St}{H':Hp}{v:V}{u:Value},am (bU CX P w K mg base N qual scope f cdv A outer s H E) [] σ' H' s'->aC v u->Q v H'->CE outer P w H s Q u s':=
  λ{σ' H' v u} J rv q=>⟨v,H',J.os,J.bare,J.base,J.hok,rv,q⟩
 cases fl with
 |ret u=>obtain⟨v,σ',H',J,rv,q⟩:=hs;exact fin J rv q
 |next=>obtain⟨σ',H',J,q⟩:=hs;exact fin (v:=V.non) (u:=Value.none) J rfl q
 |brk=>obtain⟨_,_,_,q⟩:=hs;exact Ov q
 |cont=>obtain⟨_,_,_,q⟩:=hs;exact Ov q
section
variable {t:TA}{id T:String}{r:QV->Hp->VK->Prop}
def zq (r:QV->Hp->VK->Prop)(t:TA):TE:=λσ H Q=>t σ H λvs H1=>r vs H1 Q
theorem cq (hc:dD X (.builtin id) r)(hg:Gl X x)(hm:X.mg x=none)(hv:bootBuiltins x=some (.builtin id))(ha:PA X (e::es) t)(hn:↥(x≠"__name__"))(hdb:↥((x==("__debug__":Str))=false))
  (he:⇑(starEach (e::es) X.env=(false,eval e X.env)::starEach es X.env)) (hpl:⇑((backTo pos (starEach es X.env)).any (·.1)=false)):PE X (.Call (.Name x p) (e::es) [] pos) (zq r t):=by intro Py s σ H Q I h;refine Pp (nR I hg hm hv ?_ hn hdb);exact PyProof.Rows.callWith_builtin1 (aN (ha pos Py s σ H _ I h) λus s1 ⟨vs,H1,I1,r1,q1⟩=>hc Py s1 σ H1 vs us Q I1 r1 q1) he hpl
theorem mL (hc:dD X (.type T) r)(hg:Gl X x)(hm:X.mg x=none)(hv:bootBuiltins x=some (.type T))(ha:PA X (e::es) t)(hn:↥(x≠"__name__"))(hdb:↥((x==("__debug__":Str))=false))
  (he:⇑(starEach (e::es) X.env=(false,eval e X.env)::starEach es X.env)) (hpl:⇑((backTo pos (starEach es X.env)).any (·.1)=false)):PE X (.Call (.Name x p) (e::es) [] pos) (zq r t):=by intro Py s σ H Q I h;refine Pp (nR I hg hm hv ?_ hn hdb);exact PyProof.Rows.callWith_type1 (aN (ha pos Py s σ H _ I h) λus s1 ⟨vs,H1,I1,r1,q1⟩=>hc Py s1 σ H1 vs us Q I1 r1 q1) he hpl
end
end L2
namespace HT
open PySem PyProof.Rows
section
open PySem.SeqAt
open PySem.AutoSeq1 (wpAny_loadPart')
open PySem.MeetsSeq PySem.MeetsSeq2 PySem.MeetsSeq3
end
variable {Q:Value->Shared->Prop}{vl vu:Value}{lo hi:Option Int}
section
variable {prog:Program}{w:World}{A:Around}{E:Value->Shared->Prop}{s:Shared}
theorem cat_tup{t b:Addr}{vs ws:List Value}(ht:IsTup s.heap t vs.toArray)(hb:IsTup s.heap b ws.toArray)(hv:vs≠[])(h1:ws=[]->Q (.ref t) s)(h2:ws≠[]->Q (.ref s.heap.objs.size) {s with heap:=s.heap.push {cls:=.type "tuple",data:=.seq (vs++ws).toArray}})(hsz:vs.length+ws.length<=sizeLine):wpAny (model prog w) A (binaryOp .Add (.ref t) (.ref b)) Q E s:=by
 obtain⟨⟨cls,dd,data,sl⟩,ho,hc,n,hd⟩:=id ht;obtain⟨⟨cls2,dd2,data2,sl2⟩,ho2,hc2,n2,hd2⟩:=id hb;simp only at hc hd hc2 hd2;subst hc hd hc2 hd2;have e:vs.toArray++ws.toArray=(vs++ws).toArray:=by simp
 by_cases hw:ws=[]
 ·exact concat_meets ⟨_,ho,rfl⟩ ⟨_,ho2,rfl⟩ noFill_tuple_add seq_tuple_add PySem.F.slot_tuple_add PySem.F.entry_tuple_add (PySem.F.args_tuple_add_2 _ _)
   (tuple_addW1 t b vs.toArray ws.toArray n n2 dd dd2 sl sl2 (by simpa using hv) (by simp[hw])) ⟨ho,ho2,h1 hw⟩
 ·refine concat_meets ⟨_,ho,rfl⟩ ⟨_,ho2,rfl⟩ noFill_tuple_add seq_tuple_add PySem.F.slot_tuple_add PySem.F.entry_tuple_add (PySem.F.args_tuple_add_2 _ _)
   (tuple_addW2 t b vs.toArray ws.toArray n n2 dd dd2 sl sl2 (by simpa using hv) (by simpa using hw) (by rw[bM,bM];exact hsz)) ⟨ho,ho2,?_⟩
  rw[e];exact h2 hw
def sIx (n d:Nat):Option Int->Nat
 |none=>d|some v=>if v<0 then(v+(n:Int)).toNat else min v.toNat n
theorem sIx_none (n d:Nat):sIx n d none=d:=rfl
theorem sIx_nat (n d k:Nat):sIx n d (some (k:Int))=min k n:=by show(if(k:Int)<0 then((k:Int)+(n:Int)).toNat else min (k:Int).toNat n)=min k n;rw[NR (by omega),Int.toNat_natCast]
theorem Gc (n d:Nat)(hd:d<=n)(o:Option Int):sIx n d o<=n:=by
 cases o with
 |none=>exact hd
 |some v=>
  show(if v<0 then(v+(n:Int)).toNat else min v.toNat n)<=n;by_cases hv:v<0
  ·rw[NU hv];omega
  ·rw[NR hv];exact Nat.min_le_right _ _
theorem CW (v:Int)(n d:Nat):(if v<0 then max (v+(n:Int)) 0 else min v (n:Int))=((sIx n d (some v):Nat):Int):=by
 show(if v<0 then max (v+(n:Int)) 0 else min v (n:Int))=(((if v<0 then(v+(n:Int)).toNat else min v.toNat n):Nat):Int);by_cases hv:v<0
 ·simp only[NU hv];omega
 ·simp only[NR hv];omega
theorem K6 (lo hi:Option Int)(n:Nat):Builtin.Slice.sliceAdjust lo hi 1 (n:Int)=(((sIx n 0 lo:Nat):Int),((sIx n n hi:Nat):Int)):=by
 have h1:¬ ((1:Int)<0):=by omega
 unfold Builtin.Slice.sliceAdjust;simp only[h1,if_false];refine Prod.ext ?_ ?_
 ·cases lo with
  |none=>rfl|some v=>exact CW v n 0
 ·cases hi with
  |none=>rfl|some v=>exact CW v n n
theorem K5 (i j:Nat):Builtin.Slice.slicePlaces (i:Int) (j:Int) 1=j - i:=by
 unfold Builtin.Slice.slicePlaces;have h1:(1:Int)>0:=by omega
 simp only[h1,if_true,Int.ediv_one];split<;>omega
theorem Ez {v:Value}{o:Option Int}{Q:Option Int->Shared->Prop}(p:IsPart v o)(h:Q o s):wpAny (model prog w) A (Builtin.Slice.slicePartIndex v) Q E s:=by
 cases p with
 |none=>exact slicePart_none h
 |int i t=>exact slicePart_int h
theorem M7{sl:Addr}{n:Nat}{Q:Int×Int×Nat->Shared->Prop}(hs:s.heap.IsSliceOf sl vl vu .none)(pl:IsPart vl lo)(pu:IsPart vu hi)(h:Q (((sIx n 0 lo:Nat):Int),1,sIx n n hi - sIx n 0 lo) s):wpAny (model prog w) A (Builtin.Slice.sliceApplied (.ref sl) (pure (n:Int))) Q E s:=by obtain⟨os,hos,hcs,hds⟩:=id hs;unfold Builtin.Slice.sliceApplied Builtin.Slice.sliceFields;refine Pc (Pc (Pu hos hds (x:=vl) rfl (Pc (Pu hos hds (x:=vu) rfl (Pc (Pu hos hds (x:=.none) rfl (Pf ?_)))))));refine Pc (slicePart_none ?_);show wpAny _ _ (if((1:Int)==0)=true then _ else _) _ _ s;rw[NR (by decide)];refine Pc (Ez pl (Pc (Ez pu (Pc (Pf ?_)))));show wpAny _ _ (match Builtin.Slice.sliceAdjust lo hi 1 (n:Int)with|(lo,hi)=>pure (lo,(1:Int),Builtin.Slice.slicePlaces lo hi 1)) _ _ s;rw[K6 lo hi n];show wpAny _ _ (pure (((sIx n 0 lo:Nat):Int),(1:Int),Builtin.Slice.slicePlaces ((sIx n 0 lo:Nat):Int) ((sIx n n hi:Nat):Int) 1)) _ _ s;rw[K5];exact Pf h
theorem IP (xs:Array Value)(i k:Nat):((List.range k).filterMap λ(m:Nat)=>xs[((i:Int)+(m:Int)*1).toNat]?).toArray=((xs.toList.drop i).take k).toArray:=by
 have e:(λ(m:Nat)=>xs[((i:Int)+(m:Int)*1).toNat]?)=λm=>xs[i+m]?:=by
  funext m;have:((i:Int)+(m:Int)*1).toNat=i+m:=by omega
  rw[this]
 rw[e];have:=pick_run xs i k;rw[List.filterMap_map]at this;have e2:((λx=>xs[x]?) ∘ λx=>i+x)=λm=>xs[i+m]?:=rfl;rw[e2]at this;rw[this]
theorem getItem_tuple_cut{t sl:Addr}{items:Array Value}(ht:IsTup s.heap t items)(hs:s.heap.IsSliceOf sl vl vu .none)(pl:IsPart vl lo)(pu:IsPart vu hi)(hw:¬ (sIx items.size 0 lo=0/\sIx items.size items.size hi=items.size))(h:Q (.ref s.heap.objs.size) {s with heap:=s.heap.push {cls:=.type "tuple",data:=.seq ((items.toList.drop (sIx items.size 0 lo)).take (sIx items.size items.size hi - sIx items.size 0 lo)).toArray}})(hsz:items.size<=sizeLine):wpAny (model prog w) A (getItem (.ref t) (.ref sl)) Q E s:=by
 have htake:sizeOk (.seq ((items.toList.drop (sIx items.size 0 lo)).take (sIx items.size items.size hi - sIx items.size 0 lo)).toArray):=by show((items.toList.drop (sIx items.size 0 lo)).take (sIx items.size items.size hi - sIx items.size 0 lo)).toArray.size<=sizeLine;rw[bM,OB,O_,Array.length_toList];omega
 have hj:sIx items.size items.size hi<=items.size:=Gc _ _ (NV _) hi;obtain⟨os,hos,hcs,hds⟩:=id hs;have hTs:s.TypeIs (.ref sl) "slice":=⟨os,hos,hcs⟩;unfold getItem;try with_reducible refine Pw ?_
 first|refine Pc (Pf ?_)|skip
 refine Pc (wpAny_sequenceKey ht.typeIs (by decide) ?_);refine Pc (wpAny_callSpecial?_slot (name:=Str.ofString "__getitem__") ht.typeIs PyProof.Rows.slot_tuple_getitem
  (wpAny_call_entry PyProof.Rows.slot_tuple_getitem ht.typeIs entry_tuple_getitem ?_ (args_tuple_getitem _ _)))
 show wpAny _ _ (Builtin.Tuple.tupleItemsOf (.ref t)>>=_) _ _ s;refine Pc (tupleItemsOf_ ht ?_);refine Pc (wpAny_typeOf hTs ?_);rw[NU (by decide)];refine Pc (M7 hs pl pu ?_);have hno:¬ ((((sIx items.size 0 lo:Nat):Int)==0&&(1:Int)==1&&(sIx items.size items.size hi - sIx items.size 0 lo)==items.size)=true):=by intro q;rw[NS,NS]at q;have q1:((sIx items.size 0 lo:Nat):Int)=0:=eq_of_beq q.1.1;have q2:sIx items.size items.size hi - sIx items.size 0 lo=items.size:=eq_of_beq q.2;exact hw ⟨by omega,by omega⟩
 show wpAny _ _ (if(((sIx items.size 0 lo:Nat):Int)==0&&(1:Int)==1&&(sIx items.size items.size hi - sIx items.size 0 lo)==items.size)=true then _ else _) _ _ s;rw[NR hno,IP];first
  |exact Pc (m:=Builtin.Tuple.tupleExact _) (Pr (Pf ⟨_,rfl,Pf h⟩) htake)|exact Pc (m:=Builtin.Tuple.tupleExact _) (Pr (Pc (Pf (Pf ⟨_,rfl,Pf h⟩))) htake)|exact Pc (Pc (m:=Builtin.Tuple.tupleExact _) (Pr (Pf (Pf ⟨_,rfl,Pf h⟩)) htake))|exact Pc (Pc (m:=Builtin.Tuple.tupleExact _) (Pr (Pf ⟨_,rfl,Pf h⟩) htake))
end
end HT
namespace L2
open PySem PySem.Spec PyProof.Rows
abbrev TO:=St->Hp->(Option Int->Hp->Prop)->Prop
def PO (X:Cx)(e:Option Expr)(t:TO):Prop:=
 ∀(Py:QX) (s:Shared) (σ:St) (H:Hp) (Q:Option Int->Hp->Prop),am X Py σ H s->t σ H Q->
  wpAny (model X.prog X.w) X.A (evalPart e X.env) (λu s'=>∃ o H',am X Py σ H' s'/\IsPart u o/\Q o H') X.xe s
def CV:TO:=λ_ H Q=>Q none H
def By (t:TE):TO:=λσ H Q=>t σ H λx H1=>∃ i,x=.int i/\Q (some i) H1
theorem K4 {ns:QS}:∀{us:List Value},ax (ns.map V.int) us->IntsAre us ns:=by
 induction ns with
 |nil=>intro us r;rw[Oh]at r;cases r;exact .nil
 |cons n ns ih=>
  intro us r;rw[bw]at r;cases r with
  |cons r1 r2=>obtain⟨t,e⟩:=r1;subst e;exact .cons n t (ih r2)
variable {xs:QV}{us:List Value}{pos:Pos}{X:Cx}{e:Expr}
section
variable {te:TE}{lo hi:Option Expr}{tl th:TO}{p2:Pos}
theorem pw:PO X none CV:=by intro Py s σ H Q I h;rw[evalPart_none];exact Pf ⟨none,H,I,.none,h⟩
theorem pq (h:PE X e te):PO X (some e) (By te):=by intro Py s σ H Q I hw;rw[evalPart_some];refine aN (h Py s σ H _ I hw) λu s1 ⟨x,H1,I1,r1,q1⟩=>?_;obtain⟨i,rfl,q⟩:=q1;obtain⟨t,rfl⟩:=r1;exact⟨some i,H1,I1,.int i t,q⟩
def lQ (X:Cx)(r:V->Option Int->Option Int->Hp->VK->Prop):Prop:=
 ∀(Py:QX) (s:Shared) (σ:St) (H:Hp) (x:V) (v vl vu:Value) (lo hi:Option Int) (sl:Addr) (Q:VK),am X Py σ H s->aC x v->s.heap.IsSliceOf sl vl vu .none->IsPart vl lo->IsPart vu hi->r x lo hi H Q->
  ∃ T id,typeLookup (.type T) "__getitem__"=pure (some (.builtin id))/\s.TypeIs v T/\wpAny (model X.prog X.w) X.A (getItem v (.ref sl)) (EP X Py σ Q) X.xe s
variable {r:V->Option Int->Option Int->Hp->VK->Prop}
theorem lQ.or{r':V->Option Int->Option Int->Hp->VK->Prop}(h:lQ X r)(h':lQ X r'):lQ X (λx lo hi H Q=>r x lo hi H Q\/r' x lo hi H Q):=by
 intro Py s σ H x v vl vu lo hi sl Q I rx hs pl pu q;rcases q with q|q
 ·exact h Py s σ H x v vl vu lo hi sl Q I rx hs pl pu q
 ·exact h' Py s σ H x v vl vu lo hi sl Q I rx hs pl pu q
def Fe (r:V->Option Int->Option Int->Hp->VK->Prop)(te:TE)(tl th:TO):TE:=λσ H Q=>te σ H λx H1=>tl σ H1 λl H2=>th σ H2 λu H3=>r x l u H3 Q
theorem pF(hr:lQ X r)(he:PE X e te)(hl:PO X lo tl)(hu:PO X hi th):PE X (.Subscript e (.Slice lo hi none p2) pos) (Fe r te tl th):=by intro Py s σ H Q I h;refine Subscript_ (aN (he Py s σ H _ I h) λv s1 ⟨x,H1,I1,r1,q1⟩=>?_);refine wpAny_Slice (aN (hl Py s1 σ H1 _ I1 q1) λvl s2 ⟨l,H2,I2,pl,q2⟩=>aN (hu Py s2 σ H2 _ I2 q2) λvu s3 ⟨u,H3,I3,pu,q3⟩=>?_);rw[evalPart_none];refine Pf ?_;have I4:am X Py σ H3 {s3 with heap:=s3.heap.push {cls:=.type "slice",data:=.fields #[vl,vu,.none]}}:=I3.kept (t':=s3.toks) λb ob q=>Pd _ q;obtain⟨T,id,hT,ht,hg⟩:=hr Py {s3 with heap:=s3.heap.push {cls:=.type "slice",data:=.fields #[vl,vu,.none]}} σ H3 x v vl vu l u s3.heap.objs.size Q I4 r1 (Heap.IsSliceOf.new ..) pl pu q3;show wpAny (model X.prog X.w) X.A (subscriptTail e (.Slice lo hi none p2) v (.ref s3.heap.objs.size)) (EP X Py σ Q) X.xe {s3 with heap:=s3.heap.push {cls:=.type "slice",data:=.fields #[vl,vu,.none]}};exact tail_any (ops:=[.ref s3.heap.objs.size,v]) ht hT hg (by with_unfolding_all rfl)
def cK (xs:QV)(lo hi:Option Int):QV:=(xs.drop (HT.sIx xs.length 0 lo)).take (HT.sIx xs.length xs.length hi - HT.sIx xs.length 0 lo)
theorem EB (xs:QV)(lo hi:Option Int):(cK xs lo hi).length<=xs.length:=by unfold cK;rw[OB,O_];omega
def qj (K:Fg):V->Option Int->Option Int->Hp->VK->Prop:=λx lo hi H Q=>∃ a xs,x=.ref a/\aH K H a xs/\
 ¬ (HT.sIx xs.length 0 lo=0/\HT.sIx xs.length xs.length hi=xs.length)/\∀ p,H p=none->Q (.ref p) (upd H p (.tup (cK xs lo hi)))
theorem Gb:lQ X (qj X.K):=by
 intro Py s σ H x v vl vu lo hi sl Q I rx hs pl pu h;obtain⟨a,xs,rfl,hx,hw,q⟩:=h;cases rx;obtain⟨its,r,ht,hz⟩:=I.tuple hx;have hlen:its.toArray.size=xs.length:=by rw[bM];exact r.length.symm
 nomatch "tuple",_,PyProof.Rows.slot_tuple_getitem.lookup,ht.typeIs;refine HT.getItem_tuple_cut ht hs pl pu (by rw[hlen];exact hw) ?_ (by rw[hlen];exact hz);rw[hlen];refine⟨.ref s.heap.objs.size,_,I.laid (t':=s.toks) (o:=.tup (cK xs lo hi)) (λb ob q=>Pd _ q) (NV _) ?_,rfl,q _ (I.hok.fresh (NV _))⟩;exact⟨Od (EB xs lo hi) hz,_,(r.drop (HT.sIx xs.length 0 lo)).take (HT.sIx xs.length xs.length hi - HT.sIx xs.length 0 lo),IsTup.new _ _⟩
def Bx (K:Fg):R2:=λx y H Q=>∃ a b xs ys,x=.ref a/\y=.ref b/\aH K H a xs/\aH K H b ys/\xs≠[]/\xs.length+ys.length<=sizeLine/\
 (ys=[]->Q (.ref a) H)/\(ys≠[]->∀ p,H p=none->Q (.ref p) (upd H p (.tup (xs++ys))))
theorem ax.nil_iff(r:ax xs us):us=[]↔xs=[]:=by
 cases r with
 |nil=>simp
 |cons _ _=>simp
theorem Iq:bV X (binaryOp .Add) (Bx X.K):=by intro Py s σ H x y v u Q I rx ry h;obtain⟨a,b,xs,ys,rfl,rfl,ha,hb,hx,hz,q1,q2⟩:=h;cases rx;cases ry;obtain⟨its,r1,p1,_⟩:=I.tuple ha;obtain⟨its2,r2,p2,_⟩:=I.tuple hb;refine HT.cat_tup p1 p2 (λz=>hx (r1.nil_iff.mp z)) (λz=>⟨.ref a,H,I,rfl,q1 (r2.nil_iff.mp z)⟩) (λz=>?_) (by rw[<-r1.length,<-r2.length];exact hz);refine⟨.ref s.heap.objs.size,_,I.laid (t':=s.toks) (o:=.tup (xs++ys)) (λb ob q=>Pd _ q) (NV _) ?_,rfl,q2 (λw=>z (r2.nil_iff.mpr w)) _ (I.hok.fresh (NV _))⟩;exact⟨by rw[N4];exact hz,_,r1.append r2,IsTup.new _ _⟩
end
noncomputable def ix (n:Nat) (i:Int):Option Nat:=if 0<=i then(if i<n then some i.toNat else none)else if -(n:Int)<=i then some (i+n).toNat else none
def fe {α:Type}(xs:List α)(i:Int):Option α:=(ix xs.length i).bind λj=>xs[j]?
variable {n j:Nat}{i:Int}
theorem CU(h:ix n i=some j):seqIndex? i n=some j/\j<n/\-(n:Int)<=i/\i<n:=by
 unfold ix at h;by_cases h0:0<=i
 ·rw[NU h0]at h;by_cases h1:i<n
  ·rw[NU h1]at h;have e:i.toNat=j:=Oj h;exact⟨by rw[seqIndex_of h0 h1,e],by omega,by omega,h1⟩
  ·rw[NR h1]at h;cases h
 ·rw[NR h0]at h;by_cases h1:-(n:Int)<=i
  ·rw[NU h1]at h;have e:(i+n).toNat=j:=Oj h;exact⟨by rw[seqIndex_neg (by omega) h1,e],by omega,h1,by omega⟩
  ·rw[NR h1]at h;cases h
variable {α:Type}
theorem wq{xs:List α}{v:α}(h:fe xs i=some v):∃ j,seqIndex? i xs.length=some j/\xs[j]?=some v/\j<xs.length/\-(xs.length:Int)<=i/\i<xs.length:=by
 unfold fe at h;cases e:ix xs.length i with
 |none=>rw[e]at h;cases h
 |some j=>rw[e]at h;obtain⟨h1,h2,h3,h4⟩:=CU e;exact⟨j,h1,h,h2,h3,h4⟩
theorem bJ{xs:List α}{v:α}(h:xs[j]?=some v):fe xs (j:Int)=some v:=by
 have hj:j<xs.length:=(dF.mp h).1;have e:ix xs.length (j:Int)=some j:=by unfold ix;rw[NU (by omega),NU (by omega)];simp
 unfold fe;rw[e];exact h
def CT (b:Expr):Prop:=∀ o i,subscripted b false o i=operate [o,i] (getItem o i)
def jU (X:Cx)(r:R2):Prop:=
 ∀(value slice:Expr) (Py:QX) (s:Shared) (σ:St) (H:Hp) (x y:V) (v u:Value) (Q:VK),am X Py σ H s->aC x v->aC y u->r x y H Q->
  subscripted slice false v u=operate [v,u] (getItem v u)->wpAny (model X.prog X.w) X.A (subscriptTail value slice v u) (EP X Py σ Q) X.xe s
def Bd (X:Cx)(id:String)(r:V->QV->Hp->VK->Prop):Prop:=
 ∀(Py:QX) (s:Shared) (σ:St) (H:Hp) (x:V) (xs:QV) (v:Value) (us:List Value) (Q:VK),am X Py σ H s->aC x v->ax xs us->r x xs H Q->
  wpAny (model X.prog X.w) X.A (call (.builtin id) (v::us)) (EP X Py σ Q) X.xe s
variable {Py:QX}{σ:St}{H:Hp}{s:Shared}{p:Addr}{ys:QV}{its its':List Value}{A:Around}{y x:V}{u v:Value}{T id:String}{apos cpos:Pos}
section
variable {a b:Expr}{ta tb:TE}
theorem jU.or {r r':R2}(h:jU X r)(h':jU X r'):jU X (λx y H Q=>r x y H Q\/r' x y H Q):=by
 intro value slice Py s σ H x y v u Q I rx ry q hs;rcases q with q|q
 ·exact h value slice Py s σ H x y v u Q I rx ry q hs
 ·exact h' value slice Py s σ H x y v u Q I rx ry q hs
theorem qw {r:R2}(hr:jU X r)(ha:PE X a ta)(hb:PE X b tb)(hs:CT b):PE X (.Subscript a b pos) (i_ r ta tb):=by intro Py s σ H Q I h;exact Subscript_ (m5 ha hb I h λv u s2 x y H2 I2 rx ry q=>hr a b Py s2 σ H2 x y v u Q I2 rx ry q (hs _ _))
def qt (K:Fg):R2:=λx y H Q=>∃ p xs i v,x=.ref p/\y=.int i/\ar K H p xs/\fe xs i=some v/\Q v H
def qq (K:Fg):R2:=λx y H Q=>∃ p xs i v,x=.ref p/\y=.int i/\aH K H p xs/\fe xs i=some v/\Q v H
def qr:R2:=λx y H Q=>∃ z i c,x=.str z/\y=.int i/\z.length<=sizeLine/\fe z.cps.toList i=some c/\Q (.str ⟨#[c]⟩) H
theorem Ip:jU X (qt X.K):=by
 intro value slice Py s σ H x y v u Q I rx ry h hs;obtain⟨p,xs,i,z,rfl,rfl,hq,he,q⟩:=h;cases rx;obtain⟨t,rfl⟩:=ry;obtain⟨its,r,pl,hz⟩:=I.list hq;obtain⟨j,h1,h2,h3,h4,h5⟩:=wq he;obtain⟨w,ew,rw'⟩:=r.get h2;have hl:=r.length;have hn:=nQ;have fin:EP X Py σ Q w s:=⟨z,H,I,rw',q⟩;by_cases h0:0<=i
 ·have hj:i.toNat=j:=by rw[seqIndex_of h0 h5]at h1;exact Oj h1
  exact item_listR pl.isList h0 (by omega) (by rw[hj];simpa using ew) fin hs
 ·have hj:(i+(its.toArray.size:Int)).toNat=j:=by rw[seqIndex_neg (by omega) h4]at h1;rw[bM,<-hl];exact Oj h1
  exact subscriptTail_builtinR (x:=w) pl.isList.typeIs slot_list_getitem.lookup
   (wpAny_getItem_list_neg (Q:=λr s'=>r=w/\EP X Py σ Q r s') pl.isList (by omega) (by rw[bM]<;>omega) (by omega) (by rw[hj];simpa using ew) ⟨rfl,fin⟩) hs
theorem Ga:jU X (qq X.K):=by
 intro value slice Py s σ H x y v u Q I rx ry h hs;obtain⟨p,xs,i,z,rfl,rfl,hq,he,q⟩:=h;cases rx;obtain⟨t,rfl⟩:=ry;obtain⟨its,r,pl,hz⟩:=I.tuple hq;obtain⟨j,h1,h2,h3,h4,h5⟩:=wq he;obtain⟨w,ew,rw'⟩:=r.get h2;have hl:=r.length;have hn:=nQ;have fin:EP X Py σ Q w s:=⟨z,H,I,rw',q⟩;exact subscriptTail_builtinR (x:=w) pl.typeIs slot_tuple_getitem.lookup
  (getItem_tuple (j:=j) (Q:=λr s'=>r=w/\EP X Py σ Q r s') pl (by omega) (by omega) (by rw[bM,<-hl];exact h1) (by simpa using ew) ⟨rfl,fin⟩) hs
theorem F_:jU X qr:=by
 intro value slice Py s σ H x y v u Q I rx ry h hs;obtain⟨z,i,c,rfl,rfl,hz,he,q⟩:=h;obtain⟨t,rfl⟩:=rx;obtain⟨t',rfl⟩:=ry;obtain⟨j,h1,h2,h3,h4,h5⟩:=wq he;have hl:z.cps.toList.length=z.length:=by simp[Str.length]
 rw[hl]at h1 h4 h5;have hn:=nQ;exact tail_any (typeIs_str s z t) slot_str_getitem.lookup (getItem_str (c:=c) (by have e1:decide (i< -(2 ^ 63:Int))=false:=N7 (by omega);have e2:decide (i≥2 ^ 63)=false:=N7 (by omega);rw[e1,e2,Bool.or_false]) (by rw[h1];simpa using h2) ⟨.str ⟨#[c]⟩,H,I.tok _,⟨_,rfl⟩,q⟩) hs
def mQ (K:Fg):R2:=λx y H Q=>qt K x y H Q\/qq K x y H Q\/qr x y H Q
theorem F0:jU X (mQ X.K):=Ip.or (Ga.or F_)
theorem K3 (its:List Value)(n j:Nat)(u:Value):Obj.mapSeq (·.setIfInBounds j u) {cls:=.type "list",data:=.seq its.toArray n}={cls:=.type "list",data:=.seq (its.set j u).toArray n}:=by simp[Obj.mapSeq]
theorem am.lst(I:am X Py σ H s)(h:H p=some (.lst xs)):
  ∃(its:List Value) (n:Nat),ax xs its/\s.heap.get? p=some {cls:=.type "list",data:=.seq its.toArray n}/\xs.length<=sizeLine:=by obtain⟨z,its,n,r,e⟩:=I.hok p _ h;exact⟨its,n,r,e,z⟩
theorem am.lstUpd{n':Nat}{f:Obj->Obj}(I:am X Py σ H s)(h:H p=some (.lst xs))(ho:s.heap.get? p=some {cls:=.type "list",data:=.seq its.toArray n})(hf:f {cls:=.type "list",data:=.seq its.toArray n}={cls:=.type "list",data:=.seq its'.toArray n'})(r:ax ys its')(hz:ys.length<=sizeLine)(t:Nat):
  am X Py σ (upd H p (.lst ys)) {s with heap:=s.heap.update p f,toks:=t}:=by
 have e:(s.heap.update p f).get? p=some {cls:=.type "list",data:=.seq its'.toArray n'}:=by rw[Heap.get?_update_self f ho (by rw[hf]<;>rfl),hf]
 refine I.write (x:=p) (e:=p) (by rw[h];trivial) (.inl rfl) (λb u hb q=>(Po _ _ (Ne.symm hb)).trans q) ⟨_,e⟩ ?_;exact⟨hz,its',n',r,e⟩
def Bw:V->V->V->Hp->(Hp->Prop)->Prop:=λo i v H Q=>∃ p xs k j,o=.ref p/\i=.int k/\H p=some (.lst xs)/\ix xs.length k=some j/\Q (upd H p (.lst (xs.set j v)))
theorem ue:sF X Bw:=by
 intro Py s σ H o i v ov iv u Q I ro ri rv h;obtain⟨p,xs,k,j,rfl,rfl,hp,hj,q⟩:=h;cases ro;obtain⟨t,rfl⟩:=ri;obtain⟨its,n,r,ho,hz⟩:=I.lst hp;obtain⟨h1,h2,h3,h4⟩:=CU hj;have hl:=r.length;have hn:=nQ;have I':am X Py σ (upd H p (.lst (xs.set j v))) {s with heap:=s.heap.update p (Obj.mapSeq (·.setIfInBounds j u))}:=
  I.lstUpd hp ho (K3 its n j u) (r.set rv j) (by rw[Ou];exact hz) s.toks
 by_cases h0:0<=k
 ·have hk:k.toNat=j:=by rw[seqIndex_of h0 h4]at h1;exact Oj h1
  exact PySem.W.ki_setAt ho h0 (by omega) (by rw[bM,<-hl];exact h4) (by rw[hk];exact⟨_,I',q⟩)
 ·have hk:(k+(its.toArray.size:Int)).toNat=j:=by rw[seqIndex_neg (by omega) h3]at h1;rw[bM,<-hl];exact Oj h1
  exact PySem.W.ki_setBack ho (by omega) (by rw[bM,<-hl];exact h3) (by omega) (by rw[hk];exact⟨_,I',q⟩)
theorem L4 (lo hi:Option Int)(n:Nat):(sliceBounds lo hi none n).1=((HT.sIx n 0 lo:Nat):Int)/\(sliceBounds lo hi none n).2.1=((HT.sIx n n hi:Nat):Int)/\(sliceBounds lo hi none n).2.2=1:=by
 refine⟨?_,?_,rfl⟩
 ·cases lo with
  |none=>simp[sliceBounds,HT.sIx]|some i=>
   simp only[sliceBounds,HT.sIx,Option.getD_none,show(1:Int)>0 by decide,if_true];by_cases h:i<0
   ·simp only[h,if_true]<;>omega
   ·simp only[h,if_false]<;>omega
 ·cases hi with
  |none=>simp[sliceBounds,HT.sIx]|some i=>
   simp only[sliceBounds,HT.sIx,Option.getD_none,show(1:Int)>0 by decide,if_true];by_cases h:i<0
   ·simp only[h,if_true]<;>omega
   ·simp only[h,if_false]<;>omega
theorem Mh (its:List Value)(lo hi:Option Int):slicePick its.toArray lo hi none=((its.drop (HT.sIx its.length 0 lo)).take (HT.sIx its.length its.length hi - HT.sIx its.length 0 lo)).toArray:=by obtain⟨h1,h2,h3⟩:=L4 lo hi its.toArray.size;unfold slicePick;rw[h1,h2,h3];simp only[sliceRange_one,pick_run,bM]<;>rfl
def qk (K:Fg):V->Option Int->Option Int->Hp->VK->Prop:=λx lo hi H Q=>∃ a xs,x=.ref a/\ar K H a xs/\∀ p,H p=none->Q (.ref p) (upd H p (.lst (cK xs lo hi)))
theorem Io:lQ X (qk X.K):=by intro Py s σ H x v vl vu lo hi sl Q I rx hs pl pu h;obtain⟨a,xs,rfl,hx,q⟩:=h;cases rx;obtain⟨its,r,ht,hz⟩:=I.list hx;have hlen:=r.length;nomatch "list",_,slot_list_getitem.lookup,ht.isList.typeIs;refine wpAny_getItem_list_slice ht.isList hs pl pu .none (by simp) ?_ (by rw[bM]<;>omega);rw[Mh,<-hlen];refine⟨.ref s.heap.objs.size,_,I.laid (t':=s.toks) (o:=.lst (cK xs lo hi)) (λb ob q=>Pd _ q) (NV _) ?_,rfl,q _ (I.hok.fresh (NV _))⟩;exact⟨Od (EB xs lo hi) hz,_,0,(r.drop (HT.sIx xs.length 0 lo)).take (HT.sIx xs.length xs.length hi - HT.sIx xs.length 0 lo),Ph _ rfl⟩
def gi:V->Bool
 |.non=>true|.bl _=>true|.int _=>true|.str _=>true|_=>false
noncomputable def iA:V->V->Bool
 |.non,.non=>true|.bl a,.bl b=>a==b|.bl a,.int b=>(if a then 1 else 0)==b|.int a,.bl b=>a==(if b then 1 else 0)|.int a,.int b=>a==b|.str a,.str b=>a==b|_,_=>false
theorem BW(ry:aC y u)(rx:aC x v)(fy:gi y=true)(fx:gi x=true):SeqAt.EqAt A s u v (iA y x):=by
 cases y with
 |non=>
  cases ry;cases x with
  |non=>cases rx;exact SeqAt.EqAt.same _
  |bl b=>cases rx;exact SeqAt.EqAt.none_bool b
  |int b=>obtain⟨t,rfl⟩:=rx;exact SeqAt.EqAt.none_int b t
  |str b=>obtain⟨t,rfl⟩:=rx;exact SeqAt.EqAt.none_str b t
  |_=>exact Oa (show false=true from fx) N5
 |bl a=>
  cases ry;cases x with
  |non=>cases rx;exact SeqAt.EqAt.bool_none a
  |bl b=>cases rx;exact SeqAt.EqAt.bool_bool a b
  |int b=>obtain⟨t,rfl⟩:=rx;exact SeqAt.EqAt.bool_int a b t
  |str b=>obtain⟨t,rfl⟩:=rx;exact SeqAt.EqAt.bool_str a b t
  |_=>exact Oa (show false=true from fx) N5
 |int a=>
  obtain⟨t',rfl⟩:=ry;cases x with
  |non=>cases rx;exact SeqAt.EqAt.int_none a t'
  |bl b=>cases rx;exact SeqAt.EqAt.int_bool a t' b
  |int b=>obtain⟨t,rfl⟩:=rx;exact SeqAt.EqAt.int_int a t' b t
  |str b=>obtain⟨t,rfl⟩:=rx;exact SeqAt.EqAt.int_str a t' b t
  |_=>exact Oa (show false=true from fx) N5
 |str a=>
  obtain⟨t',rfl⟩:=ry;cases x with
  |non=>cases rx;exact SeqAt.EqAt.str_none a t'
  |bl b=>cases rx;exact SeqAt.EqAt.str_bool a t' b
  |int b=>obtain⟨t,rfl⟩:=rx;exact SeqAt.EqAt.str_int a t' b t
  |str b=>obtain⟨t,rfl⟩:=rx;exact SeqAt.EqAt.str_str a t' b t
  |_=>exact Oa (show false=true from fx) N5
 |_=>exact Oa (show false=true from fy) N5
noncomputable def ky (x:V) (u:Value):Bool:=match u with
 |.none=>iA .non x|.bool b=>iA (.bl b) x|.int i _=>iA (.int i) x|.str z _=>iA (.str z) x|_=>false
theorem BV(r:aC y u)(f:gi y=true):ky x u=iA y x:=by
 cases y with
 |non=>cases r;rfl
 |bl b=>cases r;rfl
 |int i=>obtain⟨t,rfl⟩:=r;rfl
 |str z=>obtain⟨t,rfl⟩:=r;rfl
 |_=>exact Oa (show false=true from f) N5
theorem wo:∀{xs:QV}{us:List Value},ax xs us->xs.all gi=true->us.any (ky x)=xs.any λy=>iA y x
 |_,_,.nil,_=>rfl|y::xs,u::us,.cons r t,f=>by rw[OO,NS]at f;rw[OC,OC,BV r f.1,wo t f.2]
theorem w9(rx:aC x v)(fx:gi x=true):∀{xs:QV}{us:List Value},ax xs us->xs.all gi=true->∀ u∈us,SeqAt.EqAt A s u v (ky x u)
 |_,_,.nil,_=>λu hu=>by cases hu|y::xs,u::us,.cons r t,f=>λu' hu=>by
  rw[OO,NS]at f;rcases NP.mp hu with rfl|hu
  ·rw[BV r f.1];exact BW r rx f.1 fx
  ·exact w9 rx fx t f.2 u' hu
def mW (x:V)(xs:QV):Bool:=xs.any λy=>iA y x
def uN (K:Fg)(neg:Bool):R2:=λx y H Q=>∃ p xs,y=.ref p/\(ar K H p xs\/aH K H p xs)/\gi x=true/\xs.all gi=true/\Q (.bl (if neg then !mW x xs else mW x xs)) H
theorem Kw:bV X (compareOp .In) (uN X.K false):=by
 intro Py s σ H x y v u Q I rx ry h;obtain⟨p,xs,rfl,hq,fx,fs,q⟩:=h;cases ry;rcases hq with hq|hq
 ·obtain⟨its,r,pl,hz⟩:=I.list hq;refine SeqAt.in_listAt (ky x) pl.isList (λw hw=>w9 rx fx r fs w (by simpa using hw)) ⟨.bl _,H,I,rfl,?_⟩;rw[show its.toArray.any (ky x)=its.any (ky x)by simp,wo r fs];exact q
 ·obtain⟨its,r,pl,hz⟩:=I.tuple hq;refine SeqAt.in_tupleAt (ky x) pl (λw hw=>w9 rx fx r fs w (by simpa using hw)) ⟨.bl _,H,I,rfl,?_⟩;rw[show its.toArray.any (ky x)=its.any (ky x)by simp,wo r fs];exact q
theorem L3:dD X (.builtin "len") (λxs H Q=>∃ p ys,xs=[.ref p]/\(ar X.K H p ys\/aH X.K H p ys)/\Q (.int ys.length) H):=by
 intro Py s σ H xs us Q I r h;obtain⟨p,ys,rfl,hq,q⟩:=h;obtain⟨u,rfl,rx⟩:=jz r;cases rx;have hn:=nQ;rcases hq with hq|hq
 ·obtain⟨its,r',pl,hz⟩:=I.list hq;have hlen:=r'.length;exact Calls.call_len_list pl.isList (by simp only[bM]<;>omega) ⟨.int ys.length,H,I.tok _,⟨s.toks+1,by rw[bM,hlen]⟩,q⟩
 ·obtain⟨its,r',pl,hz⟩:=I.tuple hq;have hlen:=r'.length;exact len_tuple pl (by simp only[bM]<;>omega) ⟨.int ys.length,H,I.tok _,⟨s.toks+1,by rw[bM,hlen]⟩,q⟩
theorem L0:dD X (.type "list") (λxs H Q=>∃ p ys,xs=[.ref p]/\(ar X.K H p ys\/aH X.K H p ys)/\∀ l,H l=none->Q (.ref l) (upd H l (.lst ys))):=by
 intro Py s σ H xs us Q I r h;obtain⟨p,ys,rfl,hq,q⟩:=h;obtain⟨u,rfl,rx⟩:=jz r;cases rx;have fin:∀(its:List Value),ax ys its->ys.length<=sizeLine->∀(h':Heap) (c':Nat),(∀ b o',s.heap.get? b=some o'->h'.get? b=some o')->
   h'.get? s.heap.objs.size=some {cls:=.type "list",dict:=none,data:=.seq its.toArray c',slots:=#[]}->EP X Py σ Q (.ref s.heap.objs.size) {s with heap:=h'}:=λits r' hz h' c' kp e=>
  ⟨.ref s.heap.objs.size,_,I.laid (t':=s.toks) kp (NV _) (show c_ X.prog X.w _ h' _ (.lst ys)from⟨hz,its,c',r',e⟩),rfl,q _ (I.hok.fresh (NV _))⟩
 rcases hq with hq|hq
 ·obtain⟨its,r',pl,hz⟩:=I.list hq;have hlen:=r'.length;obtain⟨o,ho,hc,n,hd⟩:=pl.isList;exact call_list_seq p (.inl rfl) ho hc hd (λh' c' kp e=>fin its r' hz h' c' kp e) (by simp only[bM]<;>omega)
 ·obtain⟨its,r',pl,hz⟩:=I.tuple hq;have hlen:=r'.length;obtain⟨o,ho,hc,n,hd⟩:=pl;exact call_list_seq p (.inr rfl) ho hc hd (λh' c' kp e=>fin its r' hz h' c' kp e) (by simp only[bM]<;>omega)
theorem Mg:dD X (.type "tuple") (λxs H Q=>∃ p ys,xs=[.ref p]/\((ar X.K H p ys/\∀ l,H l=none->Q (.ref l) (upd H l (.tup ys)))\/(aH X.K H p ys/\Q (.ref p) H))):=by
 intro Py s σ H xs us Q I r h;obtain⟨p,ys,rfl,h⟩:=h;obtain⟨u,rfl,rx⟩:=jz r;cases rx;rcases h with⟨hq,q⟩|⟨hq,q⟩
 ·obtain⟨its,r',pl,hz⟩:=I.list hq;have hlen:=r'.length;refine call_tuple_list pl.isList (λh' kp=>?_) (by simp only[bM]<;>omega);have I1:am X Py σ H {s with heap:=h'}:=I.kept (t':=s.toks) kp;have I2:am X Py σ (upd H h'.objs.size (.tup ys)) {s with heap:=h'.push {cls:=.type "tuple",data:=.seq its.toArray}}:=
   I1.laid (t':=s.toks) (λb o e=>Pd _ e) (NV _) (show c_ X.prog X.w _ _ _ (.tup ys)from⟨hz,its,r',IsTup.new _ _⟩)
  exact⟨.ref h'.objs.size,_,I2,rfl,q _ (I1.hok.fresh (NV _))⟩
 ·obtain⟨its,r',pl,hz⟩:=I.tuple hq;exact call_tuple_same pl ⟨.ref p,H,I,rfl,q⟩
def oC (K:Fg)(T:String)(x:V)(H:Hp):Prop:=match x with
 |.str _=>T="str"|.int _=>T="int"|.ref p=>(T="list"/\∃ xs,ar K H p xs)\/(T="tuple"/\∃ o,K.lookup p=some o/\o.cls=.type "tuple"/\o.dict=none)\/
   (T="dict"/\((∃ kvs,H p=some (.dK kvs))\/∃ kvs,H p=some (.dT kvs)))\/(T="set"/\∃ S n,H p=some (.set S n))
 |_=>False
theorem BU(I:am X Py σ H s)(r:aC x v)(ty:oC X.K T x H):
  s.TypeIs v T/\∀ a,v=.ref a->∃ ob,s.heap.get? a=some ob/\ob.dict=none:=by
 cases x with
 |str z=>obtain⟨t,rfl⟩:=r;cases(show T="str" from ty);exact⟨typeIs_str s z t,λ_ e=>nomatch e⟩
 |int i=>obtain⟨t,rfl⟩:=r;cases(show T="int" from ty);exact⟨typeIs_int s i t,λ_ e=>nomatch e⟩
 |ref p=>
  cases r;rcases ty with⟨rfl,xs,hq⟩|⟨rfl,o,hk,hc,hd⟩|⟨rfl,hk⟩|⟨rfl,S,n,hk⟩
  ·obtain⟨its,_,pl,_⟩:=I.list hq;refine⟨pl.isList.typeIs,λa e=>?_⟩;cases e;obtain⟨o,n,e,c,hd,_⟩:=pl;exact⟨o,e,hd⟩
  ·refine⟨⟨o,I.kIn p o hk,hc⟩,λa e=>?_⟩;cases e;exact⟨o,I.kIn _ o hk,hd⟩
  ·have z:∃ o,s.heap.get? p=some o/\o.ExactDict:=by
    rcases hk with⟨kvs,hk⟩|⟨kvs,hk⟩
    ·obtain⟨_,_,_,_,o,_,_,e,ex,_⟩:=I.hok p _ hk;exact⟨o,e,ex⟩
    ·obtain⟨_,_,_,_,o,_,_,e,ex,_⟩:=I.hok p _ hk;exact⟨o,e,ex⟩
   obtain⟨o,e,ex⟩:=z;refine⟨⟨o,e,ex.1⟩,λa e2=>?_⟩;cases e2;exact⟨o,e,ex.2.1⟩
  ·obtain⟨o,_,_,_,e,ex,_⟩:=I.hok p _ hk;refine⟨⟨o,e,ex.1⟩,λa e2=>?_⟩;cases e2;exact⟨o,e,ex.2.1⟩
 |_=>exact Ov ty
def qb (K:Fg)(T:String)(r:V->QV->Hp->VK->Prop)(to:TE):TE:=λσ H Q=>to σ H λx H1=>oC K T x H1/\r x [] H1 Q
def Fi (K:Fg)(T:String)(r:V->QV->Hp->VK->Prop)(to:TE)(t:TA):TE:=λσ H Q=>to σ H λx H1=>oC K T x H1/\t σ H1 λxs H2=>r x xs H2 Q
variable {o:Expr}{es:List Expr}{to:TE}{t:TA}{name:Str}{r:V->QV->Hp->VK->Prop}
theorem BS (pa:PlainAttrs T)(slot:Slot T name id)(hty:typeOf (.builtin id)=pure (.type "method_descriptor"))(hm:Bd X id r)(ho:PE X o to)
  (hbase:⇑(attributeBase o name X.env (eval o X.env)=eval o X.env)) (hline:⇑((apos.endLine==cpos.line)=true)):PE X (.Call (.Attribute o name apos) [] [] cpos) (qb X.K T r to):=by intro Py s σ H Q I h;refine wpAny_Call_method0_late hbase hline (aN (ho Py s σ H _ I h) λv s1 ⟨x,H1,I1,r1,ty,q1⟩=>?_);obtain⟨h1,h2⟩:=BU I1 r1 ty;exact⟨T,id,pa,slot,hty,h1,h2,Calls.callWith_builtin rfl (PySem.evalArgs_none (hm Py s1 σ H1 x [] v [] Q I1 r1 .nil q1))⟩
theorem nC (pa:PlainAttrs T)(slot:Slot T name id)(hty:typeOf (.builtin id)=pure (.type "method_descriptor"))(hm:Bd X id r)(ho:PE X o to)(ha:PA X (e::es) t)
  (hbase:⇑(attributeBase o name X.env (eval o X.env)=eval o X.env))
  (hfew:⇑(((backTo cpos (starEach (e::es) X.env)).all (λx=>!x.1)&&(backToKw cpos (keywordEach [] X.env)).all (λx=>x.1.isSome)
   &&decide ((e::es).length+([]:List Keyword).length+(if([]:List Keyword).isEmpty then 0 else 1)<30))=true))
  (hline:⇑((apos.endLine==cpos.line)=true)) (hs:⇑(starEach (e::es) X.env=(false,eval e X.env)::starEach es X.env)) (hplain:⇑((backTo cpos (starEach es X.env)).any (·.1)=false)):
  PE X (.Call (.Attribute o name apos) (e::es) [] cpos) (Fi X.K T r to t):=by intro Py s σ H Q I h;refine wpAny_Call_method_late hbase hfew hline rfl (aN (ho Py s σ H _ I h) λv s1 ⟨x,H1,I1,r1,ty,q1⟩=>?_);obtain⟨h1,h2⟩:=BU I1 r1 ty;nomatch T,id,pa,slot,hty,h1,h2;have hA:=ha cpos Py s1 σ H1 _ I1 q1;rw[hs]at hA ⊢;refine Calls.callWith_builtin (by show(false ||(backTo cpos (starEach es X.env)).any (·.1))=false;rw[hplain]<;>rfl) (Calls.evalArgs_plain ?_);exact aN hA λus s2 ⟨vs,H2,I2,r2,q2⟩=>hm Py s2 σ H2 x vs v us Q I2 r1 r2 q2
/- xs.append(e),list.index on a module's tuple .. are Bd facts of 06m -/
end
def u7 (X:Cx)(id:String)(r:V->QV->Hp->VK->Prop):Prop:=
 ∀(Py:QX) (s:Shared) (σ:St) (H:Hp) (x:V) (xs:QV) (v:Value) (us:List Value) (Q:VK),am X Py σ H s->aC x v->ax xs us->r x xs H Q->
  wpAny (model X.prog X.w) X.A (call (.builtin id) (v::us)) (EP X Py σ Q) X.xe s
theorem ax.one(h:ax [x] us):∃ u,us=[u]/\aC x u:=by
 cases h with|cons r t=>cases t;exact⟨_,rfl,r⟩
theorem ax.two(h:ax [x,y] us):∃ u v,us=[u,v]/\aC x u/\aC y v:=by
 cases h with|cons r t=>
  cases t with|cons q t=>cases t;exact⟨_,_,rfl,r,q⟩
theorem ax.zero:∀{us:List Value},ax [] us->us=[]
 |_,.nil=>rfl
theorem ax.dropLast(h:ax xs us):ax xs.dropLast us.dropLast:=by
 induction h with
 |nil=>exact .nil
 |cons r t ih=>
  cases t with
  |nil=>exact .nil
  |cons q t'=>exact .cons r ih
theorem ax.eraseIdx:∀{xs:QV}{us:List Value}(i:Nat),ax xs us->ax (xs.eraseIdx i) (us.eraseIdx i)
 |_,_,_,.nil=>.nil|_,_,0,.cons _ t=>t|_,_,i+1,.cons r t=>.cons r (ax.eraseIdx i t)
theorem ax.rep(h:ax xs us):∀ k:Nat,ax (List.replicate k xs).flatten (List.replicate k us).flatten
 |0=>.nil|k+1=>by rw[Oy,Oy,List.flatten_cons,List.flatten_cons];exact ax.append h (ax.rep h k)
theorem K2(l:List α):l.eraseIdx (l.length - 1)=l.dropLast:=by
 induction l with
 |nil=>rfl
 |cons a r ih=>
  cases r with
  |nil=>rfl
  |cons b r=>
   have e:(a::b::r).length - 1=((b::r).length - 1)+1:=by have h1:(a::b::r).length=r.length+2:=rfl;have h2:(b::r).length=r.length+1:=rfl;omega
   rw[e,List.eraseIdx_cons_succ,ih];all_goals rfl
theorem DU:∀(l:List α) (i:Nat),(l.eraseIdx i).length<=l.length
 |[],_=>NV _|_::_,0=>Nat.le_succ _|_::r,i+1=>O8 (DU r i)
theorem DT (its:List Value):∀(k:Nat) (acc:List Value),
  List.foldl (λx1 x2=>x1++x2) acc.toArray (List.replicate k its.toArray)=(acc++(List.replicate k its).flatten).toArray
 |0,acc=>by simp|k+1,acc=>by
  have e:acc.toArray++its.toArray=(acc++its).toArray:=by simp
  have e2:(acc++its)++(List.replicate k its).flatten=acc++(List.replicate (k+1) its).flatten:=by rw[Oy,List.flatten_cons,Ow]
  rw[<-e2,<-DT its k (acc++its),<-e,Oy,List.foldl_cons]
variable {t':Nat}{b:Addr}
section
variable {l:Addr}{zs:QV}
theorem am.lset{f:Array Value->Array Value}(I:am X Py σ H s)(hH:H l=some (.lst xs))(e:s.heap.get? l=some {cls:=.type "list",data:=.seq its.toArray n})(hf:f its.toArray=its'.toArray)(hv:ax ys its')(hz:ys.length<=sizeLine):
  am X Py σ (upd H l (.lst ys)) {s with heap:=s.heap.update l (Obj.mapSeq f),toks:=t'}:=by have q:=PySem.IsL.update e f;rw[hf]at q;refine I.write (x:=l) (e:=l) (by rw[hH];exact trivial) (.inl rfl) (λb' u hb hu=>(Po s.heap (Obj.mapSeq f) (Ne.symm hb)).trans hu) ⟨_,q⟩ ?_;exact⟨hz,its',_,hv,q⟩
theorem am.lnew(I:am X Py σ H s)(hv:ax ys its)(hz:ys.length<=sizeLine):
  am X Py σ (upd H s.heap.objs.size (.lst ys)) {s with heap:=s.heap.push {cls:=.type "list",data:=.seq its.toArray},toks:=t'}:=
 I.laid (λ_ _ q=>Pd _ q) (NV _) ⟨hz,its,0,hv,Ph _ rfl⟩
theorem am.fresh (I:am X Py σ H s):H s.heap.objs.size=none:=I.hok.fresh (NV _)
theorem am.lstM (I:am X Py σ H s)(hH:H l=some (.lst xs)):xs.length<=sizeLine/\∃(its:List Value) (n:Nat),ax xs its/\xs.length=its.length/\s.heap.get? l=some {cls:=.type "list",data:=.seq its.toArray n}:=by obtain⟨z,its,n,r,e⟩:=I.hok l _ hH;exact⟨z,its,n,r,r.length,e⟩
theorem Dq(h:n<=sizeLine):Builtin.List.listTooLong n=false:=by unfold Builtin.List.listTooLong;exact N7 (by omega)
end
section
def CS:V->QV->Hp->VK->Prop:=λx vs H Q=>∃ l xs y,x=.ref l/\vs=[y]/\H l=some (.lst xs)/\xs.length<sizeLine/\Q .non (upd H l (.lst (xs++[y])))
theorem ux:u7 X "list.append" CS:=by intro Py s σ H x vs v us Q I rx rv h;obtain⟨l,xs,y,rfl,rfl,hH,hz,q⟩:=h;cases rx;obtain⟨u,rfl,ru⟩:=rv.one;obtain⟨z,its,n,r,hl,e⟩:=I.lstM hH;refine call_meets F.slot_list_append ⟨_,e,rfl⟩ F.entry_list_append (F.args_list_append_2 _ _) (PySem.list_append l its.toArray n u (by rw[bM];omega)) ⟨e,?_⟩;refine⟨.non,_,I.lset (its':=its++[u]) hH e (by simp) (r.append (.cons ru .nil)) ?_,rfl,q⟩;rw[N4,List.length_singleton];omega
def Il:V->QV->Hp->VK->Prop:=λx vs H Q=>∃ l b xs zs,x=.ref l/\vs=[.ref b]/\H l=some (.lst xs)/\H b=some (.lst zs)/\xs.length+zs.length<=sizeLine/\Q .non (upd H l (.lst (xs++zs)))
theorem DS:u7 X "list.extend" Il:=by
 intro Py s σ H x vs v us Q I rx rv h;obtain⟨l,b,xs,zs,rfl,rfl,hH,hB,hz,q⟩:=h;cases rx;obtain⟨u,rfl,ru⟩:=rv.one;cases ru;obtain⟨z,its,n,r,hl,e⟩:=I.lstM hH;obtain⟨z2,its2,n2,r2,hl2,e2⟩:=I.lstM hB;have hsz:its.toArray.size+its2.toArray.size<=sizeLine:=by rw[bM,bM];omega
 have hlong:¬ (!its.toArray.isEmpty&&Builtin.List.listTooLong (its.toArray.size+its2.toArray.size))=true:=by rw[Dq hsz,OW];exact N5
 refine call_meets F.slot_list_extend ⟨_,e,rfl⟩ F.entry_list_extend (F.args_list_extend_2 _ _)
  (AutoSeq1.list_extend_list_list_0 l its.toArray n b its2.toArray n2 hlong (by rw[bM];omega) (by omega)) ⟨e,e2,?_⟩
 refine⟨.non,_,I.lset (its':=its++its2) hH e (by simp) (r.append r2) ?_,rfl,q⟩;rw[N4];omega
def qm:V->QV->Hp->VK->Prop:=λx vs H Q=>∃ l xs y,x=.ref l/\vs=[]/\H l=some (.lst xs)/\xs[xs.length - 1]?=some y/\Q y (upd H l (.lst xs.dropLast))
theorem BR:u7 X "list.pop" qm:=by
 intro Py s σ H x vs v us Q I rx rv h;obtain⟨l,xs,y,rfl,rfl,hH,hy,q⟩:=h;cases rx;have hus:=rv.zero;subst hus;obtain⟨z,its,n,r,hl,e⟩:=I.lstM hH;obtain⟨u,hu,ru⟩:=r.get hy;have hy':its.toArray[its.toArray.size - 1]?=some u:=by show its.toArray[its.length - 1]?=some u;rw[<-Array.getElem?_toList,<-hl];exact hu
 refine call_meets F.slot_list_pop ⟨_,e,rfl⟩ F.entry_list_pop (F.args_list_pop_1 _) (MeetsSeq.list_pop_last l its.toArray n u hy' (by rw[bM];omega)) ⟨e,?_⟩;refine⟨y,_,I.lset (its':=its.dropLast) hH e ?_ r.dropLast ?_,ru,q⟩
 ·show its.toArray.eraseIdxIfInBounds (its.toArray.size - 1)=its.dropLast.toArray;rw[bM,List.eraseIdxIfInBounds_toArray,K2]
 ·rw[List.length_dropLast];omega
def BQ:V->QV->Hp->VK->Prop:=λx vs H Q=>∃ l xs i k y,x=.ref l/\vs=[.int i]/\H l=some (.lst xs)/\-(2 ^ 63)<=i/\i<2 ^ 63/\seqIndex? i xs.length=some k/\xs[k]?=some y/\Q y (upd H l (.lst (xs.eraseIdx k)))
theorem IN:u7 X "list.pop" BQ:=by
 intro Py s σ H x vs v us Q I rx rv h;obtain⟨l,xs,i,k,y,rfl,rfl,hH,h1,h2,hk,hy,q⟩:=h;cases rx;obtain⟨u,rfl,ru⟩:=rv.one;obtain⟨t,rfl⟩:=ru;obtain⟨z,its,n,r,hl,e⟩:=I.lstM hH;obtain⟨w,hw,rw'⟩:=r.get hy;refine call_meets F.slot_list_pop ⟨_,e,rfl⟩ F.entry_list_pop (F.args_list_pop_2 _ _)
  (MeetsSeq.list_pop_at l its.toArray n i t k w (fitsIndex_both h1 h2) (by rw[bM,<-hl];exact hk) (by rw[<-Array.getElem?_toList];exact hw) (by rw[bM];omega)) ⟨e,?_⟩
 refine⟨y,_,I.lset (its':=its.eraseIdx k) hH e ?_ (r.eraseIdx k) ?_,rw',q⟩
 ·show its.toArray.eraseIdxIfInBounds k=(its.eraseIdx k).toArray;rw[List.eraseIdxIfInBounds_toArray]
 ·have:=DU xs k;omega
def qv:R2:=λx y H Q=>∃ l b xs zs,x=.ref l/\y=.ref b/\H l=some (.lst xs)/\H b=some (.lst zs)/\xs.length+zs.length<=sizeLine/\∀ p,H p=none->Q (.ref p) (upd H p (.lst (xs++zs)))
theorem FZ:bV X (binaryOp .Add) qv:=by
 intro Py s σ H x y v u Q I rx ry h;obtain⟨l,b,xs,zs,rfl,rfl,hH,hB,hz,q⟩:=h;cases rx;cases ry;obtain⟨z,its,n,r,hl,e⟩:=I.lstM hH;obtain⟨z2,its2,n2,r2,hl2,e2⟩:=I.lstM hB;refine PySem.P.add_list e e2 ?_ (by rw[bM,bM];omega);have ea:its.toArray++its2.toArray=(its++its2).toArray:=by simp
 rw[ea];exact⟨.ref _,_,I.lnew (t':=s.toks) (r.append r2) (by rw[N4];omega),rfl,q _ I.fresh⟩
def ql:R2:=λx y H Q=>∃ l k xs,x=.ref l/\y=.int k/\H l=some (.lst xs)/\-(2 ^ 63)<=k/\k<2 ^ 63/\xs.length*k.toNat<=sizeLine/\
 ∀ p,H p=none->Q (.ref p) (upd H p (.lst (List.replicate k.toNat xs).flatten))
theorem Ik(xs:List α)(k:Nat):(List.replicate k xs).flatten.length=k*xs.length:=by
 induction k with
 |zero=>simp
 |succ k ih=>rw[Oy,List.flatten_cons,N4,ih,Nat.succ_mul,Nat.add_comm]
theorem FY:bV X (binaryOp .Mult) ql:=by
 intro Py s σ H x y v u Q I rx ry h;obtain⟨l,k,xs,rfl,rfl,hH,h1,h2,hz,q⟩:=h;cases rx;obtain⟨t,rfl⟩:=ry;obtain⟨z,its,n,r,hl,e⟩:=I.lstM hH;have hlen:its.toArray.size*k.toNat<=sizeLine:=by rw[bM,<-hl];exact hz
 have hcap:¬ its.toArray.size*k.toNat>(2 ^ 63 - 1)/8:=by
  have:(sizeLine:Nat)<=(2 ^ 63 - 1)/8:=by decide
  omega
 have hfit:¬ (!Builtin.List.listFitsIndex k)=true:=by rw[fitsIndex_both h1 h2];exact N5
 have hlong:¬ Builtin.List.listTooLong (its.toArray.size*k.toNat)=true:=by rw[Dq hlen];exact N5
 have hnew:List.foldl (λx1 x2=>x1++x2) #[] (List.replicate (if its.toArray.isEmpty=true then 0 else k.toNat) its.toArray)=(List.replicate k.toNat its).flatten.toArray:=by
  have f0:∀ m:Nat,List.foldl (λx1 x2=>x1++x2) #[] (List.replicate m its.toArray)=(List.replicate m its).flatten.toArray:=λm=>by have:=DT its m [];rw[List.nil_append]at this;exact this
  rw[f0];cases its with
  |nil=>simp
  |cons a r'=>rw[NR (by simp)]
 refine wpAny_binaryOp_repeat_ref (T:="list") (U:="int") (by decide) ⟨_,e,rfl⟩ (λs'=>typeIs_int s' k t) noFill_list_mul F.fills_int_mul F.slot_int_rmul repeat_list F.slot_int_index.lookup
  (call_meets F.slot_int_rmul (typeIs_int s k t) F.entry_int_rmul (F.args_int_rmul_2 _ _) (int___rmul___int_list k t l its.toArray n)
   ⟨e,rfl,⟨_,e,rfl⟩,call_meets F.slot_list_mul ⟨_,e,rfl⟩ F.entry_list_mul (F.args_list_mul_2 _ _) (AutoListH.list___mul___list_int_3 l its.toArray n k t hfit hcap hlong) ⟨e,?_⟩⟩)
 rw[hnew];exact⟨.ref _,_,I.lnew (t':=s.toks) (r.rep k.toNat) (by rw[Ik,Nat.mul_comm];exact hz),rfl,q _ I.fresh⟩
end
variable {w:World}{prog:Program}{E:Value->Shared->Prop}
section
set_option maxRecDepth 100000 in
end
section
end
variable {o:Option V}
section
variable {κ:Type} [DecidableEq κ]
def aI (kvs:List (κ×V))(k:κ):Option V:=(kvs.find? λkv=>decide (kv.1=k)).map (·.2)
def bi (kvs:List (κ×V))(k:κ)(v:V):List (κ×V):=
 if(kvs.any λkv=>decide (kv.1=k))=true then kvs.map (λkv=>if kv.1=k then(kv.1,v)else kv)else kvs++[(k,v)]
def fH (kvs:List (κ×V))(k:κ):List (κ×V):=kvs.filter λkv=>decide (kv.1≠k)
theorem im {p:κ×V}{r:List (κ×V)}{k:κ}(e:p.1=k):aI (p::r) k=some p.2:=by simp[aI,List.find?_cons,e]
theorem hV {p:κ×V}{r:List (κ×V)}{k:κ}(e:¬ p.1=k):aI (p::r) k=aI r k:=by simp[aI,List.find?_cons,e]
theorem lF (k:κ):∀ kvs:List (κ×V),(kvs.any λkv=>decide (kv.1=k))=(aI kvs k).isSome
 |[]=>rfl|p::r=>by
  rw[OC];by_cases e:p.1=k
  ·simp only[im e,N0 e,Bool.true_or,Option.isSome_some]
  ·rw[hV e,N7 e,Bool.false_or];exact lF k r
theorem Dp (k j:κ)(y:V):∀ kvs:List (κ×V),aI (kvs.map λkv=>if kv.1=k then(kv.1,y)else kv) j=(aI kvs j).map λx=>if j=k then y else x
 |[]=>rfl|p::r=>by
  have ih:=Dp k j y r;rw[bw];by_cases h:p.1=k
  ·rw[NU h];by_cases e:p.1=j
   ·rw[im (p:=(p.1,y)) e,im e,Option.map_some,NU (e.symm.trans h)]
   ·rw[hV (p:=(p.1,y)) e,hV e,ih]
  ·rw[NR h];by_cases e:p.1=j
   ·rw[im (p:=p) e,im e,Option.map_some,NR (λz=>h (e.trans z))]
   ·rw[hV (p:=p) e,hV e,ih]
theorem DR (k j:κ)(y:V):∀ kvs:List (κ×V),aI kvs k=none->aI (kvs++[(k,y)]) j=if j=k then some y else aI kvs j
 |[],_=>by
  by_cases e:k=j
  ·rw[NU e.symm];exact im (p:=(k,y)) e
  ·rw[NR (λz=>e z.symm)];exact hV (p:=(k,y)) e
 |p::r,hn=>by
  rw[List.cons_append];have hk:¬ p.1=k:=λz=>by rw[im z]at hn;cases hn
  rw[hV hk]at hn;have ih:=DR k j y r hn;by_cases e:p.1=j
  ·rw[im e,im e,NR (λz=>hk (e.trans z))]
  ·rw[hV e,hV e,ih]
theorem ol (kvs:List (κ×V))(k j:κ)(y:V):aI (bi kvs k y) j=if j=k then some y else aI kvs j:=by
 unfold bi;by_cases a:(kvs.any λkv=>decide (kv.1=k))=true
 ·rw[NU a,Dp];rw[lF]at a;by_cases e:j=k
  ·obtain⟨x,hx⟩:=Option.isSome_iff_exists.mp a;rw[NU e,e,hx,Option.map_some,NU rfl]
  ·rw[NR e];cases aI kvs j with
   |none=>rfl
   |some x=>rw[Option.map_some,NR e]
 ·rw[NR a];refine DR k j y kvs ?_;rw[lF]at a;cases q:aI kvs k with
  |none=>rfl
  |some x=>rw[q]at a;exact(a rfl).elim
theorem x8 (kvs:List (κ×V))(k:κ)(v:V):(bi kvs k v).length<=kvs.length+1:=by
 unfold bi;split
 ·rw[aV];omega
 ·rw[N4,N_,List.length_nil];omega
theorem IM {kvs:List (κ×V)}{k:κ}(v:V)(h:aI kvs k=none):bi kvs k v=kvs++[(k,v)]:=by unfold bi;rw[lF,h];exact NR (by decide)
variable {u:Option Value}
theorem cE.isSome_eq(r:cE o u):o.isSome=u.isSome:=by
 cases o with
 |none=>cases u with
  |none=>rfl
  |some _=>exact(show False from r).elim
 |some _=>cases u with
  |none=>exact(show False from r).elim
  |some _=>rfl
theorem cE.getD{d:V}{d':Value}(r:cE o u)(rd:aC d d'):aC (o.getD d) (u.getD d'):=by
 cases o with
 |none=>cases u with
  |none=>exact rd
  |some _=>exact(show False from r).elim
 |some _=>cases u with
  |none=>exact(show False from r).elim
  |some _=>exact r
theorem KV.val {kvs:List (κ×V)}{vs:List (κ×Value)}(r:KV kvs vs)(k:κ):cE (aI kvs k) (valueAt vs k):=by
 unfold KV at r;induction r with
 |nil=>exact OH
 |@cons p q ps qs h t ih=>
  obtain⟨h1,h2⟩:=h;by_cases e:p.1=k
  ·have e':q.1=k:=h1.symm.trans e;have b:valueAt (q::qs) k=some q.2:=by simp[valueAt,List.find?_cons,e']
   rw[im e,b];exact h2
  ·have e':¬ q.1=k:=λz=>e (h1.trans z);have b:valueAt (q::qs) k=valueAt qs k:=by simp[valueAt,List.find?_cons,e']
   rw[hV e,b];exact ih
theorem KV.any {kvs:List (κ×V)}{vs:List (κ×Value)}(r:KV kvs vs)(k:κ):(kvs.any λkv=>decide (kv.1=k))=vs.any λkv=>decide (kv.1=k):=by
 unfold KV at r;induction r with
 |nil=>rfl
 |cons h t ih=>rw[OC,OC,ih,h.1]
theorem KV.repl{kvs:List (κ×V)}{vs:List (κ×Value)}(r:KV kvs vs)(k:κ){u:Value}(ry:aC y u):
  KV (kvs.map λkv=>if kv.1=k then(kv.1,y)else kv) (vs.map λkv=>if kv.1=k then(kv.1,u)else kv):=by
 unfold KV at r ⊢;induction r with
 |nil=>exact .nil
 |@cons p q ps qs h t ih=>
  rw[bw,bw];refine .cons ?_ ih;obtain⟨h1,h2⟩:=h;by_cases e:p.1=k
  ·rw[NU e,NU (h1.symm.trans e)];exact⟨h1,ry⟩
  ·rw[NR e,NR (λz=>e (h1.trans z))];exact⟨h1,h2⟩
theorem KV.put{kvs:List (κ×V)}{vs:List (κ×Value)}(r:KV kvs vs)(k:κ){u:Value}(ry:aC y u):KV (bi kvs k y) (stored vs k u):=by
 unfold bi stored;rw[r.any k];by_cases e:(vs.any λkv=>decide (kv.1=k))=true
 ·rw[NU e,NU e];exact r.repl k ry
 ·rw[NR e,NR e];exact Paired.snoc r ⟨rfl,ry⟩
theorem KV.drop {kvs:List (κ×V)}{vs:List (κ×Value)}(r:KV kvs vs)(k:κ):KV (fH kvs k) (without vs k):=by
 unfold KV at r ⊢;unfold fH without;induction r with
 |nil=>exact .nil
 |@cons p q ps qs h t ih=>
  obtain⟨h1,h2⟩:=h;rw[OQ,OQ];by_cases e:p.1=k
  ·have a:¬ decide (p.1≠k)=true:=by simp[e]
   have b:¬ decide (q.1≠k)=true:=by simp[h1.symm.trans e]
   rw[NR a,NR b];exact ih
  ·have e':¬ q.1=k:=λz=>e (h1.trans z);have a:decide (p.1≠k)=true:=by simp[e]
   have b:decide (q.1≠k)=true:=by simp[e']
   rw[NU a,NU b];exact .cons ⟨h1,h2⟩ ih
theorem KV.keys {kvs:List (κ×V)}{vs:List (κ×Value)}(r:KV kvs vs):kvs.map (·.1)=vs.map (·.1):=by
 unfold KV at r;induction r with
 |nil=>rfl
 |cons h t ih=>rw[bw,bw,ih,h.1]
theorem KV.length {kvs:List (κ×V)}{vs:List (κ×Value)}(r:KV kvs vs):kvs.length=vs.length:=Paired.length r
theorem Do (kvs:List (κ×V))(k:κ):(fH kvs k).length<=kvs.length:=List.length_filter_le _ _
end
variable {P:Program}
theorem jy{k:bp}(r:aC (kV k) u):(eM P w).is k u=true:=by
 cases k with
 |inl i=>obtain⟨t,e⟩:=(show ∃ t,u=Value.int i t from r);subst e;exact LT P w i t
 |inr x=>obtain⟨t,e⟩:=(show ∃ t,u=Value.str x t from r);subst e;exact LS P w x t
theorem DQ:∀{ks:List bp}{us:List Value},ax (ks.map kV) us->ItemsAre (eM P w) ks us
 |[],_,r=>by rw[Oh]at r;cases r;exact .nil|k::ks,_,r=>by
  rw[bw]at r;cases r with|cons h t=>exact .cons (jy h) (DQ t)
abbrev KT (H:Hp):List (List bp×V)->List (List bp×Addr×Value)->Prop:=Paired λp q=>p.1=q.1/\H q.2.1=some (.tup (p.1.map kV))/\aC p.2 q.2.2
variable {kvs:List (List bp×V)}
theorem KT.val{xs:List (List bp×Addr×Value)}(r:KT H kvs xs)(k:List bp):cE (aI kvs k) ((atKey xs k).map (·.2)):=by
 induction r with
 |nil=>exact OH
 |@cons p q ps qs h t ih=>
  obtain⟨h1,_,h2⟩:=h;by_cases e:p.1=k
  ·have e':q.1=k:=h1.symm.trans e;have b:atKey (q::qs) k=some q.2:=by simp[atKey,List.find?_cons,e']
   rw[im e,b];exact h2
  ·have e':¬ q.1=k:=λz=>e (h1.trans z);have b:atKey (q::qs) k=atKey qs k:=by simp[atKey,List.find?_cons,e']
   rw[hV e,b];exact ih
theorem KT.repl{xs:List (List bp×Addr×Value)}(r:KT H kvs xs)(k:List bp)(ry:aC y u):
  KT H (kvs.map λkv=>if kv.1=k then(kv.1,y)else kv) (xs.map (putAt k u)):=by
 induction r with
 |nil=>exact .nil
 |@cons p q ps qs h t ih=>
  rw[bw,bw];refine .cons ?_ ih;obtain⟨h1,h2,h3⟩:=h;unfold putAt;by_cases e:p.1=k
  ·rw[NU e,NU (h1.symm.trans e)];exact⟨h1,h2,ry⟩
  ·rw[NR e,NR (λz=>e (h1.trans z))];exact⟨h1,h2,h3⟩
theorem KT.put{xs:List (List bp×Addr×Value)}(r:KT H kvs xs)(k:List bp)(hb:H b=some (.tup (k.map kV)))(ry:aC y u):
  KT H (bi kvs k y) (storedH xs k b u):=by
 have e:(kvs.any λkv=>decide (kv.1=k))=(atKey xs k).isSome:=by rw[lF,(r.val k).isSome_eq,Option.isSome_map]
 unfold bi storedH;rw[e];by_cases q:(atKey xs k).isSome=true
 ·rw[NU q,NU q];exact r.repl k ry
 ·rw[NR q,NR q];exact Paired.snoc r ⟨rfl,hb,ry⟩
variable {H':Hp}
theorem KT.keeps{xs:List (List bp×Addr×Value)}(r:KT H kvs xs)(ht:∀ b ys,H b=some (.tup ys)->H' b=some (.tup ys)):KT H' kvs xs:=
 Paired.mapP r λ_ _ z=>⟨z.1,ht _ _ z.2.1,z.2.2⟩
variable {kvs:List (bp×V)}{a:Addr}
section
variable {h:Heap}
theorem Bv {u:HO}(ok:dz P w H h)(e:Rd H a u):c_ P w H h a u:=e.ok ok
theorem lX(ok:dz P w H h)(e:Rd H a (.dK kvs)):kvs.length<=sizeLine/\(a==sysModules)=false/\∃ vs,KV kvs vs/\h.DictOf (eM P w) a vs:=
 show c_ P w H h a (.dK kvs)from Bv ok e
theorem lW(ok:dz P w H h)(e:H a=some (.dK kvs)):kvs.length<=sizeLine/\(a==sysModules)=false/\∃ vs,KV kvs vs/\h.DictOf (eM P w) a vs:=lX ok (.inl e)
theorem nP {ks:List bp}(ok:dz P w H h)(e:H a=some (.tup (ks.map kV))):(tupleKind (eM P w)).is h ks a:=by obtain⟨_,its,r,o,h1,h2,n,h3⟩:=(show c_ P w H h a (.tup (ks.map kV))from ok a _ e);exact⟨o,its.toArray,n,h1,h2,h3,by simpa using DQ r⟩
variable {kvs:List (List bp×V)}
theorem lV(ok:dz P w H h)(e:Rd H a (.dT kvs)):kvs.length<=sizeLine/\(a==sysModules)=false/\
  ∃ xs,KT H kvs xs/\h.DictOfH (tupleKind (eM P w)) a xs:=by
 obtain⟨z,y,xs,r,o,es,ep,h1,h2,h3,h4,h5⟩:=(show c_ P w H h a (.dT kvs)from Bv ok e);refine⟨z,y,xs,r,o,es,ep,h1,h2,h3,h4,λx hx=>?_,h5⟩;have all:∀{l:List (List bp×V)}{m:List (List bp×Addr×Value)},KT H l m->∀ x∈m,(tupleKind (eM P w)).is h x.1 x.2.1:=by
  intro l m q;induction q with
  |nil=>intro x hx;exact nomatch hx
  |@cons p q ps qs hq t ih=>
   intro x hx;rcases NP.mp hx with e|hx
   ·subst e;exact nP ok (by rw[<-hq.1];exact hq.2.1)
   ·exact ih x hx
 exact all r x hx
theorem rY(ok:dz P w H h)(e:H a=some (.dT kvs)):kvs.length<=sizeLine/\(a==sysModules)=false/\
  ∃ xs,KT H kvs xs/\h.DictOfH (tupleKind (eM P w)) a xs:=lV ok (.inl e)
end
def bj (H:Hp)(a:Addr)(y:V)(r:Option V):Prop:=
 (∃ kvs k,Rd H a (.dK kvs)/\y=kV k/\r=aI kvs k)\/∃ kvs k b,Rd H a (.dT kvs)/\y=.ref b/\H b=some (.tup (k.map kV))/\r=aI kvs k
def fE (H:Hp)(a:Addr)(y v:V)(H':Hp):Prop:=
 (∃ kvs k,H a=some (.dK kvs)/\y=kV k/\kvs.length<sizeLine/\H'=upd H a (.dK (bi kvs k v)))\/
 ∃ kvs k b,H a=some (.dT kvs)/\y=.ref b/\H b=some (.tup (k.map kV))/\kvs.length<sizeLine/\H'=upd H a (.dT (bi kvs k v))
theorem bj.k{k:bp}(e:H a=some (.dK kvs)):bj H a (kV k) (aI kvs k):=.inl ⟨kvs,k,.inl e,rfl,rfl⟩
theorem fE.k{k:bp}{v:V}(e:H a=some (.dK kvs))(hl:kvs.length<sizeLine):fE H a (kV k) v (upd H a (.dK (bi kvs k v))):=.inl ⟨kvs,k,e,rfl,hl,rfl⟩
variable {r:Value}{Q:Value->Shared->Prop}{h':Heap}
section
variable {v:V}
theorem am.big (I:am X Py σ H s):sysModules<s.heap.objs.size:=by have h:mainGlobals<s.heap.objs.size:=(I.mod.glob.keeps I.bk).lt;exact Nat.lt_trans (by decide) h
theorem Kv(hu:A.units+1<cLine)(I:am X Py σ H s)(g:bj H a y (some v))(ry:aC y u)(h:∀ w' s',am X Py σ H s'->aC v w'->Q w' s'):
  wpAny (model X.prog X.w) A (getItem (.ref a) u) Q E s:=by
 rcases g with⟨kvs,k,e,ey,l⟩|⟨kvs,k,b,e,ey,eb,l⟩
 ·subst ey;obtain⟨z,hd,vs,rel,dd⟩:=lX I.hok e;obtain⟨w',hw,rw'⟩:=cE.some_of (v:=v) (o:=valueAt vs k) (by rw[l];exact rel.val k);exact wpAny_getItem_of (jy ry) dd.mapOf hw (h w' _ (I.tok _) rw')
 ·subst ey;cases(show u=Value.ref b from ry);obtain⟨z,hd,xs,rel,dd⟩:=lV I.hok e;obtain⟨w',hw,rw'⟩:=cE.some_of (v:=v) (o:=(atKey xs k).map (·.2)) (by rw[l];exact rel.val k);obtain⟨p,hp,hp2⟩:=ce.mp hw;refine wpAny_getItem_heap (Pt hu) (nP I.hok eb) dd hp ?_;rw[hp2];exact h w' _ (I.tok _) rw'
theorem zS(hu:A.units+1<cLine)(I:am X Py σ H s)(g:bj H a y o)(ry:aC y u)(h:∀ s',am X Py σ H s'->Q (.bool o.isSome) s'):
  wpAny (model X.prog X.w) A (compareOp .In u (.ref a)) Q E s:=by
 rcases g with⟨kvs,k,e,ey,l⟩|⟨kvs,k,b,e,ey,eb,l⟩
 ·subst ey;obtain⟨z,hd,vs,rel,dd⟩:=lX I.hok e;refine wpAny_in_of (jy ry) hd dd.mapOf ?_;rw[<-(rel.val k).isSome_eq,<-l];exact h _ (I.tok _)
 ·subst ey;cases(show u=Value.ref b from ry);obtain⟨z,hd,xs,rel,dd⟩:=lV I.hok e;refine wpAny_in_heap (Pt hu) (nP I.hok eb) hd dd ?_;have q:=(rel.val k).isSome_eq;rw[Option.isSome_map]at q;rw[<-q,<-l];exact h _ (I.tok _)
theorem Hn(hu:A.units+1<cLine)(I:am X Py σ H s)(g:bj H a y o)(ry:aC y u)(h:∀ s',am X Py σ H s'->Q (.bool (!o.isSome)) s'):
  wpAny (model X.prog X.w) A (compareOp .NotIn u (.ref a)) Q E s:=by
 rcases g with⟨kvs,k,e,ey,l⟩|⟨kvs,k,b,e,ey,eb,l⟩
 ·subst ey;obtain⟨z,hd,vs,rel,dd⟩:=lX I.hok e;refine wpAny_notIn_of (jy ry) hd dd.mapOf ?_;rw[<-(rel.val k).isSome_eq,<-l];exact h _ (I.tok _)
 ·subst ey;cases(show u=Value.ref b from ry);obtain⟨z,hd,xs,rel,dd⟩:=lV I.hok e;refine wpAny_notIn_heap (Pt hu) (nP I.hok eb) hd dd ?_;have q:=(rel.val k).isSome_eq;rw[Option.isSome_map]at q;rw[<-q,<-l];exact h _ (I.tok _)
theorem pp{ob:HO}(I:am X Py σ H s)(mu:sJ (H a))(hs:Heap.SameBut a s.heap h')(he:∃ q,h'.get? a=some q)(new:c_ X.prog X.w (upd H a ob) h' a ob):
  am X Py σ (upd H a ob) {s with heap:=h',toks:=t'}:=
 I.write (x:=a) (e:=a) mu (.inl rfl) (λb q hb z=>(hs.2 b hb).trans z) he new
theorem tE{vs:List (bp×Value)}(z:kvs.length<=sizeLine)(hd:(a==sysModules)=false)(rel:KV kvs vs)(dd:h'.DictOf (eM P w) a vs):
  c_ P w H' h' a (.dK kvs):=⟨z,hd,vs,rel,dd⟩
theorem Ku{Q:Unit->Shared->Prop}(hu:A.units+1<cLine)(I:am X Py σ H s)(g:fE H a y v H')(ry:aC y u)(rv:aC v r)(h:∀ s',am X Py σ H' s'->Q () s'):
  wpAny (model X.prog X.w) A (setItem (.ref a) u r) Q E s:=by
 rcases g with⟨kvs,k,e,ey,l,eH⟩|⟨kvs,k,b,e,ey,eb,l,eH⟩
 ·subst ey eH;obtain⟨z,hd,vs,rel,dd⟩:=lW I.hok e;have hz:vs.length<=sizeLine:=by rw[<-rel.length];exact z
  have hl:(bi kvs k v).length<=sizeLine:=by have:=x8 kvs k v;omega
  refine wpAny_setItem_pairs (hsz:=hz) (jy ry) dd λh' dd' hs=>h _ ?_;have he:∃ q,h'.get? a=some q:=let ⟨q,_,_,hq,_⟩:=dd';⟨q,hq⟩;exact pp I (by rw[e];exact OH) hs he (tE hl hd (rel.put k rv) dd')
 ·subst ey eH;cases(show u=Value.ref b from ry);obtain⟨z,hd,xs,rel,dd⟩:=rY I.hok e;have hz:xs.length<=sizeLine:=by rw[<-Paired.length rel];exact z
  have hl:(bi kvs k v).length<=sizeLine:=by have:=x8 kvs k v;omega
  refine wpAny_setItem_heap (hsz:=hz) (Pt hu) (nP I.hok eb) dd λh' dd' hs=>h _ ?_;obtain⟨q,es,ep,hq,h2,h3,h4,_,h5⟩:=dd';refine pp I (by rw[e];exact OH) hs ⟨q,hq⟩ ⟨hl,hd,_,(rel.put k eb rv).keeps λc ys ec=>?_,q,es,ep,hq,h2,h3,h4,h5⟩;rw[aE (tf ec e (λz=>nomatch z))];exact ec
end
section
variable {k:bp}
theorem NM {Q:Unit->Shared->Prop}(I:am X Py σ H s)(e:H a=some (.dK kvs))(ry:aC (kV k) u)(l:(aI kvs k).isSome=true)(h:∀ s',am X Py σ (upd H a (.dK (fH kvs k))) s'->Q () s'):
  wpAny (model X.prog X.w) A (delItem (.ref a) u) Q E s:=by
 obtain⟨z,hd,vs,rel,dd⟩:=lW I.hok e;refine wpAny_delItem_slot dd.typeIs (by decide) PySem.F.slot_dict_delitem
  (call_meetsIn PySem.F.slot_dict_delitem dd.typeIs PySem.F.entry_dict_delitem (PySem.F.args_dict_delitem_2 _ _) (meets_dict_delitem_pairs (eM X.prog X.w) a (jy ry)) ⟨vs,dd,by rw[<-rel.length];exact z,by rw[<-(rel.val k).isSome_eq];exact l,λh' dd' hs=>h _ ?_⟩)
 have he:∃ q,h'.get? a=some q:=let ⟨q,_,_,hq,_⟩:=dd';⟨q,hq⟩;exact pp I (by rw[e];exact OH) hs he (tE (Od (Do kvs k) z) hd (rel.drop k) dd')
theorem rZ{v:V}{more:List Value}(I:am X Py σ H s)(e:H a=some (.dK kvs))(ry:aC (kV k) u)(l:aI kvs k=some v)(hm:more=[]\/∃ x,more=[x])(h:∀ w' s',am X Py σ (upd H a (.dK (fH kvs k))) s'->aC v w'->Q w' s'):wpAny (model X.prog X.w) A (call (.builtin "dict.pop") (.ref a::u::more)) Q E s:=by
 obtain⟨z,hd,vs,rel,dd⟩:=lW I.hok e;obtain⟨w',hw,rw'⟩:=cE.some_of (v:=v) (o:=valueAt vs k) (by rw[<-l];exact rel.val k);have hp:(keyPart u).isSome=true:=by
  cases k with
  |inl i=>obtain⟨t,q⟩:=(show ∃ t,u=Value.int i t from ry);subst q;rfl
  |inr x=>obtain⟨t,q⟩:=(show ∃ t,u=Value.str x t from ry);subst q;rfl
 have ha:argsOk "dict.pop" ⟨.ref a::u::more,[]⟩:=by
  rcases hm with q|⟨x,q⟩
  ·subst q;exact PySem.F.args_dict_pop_2 _ _
  ·subst q;exact PySem.F.args_dict_pop_3 _ _ _
 refine call_meetsIn PySem.F.slot_dict_pop dd.typeIs PySem.F.entry_dict_pop ha (meets_dict_pop_there (eM X.prog X.w) a (jy ry) more hm hp)
  ⟨vs,w',dd,by rw[<-rel.length];exact z,hw,λh' dd' hs=>h w' _ ?_ rw'⟩
 have he:∃ q,h'.get? a=some q:=let ⟨q,_,_,hq,_⟩:=dd';⟨q,hq⟩;exact pp I (by rw[e];exact OH) hs he (tE (Od (Do kvs k) z) hd (rel.drop k) dd')
theorem FX(I:am X Py σ H s)(e:H a=some (.dK kvs))(ry:aC (kV k) u)(l:aI kvs k=none)(h:∀ s',am X Py σ H s'->Q r s'):
  wpAny (model X.prog X.w) A (call (.builtin "dict.pop") [.ref a,u,r]) Q E s:=by
 obtain⟨z,hd,vs,rel,dd⟩:=lW I.hok e;have hn:valueAt vs k=none:=cE.none_of (by rw[<-l];exact rel.val k);have hp:(keyPart u).isSome=true:=by
  cases k with
  |inl i=>obtain⟨t,q⟩:=(show ∃ t,u=Value.int i t from ry);subst q;rfl
  |inr x=>obtain⟨t,q⟩:=(show ∃ t,u=Value.str x t from ry);subst q;rfl
 exact call_meetsIn PySem.F.slot_dict_pop dd.typeIs PySem.F.entry_dict_pop (PySem.F.args_dict_pop_3 _ _ _) (meets_dict_pop_default (eM X.prog X.w) a (jy ry) hd hp r) ⟨vs,dd,hn,h _ (I.tok _)⟩
end
def sI (i:Expr):Prop:=∀ ov iv,subscripted i false ov iv=operate [ov,iv] (getItem ov iv)
variable {value:Expr}
theorem Hm{env:Env}{slice:Expr}(hl:typeLookup (.type T) "__getitem__"=pure (some (.builtin id)))(hs:sI slice)(h:wpAny (model prog w) A (eval value env) (λo s₁=>wpAny (model prog w) A (eval slice env) (λi s₂=>s₂.TypeIs o T/\wpAny (model prog w) A (getItem o i) Q E s₂) E s₁) E s):
  wpAny (model prog w) A (eval (.Subscript value slice pos) env) Q E s:=by
 refine Subscript_ (Pi h (λo s₁ h₁=>Pi h₁ (λi s₂ h₂=>?_) λ_ _ x=>x) λ_ _ x=>x);obtain⟨hT,h₂⟩:=h₂;unfold subscriptTail;refine Pc ?_;rw[getitemInPython_of_ne hT.not_modules];refine Pc (wpAny_specialOf hT hl ?_);have fin:wpAny (model prog w) A (subscripted slice false o i) (λr s₃=>wpAny (model prog w) A (letTemporaryGo value o r>>=λ_=>pure r) Q E s₃) E s₂:=by rw[hs o i];exact wpAny_operating (Pi h₂ (λr s₃ h₃=>Pc (wpAny_letTemporaryGo (Pf h₃))) λ_ _ x=>x)
 first
  |exact Pf (Pc fin)|exact Pc (Pf (Pc fin))|exact Pc fin
theorem LQ(I:am X Py σ H s)(g:bj H a y o):s.TypeIs (.ref a) "dict":=by
 rcases g with⟨kvs,k,e,_,_⟩|⟨kvs,k,b,e,_,_,_⟩
 ·obtain⟨_,_,vs,_,dd⟩:=lX I.hok e;exact dd.typeIs
 ·obtain⟨_,_,xs,_,dd⟩:=lV I.hok e;exact dd.typeIs
def Bu (td ty:TE):TE:=λσ H Q=>td σ H λx H1=>ty σ H1 λy H2=>∃ a v,x=.ref a/\bj H2 a y (some v)/\Q v H2
def pZ (ty td:TE):TE:=λσ H Q=>ty σ H λy H1=>td σ H1 λx H2=>∃ a o,x=.ref a/\bj H2 a y o/\Q (.bl o.isSome) H2
def CQ (ty td:TE):TE:=λσ H Q=>ty σ H λy H1=>td σ H1 λx H2=>∃ a o,x=.ref a/\bj H2 a y o/\Q (.bl (!o.isSome)) H2
def Bt (td ty tv:TE):TS:=λD σ H=>tv σ H λv H1=>td σ H1 λx H2=>ty σ H2 λy H3=>∃ a H4,x=.ref a/\fE H3 a y v H4/\D.nx σ H4
variable {tv td ty:TE}
section
variable {o i:Expr}{pos' tpos:Pos}
theorem ly (hu:X.A.units+1<cLine)(ho:PE X o td)(hi:PE X i ty)(hs:sI i):PE X (.Subscript o i pos) (Bu td ty):=by intro Py s σ H Q I h;refine Hm PySem.F.slot_dict_getitem.lookup hs (aN (ho Py s σ H _ I h) λu s1 ⟨x,H1,I1,rx,q1⟩=>aN (hi Py s1 σ H1 _ I1 q1) λiv s2 ⟨y,H2,I2,ry,a,v,ex,g,q2⟩=>?_);subst ex;obtain rfl:u=Value.ref a:=rx;exact⟨LQ I2 g,Kv hu I2 g ry λw' s3 I3 rw'=>⟨v,H2,I3,rw',q2⟩⟩
theorem vO (hu:X.A.units+1<cLine)(hi:PE X i ty)(ho:PE X o td):PC X .In i o (pZ ty td):=by intro Py s σ H Q I h;refine aN (hi Py s σ H _ I h) λiv s1 ⟨y,H1,I1,ry,q1⟩=>aN (ho Py s1 σ H1 _ I1 q1) λu s2 ⟨x,H2,I2,rx,a,ov,ex,g,q2⟩=>?_;subst ex;obtain rfl:u=Value.ref a:=rx;exact zS hu I2 g ry λs3 I3=>⟨.bl ov.isSome,H2,I3,rfl,q2⟩
theorem pL (hu:X.A.units+1<cLine)(hi:PE X i ty)(ho:PE X o td):PC X .NotIn i o (CQ ty td):=by intro Py s σ H Q I h;refine aN (hi Py s σ H _ I h) λiv s1 ⟨y,H1,I1,ry,q1⟩=>aN (ho Py s1 σ H1 _ I1 q1) λu s2 ⟨x,H2,I2,rx,a,ov,ex,g,q2⟩=>?_;subst ex;obtain rfl:u=Value.ref a:=rx;exact Hn hu I2 g ry λs3 I3=>⟨.bl (!ov.isSome),H2,I3,rfl,q2⟩
theorem tO (hu:X.A.units+1<cLine)(ho:PE X o td)(hi:PE X i ty)(hv:PE X value tv)(hs:swapsWith value (some (.Subscript o i pos')) pos.line X.env=pure false):
  PS X (.Assign [.Subscript o i pos'] value pos) (Bt td ty tv):=by intro Py s σ H D I h;refine wpAny_Assign_Subscript (aN (hv Py s σ H _ I h) λr s1 ⟨v,H1,I1,rv,q1⟩=>aN (ho Py s1 σ H1 _ I1 q1) λu s2 ⟨x,H2,I2,rx,q2⟩=>aN (hi Py s2 σ H2 _ I2 q2) λiv s3 ⟨y,H3,I3,ry,a,H4,ex,g,q3⟩=>?_) hs;subst ex;obtain rfl:u=Value.ref a:=rx;exact Ku hu I3 g ry rv λs4 I4=>⟨σ,H4,I4,q3⟩
end
theorem Dn(h:Heap)(hb:sysModules<h.objs.size):c_ P w H (h.push {cls:=.type "dict",data:=.dict #[]}) h.objs.size (.dK []):=
 ⟨OF _,OK.mpr (Ne.symm (Ol hb)),[],.nil,Heap.DictOf.new h⟩
def BP:TE:=λ_ H Q=>∀ p,H p=none->Q (.ref p) (upd H p (.dK []))
section
theorem ud:PE X (.Dict [] [] pos) BP:=λPy s σ H Q I h=>
 wpAny_Dict_empty ⟨.ref s.heap.objs.size,_,I.laid (a:=s.heap.objs.size) (o:=.dK []) (t':=s.toks) (λ_ _ q=>Pd _ q) (NV _) (Dn s.heap I.big),rfl,h _ (I.hok.fresh (NV _))⟩
end
def ma:List (TE×TE)->St->Hp->(List (V×V)->Hp->Prop)->Prop
 |[],_,H,Q=>Q [] H|(tk,tv)::r,σ,H,Q=>tk σ H λx H1=>tv σ H1 λy H2=>ma r σ H2 λps H3=>Q ((x,y)::ps) H3
abbrev VV:List (V×V)->List (Value×Value)->Prop:=Paired λp q=>aC p.1 q.1/\aC p.2 q.2
def uZ (X:Cx)(pos:Pos)(keys:List (Option Expr))(values:List Expr)(trs:List (TE×TE)):Prop:=
 ∀(Py:QX) (s:Shared) (σ:St) (H:Hp) (Q:List (V×V)->Hp->Prop),am X Py σ H s->ma trs σ H Q->
  wpAny (model X.prog X.w) X.A (evalPairs (pairTrees keys values X.env pos)) (λvs s'=>∃ ps H',am X Py σ H' s'/\VV ps vs/\Q ps H') X.xe s
theorem oi:uZ X pos [] [] []:=λPy s σ H Q I h=>pairTrees_nil_walk ⟨[],H,I,.nil,h⟩
variable {trs:List (TE×TE)}
theorem iZ{k v:Expr}{ks:List (Option Expr)}{vs:List Expr}{tk:TE}(hk:PE X k tk)(hv:PE X v tv)(hr:uZ X pos ks vs trs):
  uZ X pos (some k::ks) (v::vs) ((tk,tv)::trs):=λPy s σ H Q I h=>
 pairTrees_cons_walk (aN (hk Py s σ H _ I h) λu s1 ⟨x,H1,I1,rx,q1⟩=>aN (hv Py s1 σ H1 _ I1 q1) λw2 s2 ⟨y,H2,I2,ry,q2⟩=>
  aN (hr Py s2 σ H2 _ I2 q2) λws s3 ⟨ps,H3,I3,rel,q3⟩=>⟨(x,y)::ps,H3,I3,.cons ⟨rx,ry⟩ rel,q3⟩)
def eR (kvs more:List (bp×V)):List (bp×V):=more.foldl (λacc kv=>bi acc kv.1 kv.2) kvs
theorem KV.merge:∀{more:List (bp×V)}{rs:List (bp×Value)}{kvs:List (bp×V)}{vs:List (bp×Value)},KV more rs->KV kvs vs->KV (eR kvs more) (merged vs rs):=by
 intro more rs kvs vs r;unfold KV at r;induction r generalizing kvs vs with
 |nil=>intro q;exact q
 |@cons p q ps qs h t ih=>
  intro r0;have e:KV (bi kvs p.1 p.2) (stored vs q.1 q.2):=by have:=r0.put p.1 h.2;rw[<-h.1];exact this
  exact ih e
theorem EX:∀(more kvs:List (bp×V)),(eR kvs more).length<=kvs.length+more.length
 |[],kvs=>by show kvs.length<=kvs.length+0;omega|p::r,kvs=>by have h1:=EX r (bi kvs p.1 p.2);have h2:=x8 kvs p.1 p.2;show(eR (bi kvs p.1 p.2) r).length<=_;rw[N_];omega
theorem Ep {P:Program}{w:World}:∀{kvs:List (bp×V)}{ws:List (Value×Value)},VV (kvs.map λkv=>(kV kv.1,kv.2)) ws->∃ rs,Carries (eM P w) ws rs/\KV kvs rs
 |[],_,r=>by rw[Oh]at r;cases r;exact⟨[],OH,.nil⟩|p::kvs,_,r=>by
  rw[bw]at r;cases r with|@cons a b as bs h t=>obtain⟨rs,c,q⟩:=Ep (P:=P) (w:=w) t;obtain⟨b1,b2⟩:=b;exact⟨(p.1,b2)::rs,⟨jy h.1,rfl,c⟩,.cons ⟨rfl,h.2⟩ q⟩
def BG (trs:List (TE×TE)):TE:=λσ H Q=>∀ p,H p=none->ma trs σ (upd H p (.dK [])) λps H2=>H2 p=some (.dK [])/\∃ kvs:List (bp×V),ps=kvs.map (λkv=>(kV kv.1,kv.2))/\kvs.length<=15/\Q (.ref p) (upd H2 p (.dK (eR [] kvs)))
theorem oh{keys:List (Option Expr)}{values:List Expr}(h:uZ X pos keys values trs)(hall:keys.all (·.isSome)=true)(hl:keys.length=values.length)(h0:keys≠[])(h15:keys.length<=15):PE X (.Dict keys values pos) (BG trs):=by
 intro Py s σ H Q I q;have hn:=I.hok.fresh (NV s.heap.objs.size);have I1:=I.laid (a:=s.heap.objs.size) (o:=.dK []) (h':=s.heap.push {cls:=.type "dict",data:=.dict #[]}) (t':=s.toks) (λ_ _ q=>Pd _ q) (NV _) (Dn s.heap I.big);refine wpAny_Dict_walk (knd:=eM X.prog X.w) hall hl h0 h15 (aN (h Py _ σ _ _ I1 (q _ hn)) λws s2 ⟨ps,H2,I2,rel,e,kvs,ep,lk,q2⟩=>?_);subst ep;obtain⟨rs,c,rk⟩:=Ep (P:=X.prog) (w:=X.w) rel;obtain⟨z,hd,vs0,r0,dd⟩:=lW I2.hok e;cases r0;refine⟨rs,c,dd,λh' dd' hs=>⟨.ref s.heap.objs.size,_,?_,rfl,q2⟩⟩;have hz:(eR [] kvs).length<=sizeLine:=by have h1:=EX kvs [];rw[List.length_nil]at h1;rw[sizeLine_eq];omega
 have he:∃ q,h'.get? s.heap.objs.size=some q:=let ⟨q,_,_,hq,_⟩:=dd';⟨q,hq⟩;exact pp I2 (by rw[e];exact OH) hs he (tE hz hd (rk.merge .nil) dd')
structure M2 (X:Cx)(o:Expr)(m:Str)(apos:Pos)(e f:Expr)(cpos:Pos):Prop where
 base:attributeBase o m X.env (eval o X.env)=eval o X.env
 few:((backTo cpos (starEach [e,f] X.env)).all (λx=>!x.1)&&(backToKw cpos (keywordEach [] X.env)).all (λx=>x.1.isSome)
  &&decide (([e,f]:List Expr).length+([]:List Keyword).length+(if([]:List Keyword).isEmpty then 0 else 1)<30))=true
 line:(apos.endLine==cpos.line)=true
 trees:backTo cpos (starEach [e,f] X.env)=[(false,eval e X.env),(false,eval f X.env)]
def sO (H:Hp)(a:Addr):Prop:=(∃ kvs,Rd H a (.dK kvs))\/∃ kvs,Rd H a (.dT kvs)
theorem BO(I:am X Py σ H s)(d:sO H a):
  s.TypeIs (.ref a) "dict"/\(∀ b,Value.ref a=.ref b->∃ ob,s.heap.get? b=some ob/\ob.dict=none)/\(a==sysModules)=false:=by
 rcases d with⟨kvs,e⟩|⟨kvs,e⟩
 ·obtain⟨_,hd,vs,_,dd⟩:=lX I.hok e;refine⟨dd.typeIs,λb q=>?_,hd⟩;cases q;obtain⟨ob,_,_,h1,h2,_⟩:=dd;exact⟨ob,h1,h2.2.1⟩
 ·obtain⟨_,hd,xs,_,dd⟩:=lV I.hok e;refine⟨dd.typeIs,λb q=>?_,hd⟩;cases q;obtain⟨ob,_,_,h1,h2,_⟩:=dd;exact⟨ob,h1,h2.2.1⟩
section
variable {d:V}
theorem GI(hu:A.units+1<cLine)(I:am X Py σ H s)(g:bj H a y o)(ry:aC y u)(rd:aC d r)(h:∀ w' s',am X Py σ H s'->aC (o.getD d) w'->Q w' s'):
  wpAny (model X.prog X.w) A (call (.builtin "dict.get") [.ref a,u,r]) Q E s:=by
 rcases g with⟨kvs,k,e,ey,l⟩|⟨kvs,k,b,e,ey,eb,l⟩
 ·subst ey;obtain⟨z,hd,vs,rel,dd⟩:=lX I.hok e;refine call_meetsIn PySem.F.slot_dict_get dd.typeIs PySem.F.entry_dict_get (PySem.F.args_dict_get_3 _ _ _) (meets_dict_get_default (eM X.prog X.w) a (jy ry) hd r) ⟨_,dd.mapOf,h _ _ (I.tok _) ?_⟩;rw[l];exact(rel.val k).getD rd
 ·subst ey;cases(show u=Value.ref b from ry);obtain⟨z,hd,xs,rel,dd⟩:=lV I.hok e;refine call_meetsIn PySem.F.slot_dict_get dd.typeIs PySem.F.entry_dict_get (PySem.F.args_dict_get_3 _ _ _) (meetsH_dict_get_default (tupleKind (eM X.prog X.w)) a b hd r) ⟨Pt hu,k,xs,nP I.hok eb,dd,h _ _ (I.tok _) ?_⟩;rw[l];exact(rel.val k).getD rd
end
def BN (td ty tx:TE):TE:=λσ H Q=>td σ H λx H1=>∃ a,x=.ref a/\sO H1 a/\ty σ H1 λy H2=>tx σ H2 λz H3=>∃ o,bj H3 a y o/\Q (o.getD z) H3
def BM (td ty tx:TE):TE:=λσ H Q=>td σ H λx H1=>∃ a,x=.ref a/\sO H1 a/\ty σ H1 λy H2=>tx σ H2 λz H3=>∃ kvs k,H3 a=some (.dK kvs)/\y=kV k/\
 (∀ v,aI kvs k=some v->Q v (upd H3 a (.dK (fH kvs k))))/\(aI kvs k=none->Q z H3)
section
variable {o f:Expr}{tx:TE}
theorem IL (hu:X.A.units+1<cLine)(ho:PE X o td)(he:PE X e ty)(hf:PE X f tx)(m:M2 X o "get" apos e f cpos):PE X (.Call (.Attribute o "get" apos) [e,f] [] cpos) (BN td ty tx):=by
 intro Py s σ H Q I h;refine wpAny_Call_method m.base m.few m.line PySem.F.plainAttrs_dict PySem.F.slot_dict_get PySem.F.type_dict_get (aN (ho Py s σ H _ I h) λu s1 ⟨x,H1,I1,rx,a,ex,d,q1⟩=>?_);subst ex;obtain rfl:u=Value.ref a:=rx;obtain⟨t1,t2,_⟩:=BO I1 d;nomatch t1,t2;rw[m.trees];refine Calls.callWith_builtin rfl (Calls.evalArgs_plain (Calls.spliced_cons (aN (he Py s1 σ H1 _ I1 q1) λiv s2 ⟨y,H2,I2,ry,q2⟩=>
  Calls.spliced_cons (aN (hf Py s2 σ H2 _ I2 q2) λfv s3 ⟨z,H3,I3,rz,ov,g,q3⟩=>Calls.spliced_nil ?_))))
 exact GI hu I3 g ry rz λw' s4 I4 rw'=>⟨_,H3,I4,rw',q3⟩
theorem IK (ho:PE X o td)(he:PE X e ty)(hf:PE X f tx)(m:M2 X o "pop" apos e f cpos):PE X (.Call (.Attribute o "pop" apos) [e,f] [] cpos) (BM td ty tx):=by
 intro Py s σ H Q I h;refine wpAny_Call_method m.base m.few m.line PySem.F.plainAttrs_dict PySem.F.slot_dict_pop PySem.F.type_dict_pop (aN (ho Py s σ H _ I h) λu s1 ⟨x,H1,I1,rx,a,ex,d,q1⟩=>?_);subst ex;obtain rfl:u=Value.ref a:=rx;obtain⟨t1,t2,_⟩:=BO I1 d;nomatch t1,t2;rw[m.trees];refine Calls.callWith_builtin rfl (Calls.evalArgs_plain (Calls.spliced_cons (aN (he Py s1 σ H1 _ I1 q1) λiv s2 ⟨y,H2,I2,ry,q2⟩=>
  Calls.spliced_cons (aN (hf Py s2 σ H2 _ I2 q2) λfv s3 ⟨z,H3,I3,rz,kvs,k,ea,ey,q3,q4⟩=>Calls.spliced_nil ?_))))
 subst ey;cases l:aI kvs k with
 |some v=>exact rZ I3 ea ry l (.inr ⟨fv,rfl⟩) λw' s4 I4 rw'=>⟨v,_,I4,rw',q3 v l⟩
 |none=>exact FX I3 ea ry l λs4 I4=>⟨z,H3,I4,rz,q4 l⟩
end
section
end
section
end
end L2
namespace Att
open PySem PySem.W PySem.Calls PyProof.Rows
variable {P:Params}{h:Heap}
theorem M8:∀(ns:QS) (vs:List Value),WellAll P h vs (ns.map WData.int)->IntsAre vs ns:=by
 intro ns;induction ns with
 |nil=>intro vs w;rw[Oh]at w;cases w;exact .nil
 |cons n ns ih=>
  intro vs w;rw[bw]at w;cases w with
  |cons a b=>cases a;exact .cons _ _ (ih _ b)
variable {l:OpenLaw}{n:Nat}
theorem Kt(hn:l.most=some n){args:List WData}{vals:List Value}(hpre:l.row.toRowW.claim.pre args=true)(hwl:WellAll P h vals args):
  ∃ a vs ns,vals=[Value.ref a]/\args=[WData.list (ns.map WData.int)]/\h.get? a=some {cls:=.type "list",data:=.seq vs.toArray}/\IntsAre vs ns/\ns.length<=n:=by
 have hsh:WShape.hasAll [] args [.list .int]=true:=(pre_splitW hpre).1;have hc:l.pre.holds [] {args:=args}=true:=(pre_splitW hpre).2;obtain⟨d,r,rfl,h1,h2⟩:=hasAllW_cons hsh;obtain rfl:=hasAllW_nil h2;obtain⟨xs,rfl,h3⟩:=hasW_list h1;obtain⟨ns,rfl⟩:=items_int h3;have hlen:ns.length<=n:=by
  unfold OpenLaw.pre at hc;have h4:(WTm.not (.lt (.lit (.int (n:Int))) (.len (.arg 0)))).holds [] {args:=[.list (ns.map .int)]}=true:=by have h4:=(holds_andW hc).1;rw[hn]at h4;exact h4
  have h5:=condW_of h4 (w_not (w_lt w_lit (w_len_list (w_arg rfl))));rw[aV]at h5;refine Nat.le_of_not_lt λq=>?_;have q':(n:Int)<((ns.length:Nat):Int):=by omega
  first
   |(rw[N0 q']at h5;exact Oa h5 (by decide))|(simp at h5;omega)
 cases hwl with|cons w1 w2=>
  cases w2;cases w1 with|list ho hall=>exact⟨_,_,ns,rfl,rfl,ho,M8 ns _ hall,hlen⟩
theorem Ks (l:OpenLaw)(args:List WData):l.row.toRowW.claim.post args (.bool true) args=true:=
 postW_of (r:=l.row.toRowW) (X:=(true==true))
  (show WShape.has [] (.bool true) .bool=true by first|rfl|decide|simp[WShape.has,WShape.arms,WShape.armsAll])
  (show(WTm.eq .res (.lit (.bool true))).value [] {args:=args,res:=some (.bool true),after:=args}=some (.bool (true==true))from w_eq_bool (w_res rfl) w_lit) rfl
theorem attach_call{q:Program}{loose:List Str}{XP:(Str->Option Value)->Heap->Prop}{YP:World->Heap->Prop}{d:DefRec}(hn:l.most=some n)(hdf:d.params.defaults=[])(call:∀(w:World) (s₀ s₁:Shared) (mg mb:Str->Option Value) (fa:Addr) (o:Obj) (pm cd doc:Value) (a:Addr) (vs:List Value) (ns:QS),
   Ground q loose [] XP w s₀ mg mb s₁.heap->YP w s₁.heap->
   s₁.heap.get? fa=some o->o.data=.func (docDef d.name d.params d.body d.scope pm cd doc)->s₁.heap.CodeRec cd d.name->mg d.name=some (.ref fa)->
   s₁.heap.get? a=some {cls:=.type "list",data:=.seq vs.toArray}->IntsAre vs ns->ns.length<=n->s₁.gens=#[]->
   codeAny (model l.prog w) callerA (.call (.ref fa) ⟨[.ref a],[]⟩) (λr s'=>r=.ok (.ret (.bool true))/\OldK s₁.heap s'.heap/\s'.os=s₁.os/\AllBare s'.gens) s₁):
  WalkO q loose XP YP l.row.toRowW d [] (λf vs=>PySem.call f vs):=by intro w s₀ s₁ mg mb G Y fa o pm cd doc dV kV ho hd hcd hD hmg hg args vals as hpre hlay hrd hwl hlo;obtain rfl:dV=.none:=Dflts.none hD hdf;obtain rfl:kV=.none:=Dflts.noKw hD;obtain⟨a,vs,ns,rfl,rfl,hobj,hints,hlen⟩:=Kt hn hpre hwl;refine enter_call (Px (call w s₀ s₁ mg mb fa o pm cd doc a vs ns G Y ho (fd_plain hd) hcd hmg hobj hints hlen hg) λr s' hq=>?_);obtain⟨rfl,h2,h3,h4⟩:=hq;exact⟨.inl ⟨.bool true,.bool true,[],rfl,λ_=>rfl,.bool true,Ks l _,λ_=>⟨List.Pairwise.nil,λ_ hm=>(nomatch hm)⟩⟩,h2,h3,h4⟩
section
variable {prog:Program}{w:World}{A:Around}{E:Value->Shared->Prop}{s:Shared}{K:Frag}
end
end Att
namespace L2
open PySem PySem.Spec PyProof.Rows
theorem xk:∀{vs:List Value}{ns:QS},IntsAre vs ns->ax (ns.map V.int) vs
 |_,_,.nil=>.nil|_,_,.cons n t h=>.cons ⟨t,rfl⟩ (xk h)
def m7 (H:Hp):Prop:=∀ b,H b=none\/∃ o xs,H b=some (.frz o (.lst xs))
variable {P:Program}{w:World}{K:Fg}{mg:Str->Option Value}{CX:jX}{a:Addr}{fd:FuncData}{x:Str}{sp:Sp}{ns:QS}
theorem IJ{mb:Str->Option Value}{k:Nat}{fa:Addr}{s₁:Shared}{vs:List Value}(KX:K.In s₁.heap)(hns:s₁.heap.Ns mainGlobals mg)(hb:s₁.heap.Ns builtinsNs mb)(hbb:∀ x:Str,x≠"__name__" ->mb x=bootBuiltins x)(hlim:s₁.heap.NoLimit)(hg:s₁.gens=#[])(ha:s₁.heap.get? a=some {cls:=.type "list",data:=.seq vs.toArray})(hi:IntsAre vs ns)(hl:ns.length<=sizeLine)(hr:aQ k callerA)(F:∀ base:Heap,K.In base->base.Ns mainGlobals mg->ck P w K mg base CX k fa fd [x] sp)(hbind:∀(s:Shared) (u:Value),BindsTo s fd ⟨[u],[]⟩ [(x,u)])(hsp:∀ H:Hp,m7 H->ar K H a (ns.map V.int)->sp [.ref a] H (λv _=>v=.bl true) λ_ _ _=>False)(hCX:∀ H e s',CX [] H s₁ (λ_ _ _=>False) e s'->False):
  codeAny (model P w) callerA (.call (.ref fa) ⟨[.ref a],[]⟩) (λr s'=>r=.ok (.ret (.bool true))/\OldK s₁.heap s'.heap/\s'.os=s₁.os/\AllBare s'.gens) s₁:=by
 have rv:=xk hi;have lenV:=hi.length;have core:∀ H:Hp,m7 H->ar K H a (ns.map V.int)->dz P w H s₁.heap->(∀ b,H b≠none->b=a)->(H a≠none->K.lookup a=none)->
   codeAny (model P w) callerA (.call (.ref fa) ⟨[.ref a],[]⟩) (λr s'=>r=.ok (.ret (.bool true))/\OldK s₁.heap s'.heap/\s'.os=s₁.os/\AllBare s'.gens) s₁:=by
  intro H hO hS hok hA hK
  have base_of:∀{b:Addr}{o:Obj},s₁.heap.get? b=some o->H b=none->(fw s₁.heap H).get? b=some o:=λe n=>IZ e n
  have noA:∀{b:Addr}{o:Obj}{es:Array DictEntry}{ep:Nat},s₁.heap.get? b=some o->o.data=.dict es ep->H b=none:=λ{b o es ep} e d=>by
   cases q:H b with
   |none=>rfl
   |some u=>
    have e':b=a:=hA b (by rw[q];simp)
    subst e'
    rw[ha]at e;cases e
    have d':Data.seq vs.toArray _=Data.dict es ep:=d
    cases d'
  have nsK:∀{b:Addr}{m:Str->Option Value},s₁.heap.Ns b m->(fw s₁.heap H).Ns b m:=λ{b m} ⟨o,es,ep,e,d,r⟩=>⟨o,es,ep,base_of e (noA e d),d,r⟩
  have hKb:K.In (fw s₁.heap H):=λb o e=>base_of (KX b o e) (by
   cases q:H b with
   |none=>rfl
   |some u=>
    have e':b=a:=hA b (by rw[q];simp)
    subst e'
    rw[hK (by rw[q];simp)]at e;cases e)
  have hM:Mod K mg (fw s₁.heap H):=⟨hKb,nsK hns,⟨mb,nsK hb,hbb⟩,let ⟨mc,h1,h2⟩:=hlim;⟨mc,nsK h1,h2⟩⟩
  have e0:gW P w K mg (fw s₁.heap H) callerA [] s₁ H:=⟨rfl,hM,λb o e=>Ij e,Nat.le_of_eq (Kf _ _),trivial,λb hb=>Oa (show b∈([]:QW)from hb) (by simp),hok,.of_eq hg⟩
  refine Px ((F _ hKb (nsK hns)).run callerA [] s₁ H ⟨[.ref a],[]⟩ [.ref a] [.ref a] _ _ hr e0 (hbind s₁ (.ref a)) (.cons rfl .nil) (hsp H hO hS)) λr s' h=>?_
  cases r with
  |error e=>exact(hCX H e s' h).elim
  |ok fl=>
   cases fl with
   |next=>exact Ov h
   |brk=>exact Ov h
   |cont=>exact Ov h
   |ret u=>
    obtain⟨v,H',os,bare,un,hok',r',q⟩:=h
    have q':v=.bl true:=q
    subst q'
    obtain rfl:u=Value.bool true:=r'
    refine⟨rfl,OldK.of_keep λb o e=>?_,os,bare⟩
    cases q:H b with
    |none=>exact un.keep b o e q (by intro z;exact Oa (show b∈([]:QW)from z) (by simp)) (by simp)
    |some u=>
     rcases hO b with z|⟨ob,xs,z⟩
     ·rw[q]at z;cases z
     ·have z2:=un.frzs b ob _ z
      obtain⟨e1,_⟩:=hok b _ z
      obtain⟨e2,_⟩:=hok' b _ z2
      rw[e]at e1;cases e1
      exact e2
 cases hk:K.lookup a with
 |some o=>have e:=KX a o hk;rw[ha]at e;cases e;refine core (λ_=>none) (λ_=>.inl rfl) (.inr ⟨_,vs.toArray,_,hk,rfl,rfl,rfl,by rw[bM,lenV];exact hl,by simpa using rv⟩) (λb u z=>by have z':(none:Option HO)=some u:=z;cases z') (λb z=>Oa rfl z) λz=>Oa rfl z
 |none=>
  refine core (λb=>if b=a then some (.frz {cls:=.type "list",data:=.seq vs.toArray} (.lst (ns.map V.int)))else none) (λb=>?_) (.inl (.inr ⟨{cls:=.type "list",data:=.seq vs.toArray},NU rfl⟩)) (λb u z=>?_) (λb z=>?_) λ_=>hk
  ·by_cases hb:b=a
   ·exact .inr ⟨_,_,NU hb⟩
   ·exact .inl (NR hb)
  ·by_cases hb:b=a
   ·have z':=(NU hb).symm.trans z;cases z';subst hb;exact⟨ha,by rw[aV];exact hl,vs,_,rv,ha⟩
   ·have z':=(NR hb).symm.trans z;cases z'
  ·by_cases hb:b=a
   ·exact hb
   ·exact Oa (NR hb) z
abbrev bL:jX:=λ_ _ _ _ _ _=>False
abbrev E0:XK:=λ_ _ _=>False
variable {X:Cx}
theorem cf:g8 bL X E0:=λ_ _ _ _ _ _ _ h=>h.elim
structure aS (K:Fg)(x qual:Str)(st:Stmt)(f:Addr)(fd:FuncData):Prop where
 ex:∃(oc:Value) (od:Option Addr) (kV doc pm:Value) (an:Option Addr) (cdv ct:Value) (osl:Array (Option Value)),
  fd=PySem.W.fnOf x qual (jL st) (gI st) (aK st) .none kV doc pm an cdv ct/\K.lookup f=some ⟨oc,od,.func fd,osl⟩/\PySem.W.codeIn K cdv qual=true
 kp:PySem.W.keepIn K (.ref f)=true
variable {qual:Str}{st:Stmt}{N:List Str}{base:Heap}
section
theorem aS.ok{f:Addr}{ps:List Str}{k:Nat}(F:aS K x qual st f fd)(S:aU N ps (aK st))(len:∀ vs H Q E,sp vs H Q E->vs.length=ps.length)(hbody:∀(cdv:Value) (A:Around) (outer:List Env) (s:Shared) (H:Hp) (vs:QV) (Q:VK) (E:XK),aQ k (A.deeper (envOfC qual (aK st) s.heap.objs.size f cdv))->sp vs H Q E->
   ∃ t,fN (bU bL P w K mg base N qual (aK st) f cdv A outer s H E).nox (gI st) t/\t {nx:=λ_ H'=>Q .non H',rt:=Q} (start N vs) H):ck P w K mg base bL (k+1) f fd ps sp:=by obtain⟨oc,od,kV,doc,pm,an,cdv,ct,osl,rfl,lk,hcd⟩:=F.ex;refine Bz lk hcd S len λA outer s H vs Q E hr hsp=>?_;obtain⟨t,h,q⟩:=hbody cdv A outer s H vs Q E hr hsp;exact⟨t,h.nox,q⟩
theorem aS.binds{f:Addr}{ps:List Str}(F:aS K x qual st f fd)(h:∀(kV doc pm:Value) (an:Option Addr) (cdv ct:Value) (us:List Value),us.length=ps.length->bindArgs (PySem.W.fnOf x qual (jL st) (gI st) (aK st) .none kV doc pm an cdv ct) ⟨us,[]⟩=pure (ps.zip us)):gF K fd ps []:=by obtain⟨oc,od,kV,doc,pm,an,cdv,ct,osl,rfl,lk,hcd⟩:=F.ex;exact .all (h kV doc pm an cdv ct)
theorem BL{f:Addr}{oc:Value}{od an:Option Addr}{osl:Array (Option Value)}{kV doc pm cdv ct:Value}(l:K.lookup f=some ⟨oc,od,.func (PySem.W.fnOf x qual (jL st) (gI st) (aK st) .none kV doc pm an cdv ct),osl⟩)(c:PySem.W.codeIn K cdv qual=true)(k:PySem.W.keepIn K (.ref f)=true):aS K x qual st f (PySem.W.fnOf x qual (jL st) (gI st) (aK st) .none kV doc pm an cdv ct):=⟨⟨oc,od,kV,doc,pm,an,cdv,ct,osl,rfl,l,c⟩,k⟩
end
variable {n:Nat}
theorem kc(h:n<=1000):n<sizeLine:=O6 h (by decide)
variable {pos:Pos}
section
theorem pv(i:Nat)(hN:⇑(X.N[i]?=some x))(hv:autoParam (oF X.env.scope x) zo)(hd:↥((x==("__debug__":Str))=false))(hcd:↥((x==("__classdict__":Str))=false)):PE X (.Name x pos) (i9 i):=HM hN hv hd hcd
end
variable {B A:Prop}
theorem iy(h:B):if false=true then A else B:=by rw[NR N5];exact h
theorem ji(h:A):if true=true then A else B:=by rw[NU rfl];exact h
theorem cj{c:Prop}[Decidable c](h1:c->A)(h2:¬ c->B):if c then A else B:=by
 by_cases h:c
 ·rw[NU h];exact h1 h
 ·rw[NR h];exact h2 h
def ae (H H':Hp):Prop:=∀ b o,H b=some o->H' b=some o
theorem ae.refl (H:Hp):ae H H:=λ_ _ h=>h
variable {H H1 H2:Hp}
theorem ae.trans(a:ae H H1)(b:ae H1 H2):ae H H2:=λc o h=>b c o (a c o h)
variable {H':Hp}
theorem ae.free(e:ae H H'){l:Addr}(h:H' l=Option.none):H l=Option.none:=by
 cases q:H l with
 |none=>rfl
 |some o=>rw[e l o q]at h;cases h
variable {xs:QV}
theorem ae.seq(e:ae H H')(h:ar K H a xs):ar K H' a xs:=by
 rcases h with(h|⟨o,h⟩)|h
 ·exact .inl (.inl (e _ _ h))
 ·exact .inl (.inr ⟨o,e _ _ h⟩)
 ·exact .inr h
variable {v:V}
section
variable {κ:Type} [DecidableEq κ]
theorem II {kvs:List (κ×V)}{k:κ}(h:aI kvs k=none):¬ k∈kvs.map (·.1):=by intro m;obtain⟨p,hp,e⟩:=bB.mp m;have q:(kvs.any λkv=>decide (kv.1=k))=true:=List.any_eq_true.mpr ⟨p,hp,N0 e⟩;rw[lF,h]at q;exact Oa q (by simp)
theorem CP{kvs:List (κ×V)}{k:κ}(h:aI kvs k=some v):k∈kvs.map (·.1):=by
 have q:(kvs.any λkv=>decide (kv.1=k))=true:=by rw[lF,h];all_goals rfl
 obtain⟨p,hp,e⟩:=List.any_eq_true.mp q;exact bB.mpr ⟨p,hp,N8 e⟩
theorem wn:∀{l:List κ}{k:κ},l.Nodup->¬ k∈l->(l++[k]).Nodup
 |[],k,_,_=>by simp|a::r,k,h,hk=>by
  obtain⟨h1,h2⟩:=Og.mp h;show(a::(r++[k])).Nodup;refine Og.mpr ⟨λm=>?_,wn h2 λm=>hk (NP.mpr (Or.inr m))⟩;rcases bC.mp m with q|q
  ·exact h1 q
  ·exact hk (NP.mpr (Or.inl (bu.mp q).symm))
theorem Kr {p:κ×V}{r:List (κ×V)}{k:κ}(e:p.1=k):fH (p::r) k=fH r k:=by unfold fH;rw[OQ,NR (by simp[e])]
theorem Kq {p:κ×V}{r:List (κ×V)}{k:κ}(e:¬ p.1=k):fH (p::r) k=p::fH r k:=by unfold fH;rw[OQ,NU (by simp[e])]
end
noncomputable def ff:List Bool->St->St
 |[],_=>[]|_::ms,[]=>none::ff ms []|b::ms,v::σ=>(if b=true then none else v)::ff ms σ
theorem uG:∀(ms:List Bool) (σ:St),(ff ms σ).length=ms.length
 |[],_=>rfl|_::ms,[]=>by simp[ff,uG ms []]|_::ms,_::σ=>by simp[ff,uG ms σ]
theorem xj:∀{ms:List Bool}{σ:St}{i:Nat}{v:V},(ff ms σ)[i]?=some (some v)->ms[i]?=some false/\σ[i]?=some (some v)
 |[],_,_,_,h=>by simp[ff]at h
 |b::ms,[],0,v,h=>by simp[ff]at h
 |b::ms,[],i+1,v,h=>by have q:=xj (ms:=ms) (σ:=[]) (i:=i) (v:=v) (by simpa[ff]using h);simp at q
 |b::ms,u::σ,0,v,h=>by
  cases b with
  |true=>simp[ff]at h
  |false=>simp[ff]at h;simp[h]
 |b::ms,u::σ,i+1,v,h=>by have q:=xj (ms:=ms) (σ:=σ) (i:=i) (v:=v) (by simpa[ff]using h);simpa using q
noncomputable def eK (env:Env):List (Str×NameKind)->List (Str×Addr)->List (Str×Addr)
 |[],cs=>cs|(n,k)::r,cs=>eK env r (if k=.free then(match env.cells.lookup n with|some c=>(n,c)::cs|none=>cs)else cs)
variable {env:Env}
theorem DP:∀(names:List (Str×NameKind)) (cs:List (Str×Addr)),(∀ x c,cs.lookup x=some c->env.cells.lookup x=some c)->
  ∀ x c,(eK env names cs).lookup x=some c->env.cells.lookup x=some c
 |[],cs,h,x,c,e=>h x c e
 |(n,k)::r,cs,h,x,c,e=>by
  refine DP r _ (λy d q=>?_) x c e;by_cases hk:k=.free
  ·rw[NU hk]at q;cases hn:env.cells.lookup n with
   |none=>rw[hn]at q;exact h y d q
   |some a=>
    rw[hn]at q;simp only[OS]at q;cases hy:y==n with
    |true=>
     rw[hy]at q;have:y=n:=by simpa using hy
     subst this;rw[hn];exact q
    |false=>rw[hy]at q;exact h y d q
  ·rw[NR hk]at q;exact h y d q
theorem xi:∀(names:List (Str×NameKind)) (cs:List (Str×Addr)) (x:Str),(∀ p∈names,p.2=.free->∃ c,env.cells.lookup p.1=some c)->
  ((x,NameKind.free)∈names\/∃ c,cs.lookup x=some c)->∃ c,(eK env names cs).lookup x=some c
 |[],cs,x,_,h=>by
  rcases h with h|h
  ·cases h
  ·exact h
 |(n,k)::r,cs,x,hf,h=>by
  refine xi r _ x (λp hp=>hf p (NZ _ hp)) ?_;by_cases hk:k=.free
  ·obtain⟨c,hc⟩:=hf (n,k) NW hk;simp only at hc;rw[NU hk,hc];rcases h with h|⟨d,hd⟩
   ·rcases NP.mp h with e|e
    ·cases e;exact .inr ⟨c,by simp⟩
    ·exact .inl e
   ·refine .inr ?_;simp only[OS];cases hy:x==n with
    |true=>exact⟨c,rfl⟩
    |false=>exact⟨d,hd⟩
  ·rw[NR hk];rcases h with h|h
   ·rcases NP.mp h with e|e
    ·cases e;exact Oa rfl hk
    ·exact .inl e
   ·exact .inr h
theorem xh{f:Str×NameKind->List (Str×Addr)->Sem (ForInStep (List (Str×Addr)))}(h1:∀ n c cs,env.cells.lookup n=some c->f (n,.free) cs=pure (.yield ((n,c)::cs)))(h2:∀ n k cs,k≠NameKind.free->f (n,k) cs=pure (.yield cs)):
  ∀(names:List (Str×NameKind)) (cs:List (Str×Addr)),(∀ p∈names,p.2=.free->∃ c,env.cells.lookup p.1=some c)->forIn names cs f=pure (eK env names cs)
 |[],cs,_=>rfl|(n,k)::r,cs,hf=>by
  rw[List.forIn_cons];by_cases hk:k=.free
  ·subst hk;obtain⟨c,hc⟩:=hf (n,.free) NW rfl;simp only at hc;rw[h1 n c cs hc];show forIn r ((n,c)::cs) f=_;rw[xh h1 h2 r _ λp hp=>hf p (NZ _ hp)];simp[eK,hc]
  ·rw[h2 n k cs hk];show forIn r cs f=_;rw[xh h1 h2 r _ λp hp=>hf p (NZ _ hp)];simp[eK,hk]
variable {scope:Scope}
theorem CO(hf:∀ p∈scope.names,p.2=.free->∃ c,env.cells.lookup p.1=some c):closureFor scope env=pure (eK env scope.names []):=by
 simp only[closureFor];rw[xh (env:=env) (λn c cs hc=>?_) (λn k cs hk=>?_) scope.names [] hf]
 ·rfl
 ·simp[cellOf,hc]
 ·have:(k==NameKind.free)=false:=by simpa using hk
  simp[this]
theorem EK (env:Env)(x:Str):∀(names:List (Str×NameKind)),(names.map λ(p:Str×NameKind)=>match p with
   |(n,k)=>if(k==NameKind.free&&env.scope.kind==.function&&env.kindOf n==some .cell)=true then(n,NameKind.cell)else(n,k)).lookup x=
  (names.lookup x).map λk=>if(k==NameKind.free&&env.scope.kind==.function&&env.kindOf x==some .cell)=true then NameKind.cell else k
 |[]=>rfl
 |(n,k)::r=>by
  have ih:=EK env x r;rw[bw];by_cases hc:(k==NameKind.free&&env.scope.kind==.function&&env.kindOf n==some .cell)=true
  ·simp only[NU hc,OS];cases hx:x==n with
   |true=>
    have:x=n:=by simpa using hx
    subst this;exact(congrArg some (NU hc)).symm
   |false=>exact ih
  ·simp only[NR hc,OS];cases hx:x==n with
   |true=>
    have:x=n:=by simpa using hx
    subst this;exact(congrArg some (NR hc)).symm
   |false=>exact ih
theorem EW (scope:Scope)(env:Env)(x:Str):(relabel scope env).names.lookup x=
  (scope.names.lookup x).map λk=>if(k==NameKind.free&&env.scope.kind==.function&&env.kindOf x==some .cell)=true then NameKind.cell else k:=EK env x scope.names
structure bG (sc0:Scope)(N:List Str)(scope:Scope)(N':List Str)(ms:List Bool):Prop where
 kind:scope.kind=.function
 nocell:∀ y∈scope.names,y.2≠.cell
 nm:∀ y∈scope.names,y.2=.local->scope.names.lookup y.1=some .local
 fr:∀ y∈scope.names,y.2=.free->sc0.names.lookup y.1=some .cell\/sc0.names.lookup y.1=some .free
 len:ms.length=N'.length
 own:∀(i:Nat) (x:Str),N'[i]?=some x->ms[i]?=some false->scope.names.lookup x≠some .local
 out:∀(i:Nat) (x:Str),N'[i]?=some x->ms[i]?=some false->scope.names.lookup x=some .free->N[i]?=some x
def kW (N:List Str)(scope:Scope):List Str->List Bool->List (Option Str)->Bool
 |x::N',false::ms,o=>(scope.names.lookup x !=some .local)&&(scope.names.lookup x !=some .free ||o.head?==some (some x))&&kW N scope N' ms o.tail|_::N',true::ms,o=>kW N scope N' ms o.tail|_,_,_=>true
theorem uD:∀(N':List Str) (ms:List Bool) (o:List (Option Str)),kW N scope N' ms o=true->∀(i:Nat) (x:Str),N'[i]?=some x->ms[i]?=some false->
  scope.names.lookup x≠some .local/\(scope.names.lookup x=some .free->o[i]?=some (some x))
 |[],_,_,_,i,x,e,_=>by simp at e
 |_::_,[],_,_,i,x,_,e=>by simp at e
 |y::N',false::ms,o,h,i,x,e1,e2=>by
  simp only[kW,NS,bne_iff_ne,ne_eq,Bool.or_eq_true,OR]at h;cases i with
  |zero=>
   simp at e1;subst e1;refine⟨h.1.1,λq=>?_⟩;rcases h.1.2 with z|z
   ·exact Oa q z
   ·cases o with
    |nil=>simp at z
    |cons a r=>simpa using z
  |succ i=>
   have q:=uD N' ms o.tail h.2 i x (by simpa using e1) (by simpa using e2);refine⟨q.1,λz=>?_⟩;have:=q.2 z;cases o with
   |nil=>simp at this
   |cons a r=>simpa using this
 |y::N',true::ms,o,h,i,x,e1,e2=>by
  simp only[kW]at h;cases i with
  |zero=>simp at e2
  |succ i=>
   have q:=uD N' ms o.tail h i x (by simpa using e1) (by simpa using e2);refine⟨q.1,λz=>?_⟩;have:=q.2 z;cases o with
   |nil=>simp at this
   |cons a r=>simpa using this
variable {sc0:Scope}{N':List Str}{ms:List Bool}
theorem bG.mk'(kind:scope.kind=.function)(nocell:∀ y∈scope.names,y.2≠.cell)(nm:∀ y∈scope.names,y.2=.local->scope.names.lookup y.1=some .local)(fr:∀ y∈scope.names,y.2=.free->sc0.names.lookup y.1=some .cell\/sc0.names.lookup y.1=some .free)(len:ms.length=N'.length)(sl:kW N scope N' ms (N.map some)=true):bG sc0 N scope N' ms:=
 ⟨kind,nocell,nm,fr,len,λi x e1 e2=>(uD N' ms _ sl i x e1 e2).1,λi x e1 e2 e3=>by
  have q:=(uD N' ms _ sl i x e1 e2).2 e3
  rw[aR]at q
  cases h:N[i]? with
  |none=>rw[h]at q;cases q
  |some a=>rw[h]at q;simpa using q⟩
noncomputable def dW (X:Cx) (N':List Str) (scope:Scope) (cl:List (Str×Addr)) (C:Addr) (fp:QW) (s3:Shared) (H3:Hp):Cx where
 prog:=X.prog
 w:=X.w
 K:=X.K
 mg:=X.mg
 base:=X.base
 A:=X.A
 N:=N'
 s₀:=s3
 H₀:=H3
 env:=compEnvC scope cl C X.env
 outer:=X.stack
 stack:=X.stack
 ex:=fp
 fn:=λ_=>false
 calm:=X.calm
 pn:=[]
 xe:=λ_ _=>False
variable {s3 s':Shared}{h':Heap}{C:Addr}{pins' Py:QX}{σ' σ:St}{fp:QW}
section
theorem bG.cells (ok:bG X.env.scope X.N scope N' ms)(k:X.Ok):∀ p∈scope.names,p.2=.free->∃ c,X.env.cells.lookup p.1=some c:=λp hp e=>k.has p.1 (ok.fr p hp e)
theorem nO{c:Addr}(e:(eK X.env scope.names []).lookup x=some c):X.env.cells.lookup x=some c:=DP _ [] (λ_ _ q=>by cases q) x c e
theorem bG.PK(ok:bG X.env.scope X.N scope N' ms)(h:(relabel scope X.env).names.lookup x=some .cell\/(relabel scope X.env).names.lookup x=some .free):scope.names.lookup x=some .free:=by
 rw[EW]at h;cases e:scope.names.lookup x with
 |none=>rw[e]at h;rcases h with h|h<;>cases h
 |some k=>
  rw[e]at h;simp only[Option.map_some,Option.some.injEq]at h;by_cases hk:k=.free
  ·rw[hk]
  ·have hb:(k==NameKind.free)=false:=by simpa using hk
   simp only[hb,OV,Bool.false_eq_true,if_false]at h;rcases h with h|h
   ·exact Oa h (ok.nocell _ (Pl e))
   ·exact Oa h hk
theorem bG.locals(ok:bG X.env.scope X.N scope N' ms)(h:(relabel scope X.env).names.lookup x=some .local):scope.names.lookup x=some .local:=by
 rw[EW]at h;cases e:scope.names.lookup x with
 |none=>rw[e]at h;cases h
 |some k=>
  rw[e]at h;simp only[Option.map_some,Option.some.injEq]at h;split at h
  ·cases h
  ·rw[h]
theorem Hl(ok:bG X.env.scope X.N scope N' ms)(I:am X Py σ H s3)(hf:∀ b∈fp,dg X Py H b/\b<s3.heap.objs.size):
  (dW X N' scope (eK X.env scope.names []) s3.heap.objs.size fp s3 H).Ok where
 mod:=I.ok.mod
 kind:=ok.kind
 glob:=I.ok.glob
 blt:=I.ok.blt
 above:=NV _
 inj:=λx y c h1 h2=>I.ok.inj x y c (nO h1) (nO h2)
 has:=λx hx=>by
  have q:=ok.PK hx
  exact xi _ [] x (ok.cells I.ok) (.inl (Pl q))
 cab:=λx c h=>by cases h
 hd:=I.ok.hd
 frames:=I.ok.frames
 stk:=.inl rfl
 exf:=λb hb=>⟨Ol (hf b hb).2,λx c e=>(hf b hb).1.2.2.2.2.1 x c (nO e)⟩
 bs:=λb o e=>I.bs b o e
 bsz:=Od I.ok.bsz I.sz
 noex:=λb o e hb=>by
  rcases(hf b hb).1.2.2.2.1 with z|z
  ·exact I.ok.noex b o e z
  ·exact Oa (N1 (N1 (Pe e) I.ok.bsz) z) (OX _)
 exfs:=λb hb z=>by
  rcases NP.mp (I.stkSub b z)with e|e
  ·exact(hf b hb).1.2.1 e
  ·exact(hf b hb).1.2.2.1 e
 funs:=I.stack
 frf:=I.stkFree
theorem Dm{s5:Shared}{m:Str->Option Value}(ok:bG X.env.scope X.N scope N' ms)(I:am X Py σ H s5)(hk:∀ b o,s5.heap.get? b=some o->h'.get? b=some o):
  ∀(i:Nat) (x:Str) (v:V),N'[i]?=some x->(ff ms σ)[i]?=some (some v)->oF (relabel scope X.env) x->∃ u,aC v u/\sN (compEnvC scope (eK X.env scope.names []) C X.env) h' m x u:=by
 intro i x v e1 e2 e3;obtain⟨em,ev⟩:=xj e2;rcases e3 with e3|e3
 ·exact Oa (ok.locals e3) (ok.own i x e1 em)
 ·have q:=ok.PK e3;have en:=ok.out i x e1 em q;have fr:=ok.fr _ (Pl q) rfl;obtain⟨m0,_,hl⟩:=I.loc;obtain⟨u,r,l⟩:=hl i x v en ev (.inr fr);nomatch u,r;rcases l with⟨k,_⟩|⟨k,c,e,o,ho,hd⟩
  ·have k':X.env.scope.names.lookup x=some .local:=k;rcases fr with fr|fr
   ·have fr':X.env.scope.names.lookup x=some .cell:=fr;rw[fr']at k';cases k'
   ·have fr':X.env.scope.names.lookup x=some .free:=fr;rw[fr']at k';cases k'
  ·obtain⟨c',hc'⟩:=xi _ [] x (ok.cells I.ok) (.inl (Pl q));have z:=nO hc';rw[e]at z;cases z;exact .inr ⟨e3,c,hc',o,hk c o ho,hd⟩
theorem K1{h4:Heap}{tk:Nat}{m:Str->Option Value}(ok:bG X.env.scope X.N scope N' ms)(I:am X Py σ H s3)(hf:∀ b∈fp,dg X Py H b/\b<s3.heap.objs.size)(hn:h4.Ns s3.heap.objs.size m)(hk:∀ b o,s3.heap.get? b=some o->h4.get? b=some o):
  am (dW X N' scope (eK X.env scope.names []) s3.heap.objs.size fp s3 H) [] (ff ms σ) H {s3 with heap:=h4,toks:=tk} where
 ok:=Hl ok I hf
 os:=rfl
 bare:=I.bare
 base:=Un.kept hk
 loc:=⟨m,hn,Dm ok I hk⟩
 cell:=λx c e=>by
  obtain⟨v,o,ho,hd⟩:=I.cell x c (nO e)
  exact⟨v,o,hk c o ho,hd⟩
 free:=I.hok.fresh (NV _)
 freeC:=λx c e=>I.freeC x c (nO e)
 pin:=λp hp=>Oa (show p∈([]:QX)from hp) (by simp)
 hok:=I.hok.kept hk
 len:=by rw[uG,ok.len];rfl
theorem DO{cl:List (Str×Addr)}(I:am X Py σ H s3)(hf:∀ b∈fp,dg X Py H b/\b<s3.heap.objs.size)(J:am (dW X N' scope cl C fp s3 H) pins' σ' H' s'):am X Py σ H' s':=
 I.call' J.os J.base J.hok J.bare λb hb=>by
  obtain⟨_,f1,_,f3,f4,f5⟩:=(hf b hb).1
  exact⟨f3,f1,f4,f5⟩
theorem K0(ok:bG X.env.scope X.N scope N' ms)(I:am X Py σ H s3)(hf:∀ b∈fp,dg X Py H b/\b<s3.heap.objs.size)(J:am (dW X N' scope (eK X.env scope.names []) s3.heap.objs.size fp s3 H) pins' σ' H' s'):am (dW X N' scope (eK X.env scope.names []) s3.heap.objs.size fp s3 H) [] (ff ms σ) H' s' where
 ok:=J.ok
 os:=J.os
 bare:=J.bare
 base:=J.base
 loc:=by
  obtain⟨m,hn,_⟩:=J.loc
  exact⟨m,hn,Dm ok (DO I hf J) λ_ _ e=>e⟩
 cell:=J.cell
 free:=J.free
 freeC:=J.freeC
 pin:=λp hp=>Oa (show p∈([]:QX)from hp) (by simp)
 hok:=J.hok
 len:=by rw[uG,ok.len];rfl
end
def jq (X:Cx)(ifs:List Expr)(t:TT):Prop:=
 ∀(Py:QX) (s:Shared) (σ:St) (H:Hp) (Q:Bool->Hp->Prop),am X Py σ H s->t σ H Q->
  wpAny (model X.prog X.w) X.A (forIn ifs true λc r=>if r=true then do let ok<-isTrue c X.env (eval c X.env);pure (ForInStep.yield ok)else pure (ForInStep.yield r)) (TP X Py σ Q) X.xe s
def oN:TT:=λ_ H Q=>Q true H
theorem Dl:jq X [] oN:=λ_ _ _ H _ I h=>wpAny_tests_nil ⟨H,I,h⟩
theorem IH{c:Expr}{t:TT}(h:PT X c t):jq X [c] t:=λPy s σ H Q I q=>wpAny_tests_one (h Py s σ H Q I q)
variable {A:Around}{prog:Program}{s:Shared}{elt iter:Expr}{ifs:List Expr}
theorem Kp{R:Result->Shared->Prop}{target:Expr}{it acc:Value}(I:Nat->Shared->Prop)(turn:∀ n s (E:Value->Shared->Prop),I n s->wpAny (model prog w) A (pyNext it) (λr s1=>match r with
   |none=>R (.ok .next) s1
   |some v=>wpAny (model prog w) A (letOwnedTupleGo target it v) (λ_ s2=>wpAny (model prog w) A (assign target env v) (λ_ s3=>
     wpAny (model prog w) A (forIn ifs true λc r=>if r=true then do let ok<-isTrue c env (eval c env);pure (ForInStep.yield ok)else pure (ForInStep.yield r)) (λok s4=>
      if ok=true then wpAny (model prog w) A (eval elt env) (λx s5=>wpAny (model prog w) A (call (.builtin "list.append") [acc,x]) (λ_ s6=>∃ m,m<n/\I m s6) E s5) E s4
      else ∃ m,m<n/\I m s4) E s3) E s2) E s1) E s)(n:Nat)(h:I n s):codeAny (model prog w) A (.compLoop (.ListComp elt [⟨target,iter,ifs,0⟩] scope pos) 0 it acc env) R s:=by
 refine codeAny_loop rfl I (λn s hI=>?_) n h
 refine wpAny_noted (env:=env) ?_
 rw[compTurn_list]
 refine Pc (wpAny_standAt (Pc ?_))
 refine Pi (turn n s _ hI) (λr s1 h1=>?_) λ_ _ e=>e
 cases r with
 |none=>exact Pf h1
 |some v=>
  refine Pc (Pi h1 (λ_ s2 h2=>?_) λ_ _ e=>e)
  refine Pc (Pi h2 (λ_ s3 h3=>?_) λ_ _ e=>e)
  refine Pc (Pi h3 (λok s4 h4=>?_) λ_ _ e=>e)
  cases ok with
  |false=>exact Pf ⟨rfl,h4⟩
  |true=>
   refine Pc (Pc (Pi h4 (λx s5 h5=>?_) λ_ _ e=>e))
   exact Pc (Pi h5 (λ_ s6 h6=>Pf (Pf ⟨rfl,h6⟩)) λ_ _ e=>e)
def nB (ms:List Bool)(wi:TI)(g:TG)(tt:TT)(te:TE):TE:=λσ H Q=>wi σ H λJ H1=>∀ D,H1 D=none->
 ∃ W:Nat->Nat->QV->Hp->Prop,(∃ m,W 0 m [] (upd H1 D (.lst [])))/\∀ i m ys H,W i m ys H->H D=some (.lst ys)/\
  ((J.stop i H/\Q (.ref D) H)\/(J.go i H/\ys.length<sizeLine/\∃ N:QV->Hp->Prop,(∀ ys' H',N ys' H'->∃ m',m'<m/\W (i+1) m' ys' H')/\
   ∀ x H',J.yld i H x H'->g x (ff ms σ) H' λσ2 H2=>tt σ2 H2 λb H3=>if b=true then te σ2 H3 λy H4=>H4 D=some (.lst ys)/\N (ys++[y]) (upd H4 D (.lst (ys++[y])))else N ys H3))
variable {Q:VK}{g:TG}{te:TE}{tt:TT}{wi:TI}{tg:Expr}
section
set_option maxHeartbeats 4000000 in
theorem DN{RR:Value->Addr->Result->Shared->Prop}(hc:X.calm=true)(ok:bG X.env.scope X.N scope N' ms)(hi:PI X tg iter wi)(hg:∀ cl C fp s3 H3,PG (dW X N' scope cl C fp s3 H3) tg g)(ht:∀ cl C fp s3 H3,jq (dW X N' scope cl C fp s3 H3) ifs tt)(he:∀ cl C fp s3 H3,PE (dW X N' scope cl C fp s3 H3) elt te)(I:am X Py σ H s)(h:nB ms wi g tt te σ H Q)(hRR:∀ D C H' s' m,s'.heap.Ns C m->am X Py σ H' s'->dg X Py H' C->Q (.ref D) H'->RR (.ref D) C (.ok .next) s'):
  wpAny (model X.prog X.w) X.A (eval iter X.env) (λx s1=>wpAny (model X.prog X.w) X.A (pyIter x) (λit s2=>wpAny (model X.prog X.w) X.A (newList []) (λacc s3=>
   wpAny (model X.prog X.w) X.A (newFunctionEnv scope X.env.globals (eK X.env scope.names []) [] X.env.qual none .none (some X.env)) (λcenv s4=>
    codeAny (model X.prog X.w) X.A (.compStart (.ListComp elt [⟨tg,iter,ifs,0⟩] scope pos) 0 it acc {cenv with scope:=relabel scope X.env}) (RR acc cenv.locals) s4) X.xe s3) X.xe s2) X.xe s1) X.xe s:=by
 refine aN (hi Py s σ H _ I h) λv s1 h1=>aN h1 λitv s2 h2=>?_;obtain⟨it,fp,tn,J,H2,e,I2,T,st2,f2,h2⟩:=h2;subst e;obtain⟨W,⟨m0,w0⟩,turn⟩:=h2 s2.heap.objs.size I2.fresh;refine Pr ?_;have I3:=I2.lnew (ys:=[]) (its:=[]) (t':=s2.toks) .nil (OF _);generalize hs3:({s2 with heap:=s2.heap.push {cls:=.type "list",data:=.seq ([]:List Value).toArray},toks:=s2.toks}:Shared)=s3 at I3;refine wpAny_newFunctionEnv ok.nocell (by intro y hy;simp at hy) (λh4 hn4 hs4=>?_) ok.kind;have sz:s3.heap.objs.size=s2.heap.objs.size+1:=by rw[<-hs3];exact Heap.size_push ..
 have old2:∀ b o,s2.heap.get? b=some o->s3.heap.get? b=some o:=λb o e=>by rw[<-hs3];exact Pd _ e
 have old:∀ b o,s3.heap.get? b=some o->h4.get? b=some o:=λb o e=>hs4.extBut b o (Ol (Pe e)) (Pd _ e);have fp2:∀ b∈fp,b<s2.heap.objs.size:=λb hb=>by obtain⟨o,ho,_⟩:=T.obj 0 _ st2 b hb;exact Pe ho
 have nD:∀ b∈fp,b≠s2.heap.objs.size:=λb hb=>Ol (fp2 b hb);have f3:∀ b∈fp,dg X Py (upd H2 s2.heap.objs.size (.lst [])) b/\b<s3.heap.objs.size:=λb hb=>by refine⟨⟨?_,(f2 b hb).2⟩,by rw[sz];exact Nat.lt_succ_of_lt (fp2 b hb)⟩;rw[aE (nD b hb)];exact(f2 b hb).1
 have J4:am (dW X N' scope (eK X.env scope.names []) s3.heap.objs.size fp s3 (upd H2 s2.heap.objs.size (.lst []))) [] (ff ms σ) (upd H2 s2.heap.objs.size (.lst [])) {s3 with heap:=h4,toks:=s3.toks+0}:=
  K1 ok I3 f3 hn4 old
 have stat:∀{H':Hp},(∀ b∈fp,H' b=none)->∀ b∈fp,dg (dW X N' scope (eK X.env scope.names []) s3.heap.objs.size fp s3 (upd H2 s2.heap.objs.size (.lst []))) [] H' b:=λhn b hb=>
  ⟨hn b hb,(J4.ok.exf b hb).1,J4.ok.exfs b hb,.inl hb,(J4.ok.exf b hb).2,λp hp=>Oa (show p∈([]:QX)from hp) (by simp)⟩
 have loop:codeAny (model X.prog X.w) X.A (.compLoop (.ListComp elt [⟨tg,iter,ifs,0⟩] scope pos) 0 (.ref it) (.ref s2.heap.objs.size) (compEnvC scope (eK X.env scope.names []) s3.heap.objs.size X.env))
   (RR (.ref s2.heap.objs.size) s3.heap.objs.size) {s3 with heap:=h4,toks:=s3.toks+0}:=by
  refine Kp (λn s'=>∃ i H' ys,am (dW X N' scope (eK X.env scope.names []) s3.heap.objs.size fp s3 (upd H2 s2.heap.objs.size (.lst []))) [] (ff ms σ) H' s'/\tn i s'.heap/\(∀ b∈fp,H' b=none)/\W i n ys H') ?_ m0
   ⟨0,_,[],J4,T.keep 0 _ _ st2 λb hb o e=>old b o (old2 b o e),λb hb=>(f3 b hb).1.1,w0⟩
  rintro n s5 E ⟨i,H5,ys,J5,st5,fr5,w5⟩
  obtain⟨hD,alt⟩:=turn i n ys H5 w5
  rcases alt with⟨stop,q⟩|⟨go,hz,N,hN,step⟩
  ·refine aN (T.done (dW X N' scope (eK X.env scope.names []) s3.heap.objs.size fp s3 (upd H2 s2.heap.objs.size (.lst []))) rfl rfl rfl hc i [] s5 _ H5 E J5 (stat fr5) st5 stop) λr s6 ⟨hr,J6⟩=>?_
   subst hr
   obtain⟨m,hn,_⟩:=id J6.loc
   have I6:=DO I3 f3 J6
   refine hRR _ _ H5 s6 m hn I6 ?_ q
   have hC:H5 s3.heap.objs.size=none:=J6.free
   obtain⟨g0,g1,g2,g3,g4,g5⟩:=I3.fpOk (b:=s3.heap.objs.size) (H':=H5) (NV _) hC
   exact⟨g0,g1,g2,g3,g4,g5⟩
  ·refine aN (T.item (dW X N' scope (eK X.env scope.names []) s3.heap.objs.size fp s3 (upd H2 s2.heap.objs.size (.lst []))) rfl rfl rfl hc i [] s5 _ H5 E J5 (stat fr5) st5 go) λr s6 ⟨u,hr,h6⟩=>?_
   subst hr
   refine aN h6 λ_ s7 ⟨x,H7,J7,r7,y7,st7,fr7⟩=>?_
   have J7':=J7.pinned (stat fr7) (T.obj _ _ st7)
   have again:∀{σ8:St}{H8:Hp}{s8:Shared}{zs:QV},am (dW X N' scope (eK X.env scope.names []) s3.heap.objs.size fp s3 (upd H2 s2.heap.objs.size (.lst []))) ([]++oR fp s7.heap) σ8 H8 s8->N zs H8->
     ∃ m,m<n/\∃ i H' ys,am (dW X N' scope (eK X.env scope.names []) s3.heap.objs.size fp s3 (upd H2 s2.heap.objs.size (.lst []))) [] (ff ms σ) H' s8/\tn i s8.heap/\(∀ b∈fp,H' b=none)/\W i m ys H':=λ{σ8 H8 s8 zs} J8 n8=>by
    obtain⟨m',hm,w8⟩:=hN zs H8 n8
    refine⟨m',hm,i+1,H8,zs,K0 ok I3 f3 J8,T.keep _ _ _ st7 λb hb o e=>(J8.pin (b,o) (N3 _ (N3 _ (uE hb e)))).1,λb hb=>?_,w8⟩
    obtain⟨o,e,d⟩:=T.obj _ _ st7 b hb
    exact(J8.pin (b,o) (N3 _ (N3 _ (uE hb e)))).2.1
   refine Pi (hg _ _ _ _ _ _ s7 _ H7 x u _ J7' r7 (step x H7 y7)) (λ_ s8 ⟨σ8,H8,J8,q8⟩=>?_) λ_ _ z=>Ov z
   refine Pi (ht _ _ _ _ _ _ s8 σ8 H8 _ J8 q8) (λb s9 ⟨H9,J9,q9⟩=>?_) λ_ _ z=>Ov z
   cases b with
   |false=>exact again J9 q9
   |true=>
    refine Pi (he _ _ _ _ _ _ s9 σ8 H9 _ J9 q9) (λv s10 ⟨y,H10,J10,r10,hD10,q10⟩=>?_) λ_ _ z=>Ov z
    refine Pi (ux (X:=(dW X N' scope (eK X.env scope.names []) s3.heap.objs.size fp s3 (upd H2 s2.heap.objs.size (.lst [])))) _ s10 σ8 H10 (.ref s2.heap.objs.size) [y] (.ref s2.heap.objs.size) [v] (λ_ H'=>H'=upd H10 s2.heap.objs.size (.lst (ys++[y]))) J10 rfl (.cons r10 .nil) ⟨_,ys,y,rfl,rfl,hD10,hz,rfl⟩)
     (λ_ s11 ⟨_,H11,J11,_,e11⟩=>?_) λ_ _ z=>Ov z
    subst e11
    exact again J11 q10
 exact codeAny_compStart_list loop (T.self _ 0 _ _ _ (T.keep 0 _ _ st2 λb hb o e=>old b o (old2 b o e)) loop)
theorem C0 (hc:X.calm=true)(ok:bG X.env.scope X.N scope N' ms)(hi:PI X tg iter wi)
  (hg:∀ cl C fp s3 H3,PG (dW X N' scope cl C fp s3 H3) tg g) (ht:∀ cl C fp s3 H3,jq (dW X N' scope cl C fp s3 H3) ifs tt) (he:∀ cl C fp s3 H3,PE (dW X N' scope cl C fp s3 H3) elt te)
  (hs:autoParam (∀ x,foldedSetIterable iter X.env x=pure x) lJ):PE X (.ListComp elt [⟨tg,iter,ifs,0⟩] scope pos) (nB ms wi g tt te):=by intro Py s σ H Q I h;rw[eval_ListComp];refine wpAny_comprehension_free (use:=none) rfl hs (CO (ok.cells I.ok)) ok.kind ok.nm ?_;refine DN (RR:=λacc C=>compPost (model X.prog X.w) X.A X.xe none (EP X Py σ Q) acc C) hc ok hi hg ht he I h λD C H' s' m hn I' ⟨g0,g1,g2,g3,g4,g5⟩ q=>?_;refine⟨m,hn,λh' sb=>⟨.ref D,H',?_,rfl,q⟩⟩;exact I'.turned (t':=s'.toks) (λb o hb e=>sb.extBut b o hb e) g0 g1 g3 g4 g5
theorem KZ{y:Str}{py spos:Pos}(hN:X.N.Nodup)(hy:X.N[i]?=some y)(hl:X.env.scope.names.lookup y=some .local)(hc:X.calm=true)(ok:bG X.env.scope X.N scope N' ms)(hi:PI X tg iter wi)(hg:∀ cl C fp s3 H3,PG (dW X N' scope cl C fp s3 H3) tg g)(ht:∀ cl C fp s3 H3,jq (dW X N' scope cl C fp s3 H3) ifs tt)(he:∀ cl C fp s3 H3,PE (dW X N' scope cl C fp s3 H3) elt te)(hsw:⇑(swapsWith (.ListComp elt [⟨tg,iter,ifs,0⟩] scope pos) (some (.Name y py)) spos.line X.env=pure true))(hs:autoParam (∀ x,foldedSetIterable iter X.env x=pure x) lJ):PS X (.Assign [.Name y py] (.ListComp elt [⟨tg,iter,ifs,0⟩] scope pos) spos) (ir (nB ms wi g tt te) (lY i)):=by
 intro Py s σ H D I h;rw[exec_Assign_Name_used _ _ _ _ hsw];refine Pc (wpAny_standAt (Pc ?_));show wpAny _ _ (do let _<-comprehension (.ListComp elt [⟨tg,iter,ifs,0⟩] scope pos) scope X.env _ (newList []) false (eval iter X.env) (some (assign (.Name y py) X.env))) _ _ s;refine Pc (Pi (wpAny_comprehension_free (use:=some (assign (.Name y py) X.env)) (Q:=λ_ s'=>SP X Py D .next s') rfl hs (CO (ok.cells I.ok)) ok.kind ok.nm ?_) (λ_ s' q=>Pf (Pf q)) λ_ _ e=>e);refine DN (RR:=λacc C=>compPost (model X.prog X.w) X.A X.xe (some (assign (.Name y py) X.env)) (λ_ s'=>SP X Py D .next s') acc C) hc ok hi hg ht he I h λDa C H' s' m hn I' ⟨g0,g1,g2,g3,g4,g5⟩ q=>?_;show wpAny _ _ (assign (.Name y py) X.env (.ref Da)) _ _ s';refine wpAny_assign_Name (DZ I' hN hy (.inl hl) (show aC (.ref Da) (.ref Da)from rfl) (λs'' I'' ⟨a,sa,ha⟩=>?_) (.inr hl));have hCa:C≠a:=by
  rcases ha with e|e
  ·rw[e];exact g1
  ·exact λz=>g4 y a e z.symm
 refine⟨m,hn.sameBut sa hCa,λh' sb=>⟨σ.set i (some (.ref Da)),H',?_,q⟩⟩;exact I''.turned (t':=s''.toks) (λb o hb e=>sb.extBut b o hb e) g0 g1 g3 g4 g5
end
section
variable {t':Nat}
theorem am.turnedN {ch:QW}(I:am X Py σ H s)(hch:∀ b∈ch,dg X Py H b)(k:∀ b o,b∉ch->s.heap.get? b=some o->h'.get? b=some o):am X Py σ H {s with heap:=h',toks:=t'}:=by
 have nit:∀ b u,H b=some u->b∉ch:=λb u e z=>by rw[(hch b z).1]at e;cases e
 refine I.step (g':=s.gens) (d':=s.drawn) (ch:=ch) (λb hb=>?_) (λb o _ _ hc e _=>k b o hc e) (λb o _ _ hc e _=>⟨o.slots,k b o hc e⟩) (λ_ _ _ _ n=>n) (λb o hc e=>⟨o,k b o hc e⟩) (λ_ _ e=>e) (λ_ _ _ e=>e)
  (λb ps e=>⟨#[],by rw[e];simp⟩) (λm hm=>?_) (λb u e=>?_) I.bare
 ·obtain⟨_,f1,_,f3,f4,f5⟩:=hch b hb;exact⟨f3,f1,f4,f5⟩
 ·obtain⟨o,es,ep,ho,r⟩:=hm;exact⟨o,es,ep,k _ o (λz=>(hch _ z).2.1 rfl) ho,r⟩
 ·refine(I.hok b u e).stay (λc v hc q=>k c v ?_ q) (λ_ q=>q) λ_ _ q=>q;rcases hc with z|z
  ·rw[z];exact nit b u e
  ·exact nit c _ z
end
variable {h:Heap}{b:Addr}
theorem KY{o u:Obj}(e1:h.get? a=some o)(e2:h.get? b=some u)(d:o.cls≠u.cls):a≠b:=λz=>by subst z;rw[e1]at e2;cases e2;exact d rfl
variable {T:String}
theorem lq{its:Array Value}{u:Obj}(e1:h.IsList a its)(e2:h.get? b=some u)(c:u.cls=.type T)(d:T≠"list"):a≠b:=by obtain⟨o,ho,hc,_⟩:=e1;refine KY ho e2 ?_;rw[hc,c];intro z;injection z with z;exact d z.symm
def u9 (K:Fg)(a b:Addr):It:=
  ⟨λi H=>∃ xs ys x y,ar K H a xs/\ar K H b ys/\xs[i]?=some x/\ys[i]?=some y,
   λi H v H'=>∃ T,H T=none/\v=.ref T/\∀ xs ys x y,ar K H a xs->ar K H b ys->xs[i]?=some x->ys[i]?=some y->H'=upd H T (.tup [x,y]),
   λi H=>∃ xs ys,ar K H a xs/\ar K H b ys/\(xs[i]?=none\/ys[i]?=none)⟩
structure zV (z TI TO i1 i2:Addr):Prop where
 a1:TI≠z
 a2:TO≠z
 a3:i1≠z
 a4:i2≠z
 a5:TI≠TO
 a6:TI≠i1
 a7:TI≠i2
 a8:TO≠i1
 a9:TO≠i2
 a10:i1≠i2
theorem Hk (n:Nat):zV (n+4) (n+2) (n+3) n (n+1):=by constructor<;>(show(_:Nat)≠_;omega)
def BF (z TI TO i1 i2 a b:Addr)(i:Nat)(h:Heap):Prop:=IsZip h z TI TO .none/\IsPair h TI (.ref i1) (.ref i2)/\(∃ p q,IsPair h TO p q)/\h.IsListIter i1 a i/\h.IsListIter i2 b i
variable {z i1 i2:Addr}
theorem Cf{TI TO:Addr}{xs ys:Array Value}(D:zV z TI TO i1 i2)(t:BF z TI TO i1 i2 a b i h)(hx:h.IsList a xs)(hy:h.IsList b ys):ZipApart z TI TO i1 i2 a b:=by obtain⟨hz,hI,⟨p,q,hO⟩,⟨o1,e1,c1,_⟩,⟨o2,e2,c2,_⟩⟩:=t;exact⟨D.a1,D.a2,D.a3,D.a4,D.a5,D.a6,D.a7,D.a8,D.a9,D.a10,lq hx hz rfl (by decide),lq hx hO rfl (by decide),lq hx e1 c1 (by decide),lq hx e2 c2 (by decide),lq hy hz rfl (by decide),lq hy hO rfl (by decide),lq hy e1 c1 (by decide),lq hy e2 c2 (by decide)⟩
variable {elts:List Expr}{kx:Nat}{tpos:Pos}
theorem IG{TI TO:Addr}(a b:Addr)(D:zV z TI TO i1 i2):
  iD P w K (.Tuple elts kx tpos) (u9 K a b) [z,TI,TO,i1,i2] z (BF z TI TO i1 i2 a b) where
 mem:=by simp
 obj:=λi h st c hb=>by
  obtain⟨hz,hI,⟨p,q,hO⟩,⟨o1,e1,c1,d1⟩,⟨o2,e2,c2,d2⟩⟩:=st
  push_cast at hb
  rcases hb with rfl|rfl|rfl|rfl|rfl
  ·exact⟨_,hz,λv x=>by cases x⟩
  ·exact⟨_,hI,λv x=>by cases x⟩
  ·exact⟨_,hO,λv x=>by cases x⟩
  ·exact⟨_,e1,λv x=>by rw[d1]at x;cases x⟩
  ·exact⟨_,e2,λv x=>by rw[d2]at x;cases x⟩
 keep:=λi h h' st k=>by
  obtain⟨hz,hI,⟨p,q,hO⟩,h1,h2⟩:=st
  exact⟨k z (by simp) _ hz,k TI (by simp) _ hI,⟨p,q,k TO (by simp) _ hO⟩,h1.at λo e=>k i1 (by simp) o e,h2.at λo e=>k i2 (by simp) o e⟩
 item:=by
  intro X hP hw hK hc i Py s σ H E I hf st hg
  subst hP hw hK
  obtain⟨xs,ys,x,y,hx,hy,ex,ey⟩:=hg
  obtain⟨its,rx,px,zx⟩:=I.list hx
  obtain⟨jts,ry,py,zy⟩:=I.list hy
  obtain⟨u,eu,ru⟩:=rx.get ex
  obtain⟨v,ev,rv⟩:=ry.get ey
  have Z:=Cf D st px.isList py.isList
  obtain⟨hz,hI,⟨p,q,hO⟩,h1,h2⟩:=id st
  refine wpAny_pyNext_zip_item Z hz hI hO h1 h2 px.isList py.isList (x:=u) (y:=v) (by simpa using eu) (by simpa using ev) λh' z1 o1 l1 l2 t1 sz k1=>?_
  refine⟨_,rfl,wpAny_letOwnedTupleGo_zip (s:={s with heap:=h'}) z1 λh'' z2 sb=>?_⟩
  have nT:H s.heap.objs.size=none:=I.hok.fresh (NV _)
  have IT:am X Py σ (upd H s.heap.objs.size (.tup [x,y])) {s with heap:=s.heap.push {cls:=.type "tuple",data:=.seq #[u,v]},toks:=s.toks}:=
   I.laid (λb o e=>Pd _ e) (NV _) (show c_ X.prog X.w _ _ _ (.tup [x,y])from⟨by show 2<=sizeLine;decide,[u,v],.cons ru (.cons rv .nil),IsTup.new _ _⟩)
  have nz:z≠s.heap.objs.size:=Ol (Pe hz)
  have fT:∀ c∈[z,TI,TO,i1,i2],dg X Py (upd H s.heap.objs.size (.tup [x,y])) c:=λc hcm=>by
   obtain⟨g0,gr⟩:=hf c hcm
   refine⟨?_,gr⟩
   obtain⟨o,ho,_⟩:∃ o,s.heap.get? c=some o/\True:=by
    push_cast at hcm
    rcases hcm with rfl|rfl|rfl|rfl|rfl
    ·exact⟨_,hz,trivial⟩
    ·exact⟨_,hI,trivial⟩
    ·exact⟨_,hO,trivial⟩
    ·obtain⟨o,e,_⟩:=h1;exact⟨o,e,trivial⟩
    ·obtain⟨o,e,_⟩:=h2;exact⟨o,e,trivial⟩
   rw[aE (Ol (Pe ho))]
   exact g0
  have up:∀ c o,c∉[z,TI,TO,i1,i2]->(s.heap.push {cls:=.type "tuple",data:=.seq #[u,v]}).get? c=some o->h''.get? c=some o:=λc o hn e=>by
   simp only[NP,NT,Of,OZ]at hn
   refine sb.extBut c o hn.1 ?_
   by_cases hcs:c=s.heap.objs.size
   ·subst hcs
    rw[Ph _ rfl]at e
    cases e
    exact t1
   ·refine k1 c o hn.1 hn.2.2.1 hn.2.2.2.1 hn.2.2.2.2 ?_
    rw[Heap.get?_push_ne _ _ _ hcs]at e
    exact e
  refine⟨.ref s.heap.objs.size,_,IT.turnedN (h':=h'') (t':=s.toks) fT up,rfl,⟨_,nT,rfl,λxs' ys' x' y' q1 q2 q3 q4=>?_⟩,?_,λc hcm=>(fT c hcm).1⟩
  ·rw[I.list_inj q1 hx,ex]at q3
   rw[I.list_inj q2 hy,ey]at q4
   cases q3;cases q4;rfl
  ·refine⟨z2,sb.extBut _ _ D.a1 (k1 _ _ D.a1 D.a5 D.a6 D.a7 hI),⟨_,_,sb.extBut _ _ D.a2 o1⟩,l1.extBut sb.extBut D.a3,l2.extBut sb.extBut D.a4⟩
 done:=by
  intro X hP hw hK hc i Py s σ H E I hf st hg
  subst hP hw hK
  obtain⟨xs,ys,hx,hy,en⟩:=hg
  obtain⟨its,rx,px,zx⟩:=I.list hx
  obtain⟨jts,ry,py,zy⟩:=I.list hy
  have Z:=Cf D st px.isList py.isList
  obtain⟨hz,hI,⟨p,q,hO⟩,h1,h2⟩:=id st
  have en':its.toArray[i]?=none\/jts.toArray[i]?=none:=by
   rcases en with e|e
   ·exact .inl (by simpa using rx.none_of e)
   ·exact .inr (by simpa using ry.none_of e)
  exact wpAny_pyNext_zip_end (I.ok.hd hc) Z hz hI hO h1 h2 px.isList py.isList en' λh' k1=>⟨rfl,I.turnedN (t':=s.toks) hf λc o hn e=>by
   simp only[NP,NT,Of,OZ]at hn
   exact k1 c o hn.1 hn.2.2.1 hn.2.2.2.1 hn.2.2.2.2 e⟩
 self:=λ_ _ _ _ _ st h=>wpAny_pyIter_zip st.1 h
def mX (K:Fg)(ta:TA):TI:=λσ H R=>ta σ H λvs H1=>∃ a b,vs=[.ref a,.ref b]/\(∃ xs,ar K H1 a xs)/\(∃ ys,ar K H1 b ys)/\R (u9 K a b) H1
theorem IE:bootBuiltins "zip"=some (.type "zip"):=by decide+kernel
theorem MN:bootBuiltins "enumerate"=some (.type "enumerate"):=by decide+kernel
variable {p:Pos}
section
theorem GH{a b:Expr}{ta:TA}(hg:Gl X "zip")(hm:X.mg "zip"=none)(ha:PA X [a,b] ta)(hs:⇑(starEach [a,b] X.env=[(false,eval a X.env),(false,eval b X.env)]))(hs2:⇑(starEach [b] X.env=[(false,eval b X.env)])):
  PI X (.Tuple elts kx tpos) (.Call (.Name "zip" p) [a,b] [] pos) (mX X.K ta):=by
 intro Py s σ H R I h;refine Call_ (nR I hg hm IE (PyProof.Rows.callWith_type1 (aN (ha pos Py s σ H _ I h) λus s1 ⟨vs,H1,I1,r1,q1⟩=>?_) (by rw[hs,hs2]) (by rw[hs2];rfl)));obtain⟨l1,l2,e,⟨xs,hx⟩,⟨ys,hy⟩,q⟩:=q1;subst e;obtain⟨u,v,e,ru,rv⟩:=r1.two;subst e;cases ru;cases rv;obtain⟨its,rx,px,zx⟩:=I1.list hx;obtain⟨jts,ry,py,zy⟩:=I1.list hy;refine call_zip_2 px.isList py.isList λh' z1 p1 p2 i1 i2 sz k=>?_;refine wpAny_pyIter_zip (s:={s1 with heap:=h'}) z1 ?_;have I2:am X Py σ H1 {s1 with heap:=h',toks:=s1.toks}:=I1.kept k;have D:=Hk s1.heap.objs.size;refine⟨_,_,_,_,H1,rfl,I2,IG l1 l2 D,⟨z1,p1,⟨_,_,p2⟩,i1,i2⟩,λc hc=>?_,q⟩;have le:s1.heap.objs.size<=c:=by
  push_cast at hc;first
   |(rcases hc with rfl|rfl|rfl|rfl|rfl<;>first|exact NV _|exact Nat.le_add_right _ _)
   |(rcases hc with rfl|rfl<;>first|exact NV _|exact Nat.le_add_right _ _)
 exact I1.fpOk le (I1.hok.fresh le)
end
def vc (K:Fg)(a:Addr):It:=
  ⟨λi H=>∃ xs x,ar K H a xs/\xs[i]?=some x,
   λi H v H'=>∃ T,H T=none/\v=.ref T/\∀ xs x,ar K H a xs->xs[i]?=some x->H'=upd H T (.tup [.int i,x]),
   λi H=>∃ xs,ar K H a xs/\xs.length<=i⟩
def GG (e it a:Addr)(i:Nat)(h:Heap):Prop:=(∃ old,IsEnum h e it ((i:Nat):Int) old)/\h.IsListIter it a i
theorem KH{e it:Addr}(a:Addr)(D:e≠it):
  iD P w K (.Tuple elts kx tpos) (vc K a) [e,it] e (GG e it a) where
 mem:=by simp
 obj:=λi h st c hb=>by
  obtain⟨⟨old,he⟩,⟨o1,e1,c1,d1⟩⟩:=st
  push_cast at hb
  rcases hb with rfl|rfl
  ·exact⟨_,he,λv x=>by cases x⟩
  ·exact⟨_,e1,λv x=>by rw[d1]at x;cases x⟩
 keep:=λi h h' st k=>by
  obtain⟨⟨old,he⟩,h1⟩:=st
  exact⟨⟨old,k e (by simp) _ he⟩,h1.at λo e=>k it (by simp) o e⟩
 item:=by
  intro X hP hw hK hc i Py s σ H E I hf st hg
  subst hP hw hK
  obtain⟨xs,x,hx,ex⟩:=hg
  obtain⟨its,rx,px,zx⟩:=I.list hx
  obtain⟨u,eu,ru⟩:=rx.get ex
  obtain⟨⟨old,he⟩,h1⟩:=id st
  refine wpAny_pyNext_enum_item he h1 px.isList (x:=u) (by simpa using eu) D λh' z1 l1 t1 sz k1=>?_
  refine⟨_,rfl,wpAny_letOwnedTupleGo_enum (s:={s with heap:=h',toks:=s.toks+1}) z1 λh'' z2 sb=>?_⟩
  have nT:H s.heap.objs.size=none:=I.hok.fresh (NV _)
  have IT:am X Py σ (upd H s.heap.objs.size (.tup [.int i,x])) {s with heap:=s.heap.push {cls:=.type "tuple",data:=.seq #[.int i s.toks,u]},toks:=s.toks}:=
   I.laid (λb o e=>Pd _ e) (NV _) (show c_ X.prog X.w _ _ _ (.tup [.int i,x])from⟨by show 2<=sizeLine;decide,[.int i s.toks,u],.cons ⟨_,rfl⟩ (.cons ru .nil),IsTup.new _ _⟩)
  have fT:∀ c∈[e,it],dg X Py (upd H s.heap.objs.size (.tup [.int i,x])) c:=λc hcm=>by
   obtain⟨g0,gr⟩:=hf c hcm
   refine⟨?_,gr⟩
   obtain⟨o,ho,_⟩:∃ o,s.heap.get? c=some o/\True:=by
    push_cast at hcm
    rcases hcm with rfl|rfl
    ·exact⟨_,he,trivial⟩
    ·obtain⟨o,e,_⟩:=h1;exact⟨o,e,trivial⟩
   rw[aE (Ol (Pe ho))]
   exact g0
  have up:∀ c o,c∉[e,it]->(s.heap.push {cls:=.type "tuple",data:=.seq #[.int i s.toks,u]}).get? c=some o->h''.get? c=some o:=λc o hn e2=>by
   simp only[NP,NT,Of,OZ]at hn
   refine sb.extBut c o hn.1 ?_
   by_cases hcs:c=s.heap.objs.size
   ·subst hcs
    rw[Ph _ rfl]at e2
    cases e2
    exact t1
   ·refine k1 c o hn.1 hn.2 ?_
    rw[Heap.get?_push_ne _ _ _ hcs]at e2
    exact e2
  refine⟨.ref s.heap.objs.size,_,IT.turnedN (h':=h'') (t':=s.toks+1) fT up,rfl,⟨_,nT,rfl,λxs' x' q1 q3=>?_⟩,?_,λc hcm=>(fT c hcm).1⟩
  ·rw[I.list_inj q1 hx,ex]at q3
   cases q3;rfl
  ·refine⟨⟨_,by rw[show(((i+1:Nat):Nat):Int)=(i:Int)+1 by omega];exact z2⟩,l1.extBut sb.extBut (Ne.symm D)⟩
 done:=by
  intro X hP hw hK hc i Py s σ H E I hf st hg
  subst hP hw hK
  obtain⟨xs,hx,en⟩:=hg
  obtain⟨its,rx,px,zx⟩:=I.list hx
  obtain⟨⟨old,he⟩,h1⟩:=id st
  have hl:=rx.length
  exact wpAny_pyNext_enum_end (I.ok.hd hc) he h1 px.isList (by simp;omega) λh' k1=>⟨rfl,I.turnedN (t':=s.toks) hf λc o hn e2=>by
   simp only[NP,NT,Of,OZ]at hn
   exact k1 c o hn.2 e2⟩
 self:=λ_ _ _ _ _ st h=>by
  obtain⟨⟨old,he⟩,_⟩:=st
  exact wpAny_pyIter_enum he h
def vh (K:Fg)(ta:TA):TI:=λσ H R=>ta σ H λvs H1=>∃ a xs,vs=[.ref a]/\H1 a=some (.lst xs)/\R (vc K a) H1
section
theorem Hj{a:Expr}{ta:TA}(hg:Gl X "enumerate")(hm:X.mg "enumerate"=none)(ha:PA X [a] ta)(hs:⇑(starEach [a] X.env=[(false,eval a X.env)])):
  PI X (.Tuple elts kx tpos) (.Call (.Name "enumerate" p) [a] [] pos) (vh X.K ta):=by
 intro Py s σ H R I h;refine Call_ (nR I hg hm MN (PyProof.Rows.callWith_type1 (aN (ha pos Py s σ H _ I h) λus s1 ⟨vs,H1,I1,r1,q1⟩=>?_) hs rfl));obtain⟨l1,xs,e,hx,q⟩:=q1;subst e;obtain⟨u,e,ru⟩:=jz r1;subst e;cases ru;obtain⟨z,its,n,r,hl,e⟩:=I1.lstM hx;refine call_enumerate_1 e λh' z1 i1 sz k=>?_;refine wpAny_pyIter_enum (s:={s1 with heap:=h'}) z1 ?_;have I2:am X Py σ H1 {s1 with heap:=h',toks:=s1.toks}:=I1.kept k;refine⟨_,_,_,_,H1,rfl,I2,KH l1 (e:=s1.heap.objs.size+1) (it:=s1.heap.objs.size) (Nat.succ_ne_self _),⟨⟨_,z1⟩,i1⟩,λc hc=>?_,q⟩;have le:s1.heap.objs.size<=c:=by
  push_cast at hc;first
   |(rcases hc with rfl|rfl|rfl|rfl|rfl<;>first|exact NV _|exact Nat.le_add_right _ _)
   |(rcases hc with rfl|rfl<;>first|exact NV _|exact Nat.le_add_right _ _)
 exact I1.fpOk le (I1.hok.fresh le)
end
section
theorem DM{bs:List Bool}{its:List Value}(r:ax (bs.map V.bl) its){v:Value}(e:its[i]?=some v):∃ b,bs[i]?=some b/\v=.bool b:=by
 have hl:=r.length;rw[aV]at hl;have hi:i<bs.length:=by have:=(dF.mp e).1;omega
 obtain⟨u,hu,ru⟩:=r.get (i:=i) (x:=V.bl bs[i]) (by simp[hi]);rw[e]at hu;cases hu;exact⟨bs[i],by simp[hi],ru⟩
theorem KG{bs:List Bool}(h:n=bs.length):(List.range n).all (λi=>bs[i]?.getD false)=bs.all id:=by
 subst h;rw[OJ];simp only[On,List.mem_range,id];constructor
 ·intro q x hx;obtain⟨i,hi,rfl⟩:=List.getElem_of_mem hx;have:=q i hi;simpa[hi]using this
 ·intro q i hi;simpa[hi]using q bs[i] (Om hi)
theorem KF{bs:List Bool}(h:n=bs.length):(List.range n).any (λi=>bs[i]?.getD false)=bs.any id:=by
 subst h;rw[OJ];simp only[List.any_eq_true,List.mem_range,id];constructor
 ·rintro⟨i,hi,q⟩;exact⟨bs[i],Om hi,by simpa[hi]using q⟩
 ·rintro⟨x,hx,q⟩;obtain⟨i,hi,rfl⟩:=List.getElem_of_mem hx;exact⟨i,hi,by simpa[hi]using q⟩
theorem ID (hc:X.calm=true):dD X (.builtin "all") (λxs H Q=>∃(p:Addr) (bs:List Bool),xs=[.ref p]/\ar X.K H p (bs.map V.bl)/\Q (.bl (bs.all id)) H):=by
 intro Py s σ H xs us Q I r h;obtain⟨p,bs,rfl,hq,q⟩:=h;obtain⟨u,rfl,rx⟩:=jz r;cases rx;obtain⟨its,rv,pl,hz⟩:=I.list hq;have hl:=rv.length;rw[aV]at hl;refine call_all_walk (wpAny_pyIter_list pl.isList ?_);have hne:p≠s.heap.objs.size:=by obtain⟨o,ho,_⟩:=pl.isList;exact Ol (Pe ho)
 refine⟨s.heap.objs.size,_,_,_,_,_,λi=>bs[i]?.getD false,rfl,Walks.list (show X.A.in1.handled=none from I.ok.hd hc) s.heap.objs.size p hne its.toArray,⟨⟨_,Ph _ rfl,rfl,rfl⟩,Heap.IsList.push pl.isList _⟩,λi v s' Q' E' hP hQ=>?_,λh' tk hk=>?_⟩
 ·obtain⟨b,hb,rfl⟩:=DM rv (i:=i) (v:=v) (by simpa using hP);refine Pj ?_;simpa[hb]using hQ
 ·rw[KG (by rw[bM];exact hl.symm)];refine⟨.bl _,H,I.kept λb o e=>hk b o ?_ (Pd _ e),rfl,q⟩;simp only[NP,NT,Of];exact Ol (Pe e)
theorem IC (hc:X.calm=true):dD X (.builtin "any") (λxs H Q=>∃(p:Addr) (bs:List Bool),xs=[.ref p]/\ar X.K H p (bs.map V.bl)/\Q (.bl (bs.any id)) H):=by
 intro Py s σ H xs us Q I r h;obtain⟨p,bs,rfl,hq,q⟩:=h;obtain⟨u,rfl,rx⟩:=jz r;cases rx;obtain⟨its,rv,pl,hz⟩:=I.list hq;have hl:=rv.length;rw[aV]at hl;refine call_any_walk (wpAny_pyIter_list pl.isList ?_);have hne:p≠s.heap.objs.size:=by obtain⟨o,ho,_⟩:=pl.isList;exact Ol (Pe ho)
 refine⟨s.heap.objs.size,_,_,_,_,_,λi=>bs[i]?.getD false,rfl,Walks.list (show X.A.in1.handled=none from I.ok.hd hc) s.heap.objs.size p hne its.toArray,⟨⟨_,Ph _ rfl,rfl,rfl⟩,Heap.IsList.push pl.isList _⟩,λi v s' Q' E' hP hQ=>?_,λh' tk hk=>?_⟩
 ·obtain⟨b,hb,rfl⟩:=DM rv (i:=i) (v:=v) (by simpa using hP);refine Pj ?_;simpa[hb]using hQ
 ·rw[KF (by rw[bM];exact hl.symm)];refine⟨.bl _,H,I.kept λb o e=>hk b o ?_ (Pd _ e),rfl,q⟩;simp only[NP,NT,Of];exact Ol (Pe e)
end
open PySem.SeqAt
inductive D where
 |non|bl (b:Bool)|int (i:Int)|str (x:Str)|lst (xs:List D)|tup (xs:List D)
mutual
def dM:D->Nat
 |.lst xs=>cN xs+1|.tup xs=>cN xs+1|_=>0
def cN:List D->Nat
 |[]=>0|d::ds=>max (dM d) (cN ds)
end
mutual
def aF:D->D->Bool
 |.non,.non=>true|.bl a,.bl b=>a==b|.int a,.int b=>a==b|.bl a,.int b=>(if a then 1 else 0)==b|.int a,.bl b=>a==(if b then 1 else 0)|.str a,.str b=>a==b|.lst xs,.lst ys=>dm xs ys|.tup xs,.tup ys=>dm xs ys|_,_=>false
def dm:List D->List D->Bool
 |[],[]=>true|x::xs,y::ys=>aF x y&&dm xs ys|_,_=>false
end
mutual
def aq (K:Fg)(H:Hp):D->V->Prop
 |.non,v=>v=.non|.bl b,v=>v=.bl b|.int i,v=>v=.int i|.str x,v=>v=.str x|.lst ds,v=>∃ a xs,v=.ref a/\ar K H a xs/\av K H ds xs|.tup ds,v=>∃ a xs,v=.ref a/\aH K H a xs/\av K H ds xs
def av (K:Fg)(H:Hp):List D->QV->Prop
 |[],vs=>vs=[]|d::ds,vs=>∃ v r,vs=v::r/\aq K H d v/\av K H ds r
end
theorem oj:∀{ds:List D}{d:D},d∈ds->dM d<=cN ds
 |d::ds,e,h=>by
  rcases NP.mp h with h|h
  ·subst h;unfold cN;exact Nat.le_max_left _ _
  ·have:=oj h;unfold cN;exact Od this (Nat.le_max_right _ _)
theorem av.length:∀{ds:List D}{vs:QV},av K H ds vs->ds.length=vs.length
 |[],vs,h=>by unfold av at h;subst h;rfl|d::ds,vs,h=>by unfold av at h;obtain⟨v,r,rfl,_,h⟩:=h;simp[av.length h]
theorem av.get:∀{ds:List D}{vs:QV}{i:Nat}{d:D},av K H ds vs->ds[i]?=some d->∃ v,vs[i]?=some v/\aq K H d v
 |[],vs,i,d,h,e=>by simp at e
 |c::ds,vs,i,d,h,e=>by
  unfold av at h;obtain⟨v,r,rfl,h1,h⟩:=h;cases i with
  |zero=>simp at e;subst e;exact⟨v,rfl,h1⟩
  |succ i=>obtain⟨w,e1,e2⟩:=av.get h (show ds[i]?=some d by simpa using e);exact⟨w,by simpa using e1,e2⟩
variable {vs:QV}{ds:List D}
theorem av.get'(h:av K H ds vs)(e:vs[i]?=some v):∃ d,ds[i]?=some d/\aq K H d v:=by have hl:=h.length;have hi:=(dF.mp e).1;obtain⟨w,e1,e2⟩:=h.get (i:=i) (d:=ds[i]) (by simp);rw[e]at e1;cases e1;exact⟨ds[i],by simp,e2⟩
theorem av.of:∀{ds:List D}{vs:QV},ds.length=vs.length->(∀(i:Nat) d v,ds[i]?=some d->vs[i]?=some v->aq K H d v)->av K H ds vs
 |[],[],_,_=>by unfold av;rfl|d::ds,v::vs,hl,h=>by unfold av;exact⟨v,vs,rfl,h 0 d v rfl rfl,av.of (by simpa using hl) λi e w e1 e2=>h (i+1) e w (by simpa using e1) (by simpa using e2)⟩
theorem av.ints:∀{ns:QS}{vs:QV},av K H (ns.map D.int) vs↔vs=ns.map V.int
 |[],vs=>by unfold List.map av;rfl|n::ns,vs=>by
  rw[bw];unfold av;constructor
  ·rintro⟨v,r,rfl,h1,h⟩;unfold aq at h1;subst h1;rw[av.ints.mp h];rfl
  ·rintro rfl;exact⟨_,_,rfl,by unfold aq;rfl,av.ints.mpr rfl⟩
theorem ae.tup(e:ae H H')(h:aH K H a xs):aH K H' a xs:=by
 rcases h with(h|⟨o,h⟩)|h
 ·exact .inl (.inl (e _ _ h))
 ·exact .inl (.inr ⟨o,e _ _ h⟩)
 ·exact .inr h
mutual
theorem aq.same {K:Fg}{H H':Hp}(e:ae H H'):∀(d:D) {v:V},aq K H d v->aq K H' d v
 |.non,_,h=>by unfold aq at*;exact h|.bl _,_,h=>by unfold aq at*;exact h|.int _,_,h=>by unfold aq at*;exact h|.str _,_,h=>by unfold aq at*;exact h|.lst ds,_,h=>by unfold aq at*;obtain⟨a,xs,h1,h2,h3⟩:=h;exact⟨a,xs,h1,e.seq h2,av.same e ds h3⟩|.tup ds,_,h=>by unfold aq at*;obtain⟨a,xs,h1,h2,h3⟩:=h;exact⟨a,xs,h1,e.tup h2,av.same e ds h3⟩
theorem av.same {K:Fg}{H H':Hp}(e:ae H H'):∀(ds:List D) {vs:QV},av K H ds vs->av K H' ds vs
 |[],_,h=>by unfold av at*;exact h|d::ds,_,h=>by unfold av at*;obtain⟨v,r,h1,h2,h3⟩:=h;exact⟨v,r,h1,aq.same e d h2,av.same e ds h3⟩
end
mutual
theorem uw:∀ d:D,aF d d=true
 |.non=>by unfold aF;rfl|.bl _=>by unfold aF;simp|.int _=>by unfold aF;simp|.str _=>by unfold aF;simp|.lst ds=>by unfold aF;exact xN ds|.tup ds=>by unfold aF;exact xN ds
theorem xN:∀ ds:List D,dm ds ds=true
 |[]=>by unfold dm;rfl|d::ds=>by unfold dm;rw[uw d,xN ds];rfl
end
theorem pK:∀{xs ys:List D},dm xs ys=true->xs.length=ys.length
 |[],[],_=>rfl|[],_::_,h=>by unfold dm at h;cases h|_::_,[],h=>by unfold dm at h;cases h|x::xs,y::ys,h=>by unfold dm at h;rw[NS]at h;simp[pK h.2]
theorem pJ:∀{xs ys:List D},xs.length=ys.length->(List.range xs.length).all (λj=>aF (xs.getD j .non) (ys.getD j .non))=dm xs ys
 |[],[],_=>by unfold dm;rfl|x::xs,y::ys,h=>by have ih:=pJ (xs:=xs) (ys:=ys) (by simpa using h);unfold dm;rw[N_,List.range_succ_eq_map,OO,ON,<-ih];rfl
theorem xM:∀{ms ns:QS},dm (ms.map D.int) (ns.map D.int)=decide (ms=ns)
 |[],[]=>by unfold List.map dm;rfl|[],_::_=>by rw[bw];unfold List.map dm;simp|_::_,[]=>by rw[bw];unfold List.map dm;simp|m::ms,n::ns=>by rw[bw,bw];unfold dm aF;rw[xM,OJ];simp
mutual
theorem aq.inj {X:Cx}{Py:QX}{σ:St}{H:Hp}{s:Shared}(I:am X Py σ H s):∀(d e:D) {v:V},aq X.K H d v->aq X.K H e v->d=e
 |.non,e,v,h,q=>by unfold aq at h;subst h;cases e<;>unfold aq at q<;>first|rfl|(cases q;done)|(obtain⟨_,_,q,_⟩:=q;cases q)
 |.bl _,e,v,h,q=>by unfold aq at h;subst h;cases e<;>unfold aq at q<;>first|(cases q;rfl)|(cases q;done)|(obtain⟨_,_,q,_⟩:=q;cases q)
 |.int _,e,v,h,q=>by unfold aq at h;subst h;cases e<;>unfold aq at q<;>first|(cases q;rfl)|(cases q;done)|(obtain⟨_,_,q,_⟩:=q;cases q)
 |.str _,e,v,h,q=>by unfold aq at h;subst h;cases e<;>unfold aq at q<;>first|(cases q;rfl)|(cases q;done)|(obtain⟨_,_,q,_⟩:=q;cases q)
 |.lst ds,e,v,h,q=>by
  unfold aq at h;obtain⟨a,xs,rfl,h1,h2⟩:=h;cases e with
  |lst es=>unfold aq at q;obtain⟨b,ys,e1,q1,q2⟩:=q;cases e1;cases I.list_inj h1 q1;rw[av.inj I ds es h2 q2]
  |tup es=>unfold aq at q;obtain⟨b,ys,e1,q1,q2⟩:=q;cases e1;obtain⟨_,_,p1,_⟩:=I.list h1;obtain⟨_,_,p2,_⟩:=I.tuple q1;exact Oa rfl (ne_of_list_tuple (s:=s) p1.isList p2)
  |_=>unfold aq at q;cases q
 |.tup ds,e,v,h,q=>by
  unfold aq at h;obtain⟨a,xs,rfl,h1,h2⟩:=h;cases e with
  |tup es=>unfold aq at q;obtain⟨b,ys,e1,q1,q2⟩:=q;cases e1;cases I.tuple_inj h1 q1;rw[av.inj I ds es h2 q2]
  |lst es=>unfold aq at q;obtain⟨b,ys,e1,q1,q2⟩:=q;cases e1;obtain⟨_,_,p1,_⟩:=I.list q1;obtain⟨_,_,p2,_⟩:=I.tuple h1;exact Oa rfl (ne_of_list_tuple (s:=s) p1.isList p2)
  |_=>unfold aq at q;cases q
theorem av.inj {X:Cx}{Py:QX}{σ:St}{H:Hp}{s:Shared}(I:am X Py σ H s):∀(ds es:List D) {vs:QV},av X.K H ds vs->av X.K H es vs->ds=es
 |[],es,vs,h,q=>by
  unfold av at h;subst h;cases es with
  |nil=>rfl
  |cons e es=>unfold av at q;obtain⟨_,_,q,_⟩:=q;cases q
 |d::ds,es,vs,h,q=>by
  unfold av at h;obtain⟨v,r,rfl,h1,h2⟩:=h;cases es with
  |nil=>unfold av at q;cases q
  |cons e es=>unfold av at q;obtain⟨w,r',e1,q1,q2⟩:=q;cases e1;rw[aq.inj I d e h1 q1,av.inj I ds es h2 q2]
end
variable {y:V}{ys:QV}{d:D}{us:List Value}
section
variable {x:V}
theorem tN(h:aq X.K H d x)(f:gi x=true):(∃ b,d=.bl b/\x=.bl b)\/(∃ i,d=.int i/\x=.int i)\/(∃ z,d=.str z/\x=.str z)\/(d=.non/\x=.non):=by
 cases d with
 |non=>unfold aq at h;exact .inr (.inr (.inr ⟨rfl,h⟩))
 |bl b=>unfold aq at h;exact .inl ⟨b,rfl,h⟩
 |int b=>unfold aq at h;exact .inr (.inl ⟨b,rfl,h⟩)
 |str b=>unfold aq at h;exact .inr (.inr (.inl ⟨b,rfl,h⟩))
 |lst ds=>unfold aq at h;obtain⟨a,xs,rfl,_⟩:=h;cases f
 |tup ds=>unfold aq at h;obtain⟨a,xs,rfl,_⟩:=h;cases f
variable {e:D}
theorem IB(h:aq X.K H d x)(q:aq X.K H e y)(fx:gi x=true)(fy:gi y=true):iA x y=aF d e:=by rcases tN h fx with⟨b,rfl,rfl⟩|⟨b,rfl,rfl⟩|⟨b,rfl,rfl⟩|⟨rfl,rfl⟩<;>rcases tN q fy with⟨c,rfl,rfl⟩|⟨c,rfl,rfl⟩|⟨c,rfl,rfl⟩|⟨rfl,rfl⟩<;>unfold aF iA<;>rfl
theorem uc{es:List D}{vs:List Value}(hd:av X.K H ds xs)(he:av X.K H es ys)(ru:ax xs us)(rv:ax ys vs)(ih:∀(d e:D) (x y:V) (u v:Value),d∈ds->aq X.K H d x->aq X.K H e y->aC x u->aC y v->EqAt A s u v (aF d e)):
  ∀ j (h1:j<us.toArray.size) (h2:j<vs.toArray.size),EqAt A s us.toArray[j] vs.toArray[j] (aF (ds.getD j .non) (es.getD j .non)):=by
 intro j h1 h2;simp only[bM]at h1 h2;have l1:=hd.length;have l2:=he.length;have l3:=ru.length;have l4:=rv.length;have j1:j<ds.length:=by omega
 have j2:j<es.length:=by omega
 obtain⟨x,ex,rx⟩:=hd.get (i:=j) (d:=ds[j]) (by simp[j1]);obtain⟨y,ey,ry⟩:=he.get (i:=j) (d:=es[j]) (by simp[j2]);obtain⟨u,eu,ru'⟩:=ru.get ex;obtain⟨v,ev,rv'⟩:=rv.get ey;have e1:us.toArray[j]=u:=by obtain⟨_,q⟩:=dF.mp eu;simpa using q
 have e2:vs.toArray[j]=v:=by obtain⟨_,q⟩:=dF.mp ev;simpa using q
 rw[e1,e2,show ds.getD j .non=ds[j]by simp[List.getD,j1],show es.getD j .non=es[j]by simp[List.getD,j2]];exact ih _ _ x y u v (Om j1) rx ry ru' rv'
theorem tD (I:am X Py σ H s):∀(n:Nat) (d e:D) (A:Around) (x y:V) (u v:Value),dM d<=n->A.units+n<cLine->aq X.K H d x->aq X.K H e y->aC x u->aC y v->EqAt A s u v (aF d e):=by
 intro n;induction n with
 |zero=>
  intro d e A x y u v hn hu hd he ru rv;have fx:gi x=true:=by
   cases d with
   |non=>unfold aq at hd;subst hd;rfl
   |bl b=>unfold aq at hd;subst hd;rfl
   |int b=>unfold aq at hd;subst hd;rfl
   |str b=>unfold aq at hd;subst hd;rfl
   |lst ds=>unfold dM at hn;omega
   |tup ds=>unfold dM at hn;omega
  by_cases fy:gi y=true
  ·rw[<-IB hd he fx fy];exact BW ru rv fx fy
  ·cases e with
   |non=>unfold aq at he;subst he;exact Oa rfl fy
   |bl b=>unfold aq at he;subst he;exact Oa rfl fy
   |int b=>unfold aq at he;subst he;exact Oa rfl fy
   |str b=>unfold aq at he;subst he;exact Oa rfl fy
   |lst es=>
    unfold aq at he;obtain⟨a,ys,rfl,hq,_⟩:=he;cases rv;obtain⟨_,_,p,_⟩:=I.list hq;rcases tN hd fx with⟨b,rfl,rfl⟩|⟨b,rfl,rfl⟩|⟨b,rfl,rfl⟩|⟨rfl,rfl⟩
    ·cases ru;unfold aF;exact EqAt.bool_list b p.isList (by omega)
    ·obtain⟨t,rfl⟩:=ru;unfold aF;exact EqAt.int_list b t p.isList (by omega)
    ·obtain⟨t,rfl⟩:=ru;unfold aF;exact EqAt.str_list b t p.isList (by omega)
    ·cases ru;unfold aF;exact EqAt.none_list p.isList (by omega)
   |tup es=>
    unfold aq at he;obtain⟨a,ys,rfl,hq,_⟩:=he;cases rv;obtain⟨_,_,p,_⟩:=I.tuple hq;rcases tN hd fx with⟨b,rfl,rfl⟩|⟨b,rfl,rfl⟩|⟨b,rfl,rfl⟩|⟨rfl,rfl⟩
    ·cases ru;unfold aF;exact EqAt.bool_tuple b p (by omega)
    ·obtain⟨t,rfl⟩:=ru;unfold aF;exact EqAt.int_tuple b t p (by omega)
    ·obtain⟨t,rfl⟩:=ru;unfold aF;exact EqAt.str_tuple b t p (by omega)
    ·cases ru;unfold aF;exact EqAt.none_tuple p (by omega)
 |succ n ih=>
  intro d e A x y u v hn hu hd he ru rv;by_cases h0:dM d<=n
  ·exact ih d e A x y u v h0 (by omega) hd he ru rv
  ·cases d with
   |non=>unfold dM at h0;omega
   |bl b=>unfold dM at h0;omega
   |int b=>unfold dM at h0;omega
   |str b=>unfold dM at h0;omega
   |lst ds=>
    unfold dM at hn;have hd0:=hd;unfold aq at hd;obtain⟨a,xs,rfl,hx,rx⟩:=hd;cases ru;obtain⟨its,vx,px,zx⟩:=I.list hx;cases e with
    |non=>unfold aq at he;subst he;cases rv;unfold aF;exact EqAt.list_none px.isList (by omega)
    |bl b=>unfold aq at he;subst he;cases rv;unfold aF;exact EqAt.list_bool b px.isList (by omega)
    |int b=>unfold aq at he;subst he;obtain⟨t,rfl⟩:=rv;unfold aF;exact EqAt.list_int b t px.isList (by omega)
    |str b=>unfold aq at he;subst he;obtain⟨t,rfl⟩:=rv;unfold aF;exact EqAt.list_str b t px.isList (by omega)
    |tup es=>unfold aq at he;obtain⟨b,ys,rfl,hy,ry⟩:=he;cases rv;obtain⟨jts,vy,py,zy⟩:=I.tuple hy;unfold aF;exact EqAt.list_tuple px.isList py (by omega)
    |lst es=>
     have he0:=he;unfold aq at he;obtain⟨b,ys,rfl,hy,ry⟩:=he;cases rv;obtain⟨jts,vy,py,zy⟩:=I.list hy;by_cases hab:a=b
     ·subst hab;rw[aq.inj I _ _ hd0 he0,uw];exact EqAt.same _
     ·refine EqAt.of_refs hab ?_;unfold aF;have l1:=rx.length;have l2:=ry.length;have l3:=vx.length;have l4:=vy.length;by_cases hl:ds.length=es.length
      ·have q:=RcAt.lists (A:=A) (e:=λj=>aF (ds.getD j .non) (es.getD j .non)) px.isList py.isList (by simp only[bM];omega) (by omega)
        (uc rx ry vx vy λd e x y u v hm h1 h2 h3 h4=>ih d e A.in1 x y u v (Od (oj hm) (by omega)) (by show A.units+1+n<cLine;omega) h1 h2 h3 h4)
       rw[show its.toArray.size=ds.length by rw[bM];omega,pJ hl]at q;exact q
      ·rw[show dm ds es=false by
        cases h:dm ds es with
        |false=>rfl
        |true=>exact Oa (pK h) hl]
       exact RcAt.lists_lengths px.isList py.isList (by simp only[bM,bne_iff_ne];omega) (by omega)
   |tup ds=>
    unfold dM at hn;have hd0:=hd;unfold aq at hd;obtain⟨a,xs,rfl,hx,rx⟩:=hd;cases ru;obtain⟨its,vx,px,zx⟩:=I.tuple hx;cases e with
    |non=>unfold aq at he;subst he;cases rv;unfold aF;exact EqAt.tuple_none px (by omega)
    |bl b=>unfold aq at he;subst he;cases rv;unfold aF;exact EqAt.tuple_bool b px (by omega)
    |int b=>unfold aq at he;subst he;obtain⟨t,rfl⟩:=rv;unfold aF;exact EqAt.tuple_int b t px (by omega)
    |str b=>unfold aq at he;subst he;obtain⟨t,rfl⟩:=rv;unfold aF;exact EqAt.tuple_str b t px (by omega)
    |lst es=>unfold aq at he;obtain⟨b,ys,rfl,hy,ry⟩:=he;cases rv;obtain⟨jts,vy,py,zy⟩:=I.list hy;unfold aF;exact EqAt.tuple_list px py.isList (by omega)
    |tup es=>
     have he0:=he;unfold aq at he;obtain⟨b,ys,rfl,hy,ry⟩:=he;cases rv;obtain⟨jts,vy,py,zy⟩:=I.tuple hy;by_cases hab:a=b
     ·subst hab;rw[aq.inj I _ _ hd0 he0,uw];exact EqAt.same _
     ·refine EqAt.of_refs hab ?_;unfold aF;have l1:=rx.length;have l2:=ry.length;have l3:=vx.length;have l4:=vy.length;have q:=RcAt.tuples (A:=A) (e:=λj=>aF (ds.getD j .non) (es.getD j .non)) px py (by omega)
        (uc rx ry vx vy λd e x y u v hm h1 h2 h3 h4=>ih d e A.in1 x y u v (Od (oj hm) (by omega)) (by show A.units+1+n<cLine;omega) h1 h2 h3 h4)
      by_cases hl:ds.length=es.length
      ·rw[show min its.toArray.size jts.toArray.size=ds.length by rw[bM,bM];omega,pJ hl,show(its.toArray.size==jts.toArray.size)=true by rw[bM,bM,OR];omega,OD]at q;exact q
      ·rw[show dm ds es=false by
        cases h:dm ds es with
        |false=>rfl
        |true=>exact Oa (pK h) hl]
       rw[show(its.toArray.size==jts.toArray.size)=false by rw[bM,bM,OK];omega,OW]at q;exact q
theorem Ce(I:am X Py σ H s)(hn:dM d<=n)(hu:A.units+n<cLine)(hd:aq X.K H d (.ref a))(he:aq X.K H e (.ref b)):RcAt A s (.ref a) (.ref b) (aF d e)/\RcNeAt A s (.ref a) (.ref b) (!aF d e):=by
 cases d with
 |non=>unfold aq at hd;cases hd
 |bl _=>unfold aq at hd;cases hd
 |int _=>unfold aq at hd;cases hd
 |str _=>unfold aq at hd;cases hd
 |lst ds=>
  unfold dM at hn;unfold aq at hd;obtain⟨_,xs,e1,hx,rx⟩:=hd;cases e1;obtain⟨its,vx,px,zx⟩:=I.list hx;cases e with
  |non=>unfold aq at he;cases he
  |bl _=>unfold aq at he;cases he
  |int _=>unfold aq at he;cases he
  |str _=>unfold aq at he;cases he
  |tup es=>unfold aq at he;obtain⟨_,ys,e1,hy,ry⟩:=he;cases e1;obtain⟨jts,vy,py,zy⟩:=I.tuple hy;unfold aF;exact⟨RcAt.list_tuple px.isList py (by omega),RcNeAt.list_tuple px.isList py (by omega)⟩
  |lst es=>
   unfold aq at he;obtain⟨_,ys,e1,hy,ry⟩:=he;cases e1;obtain⟨jts,vy,py,zy⟩:=I.list hy;unfold aF;have l1:=rx.length;have l2:=ry.length;have l3:=vx.length;have l4:=vy.length;by_cases hl:ds.length=es.length
   ·have it:=uc (s:=s) (A:=A.in1) rx ry vx vy λd e x y u v hm h1 h2 h3 h4=>tD I (n - 1) d e A.in1 x y u v (Od (oj hm) (by omega)) (by show A.units+1+(n - 1)<cLine;omega) h1 h2 h3 h4;have q:=RcAt.lists (A:=A) px.isList py.isList (by simp only[bM];omega) (by omega) it;have q2:=RcNeAt.lists (A:=A) px.isList py.isList (by simp only[bM];omega) (by omega) it;rw[show its.toArray.size=ds.length by rw[bM];omega,pJ hl]at q q2;exact⟨q,q2⟩
   ·rw[show dm ds es=false by
     cases h:dm ds es with
     |false=>rfl
     |true=>exact Oa (pK h) hl]
    exact⟨RcAt.lists_lengths px.isList py.isList (by simp only[bM,bne_iff_ne];omega) (by omega),RcNeAt.lists_lengths px.isList py.isList (by simp only[bM,bne_iff_ne];omega) (by omega)⟩
 |tup ds=>
  unfold dM at hn;unfold aq at hd;obtain⟨_,xs,e1,hx,rx⟩:=hd;cases e1;obtain⟨its,vx,px,zx⟩:=I.tuple hx;cases e with
  |non=>unfold aq at he;cases he
  |bl _=>unfold aq at he;cases he
  |int _=>unfold aq at he;cases he
  |str _=>unfold aq at he;cases he
  |lst es=>unfold aq at he;obtain⟨_,ys,e1,hy,ry⟩:=he;cases e1;obtain⟨jts,vy,py,zy⟩:=I.list hy;unfold aF;exact⟨RcAt.tuple_list px py.isList (by omega),RcNeAt.tuple_list px py.isList (by omega)⟩
  |tup es=>
   unfold aq at he;obtain⟨_,ys,e1,hy,ry⟩:=he;cases e1;obtain⟨jts,vy,py,zy⟩:=I.tuple hy;unfold aF;have l1:=rx.length;have l2:=ry.length;have l3:=vx.length;have l4:=vy.length;have it:=uc (s:=s) (A:=A.in1) rx ry vx vy λd e x y u v hm h1 h2 h3 h4=>tD I (n - 1) d e A.in1 x y u v (Od (oj hm) (by omega)) (by show A.units+1+(n - 1)<cLine;omega) h1 h2 h3 h4;have q:=RcAt.tuples (A:=A) px py (by omega) it;have q2:=RcNeAt.tuples (A:=A) px py (by omega) it;by_cases hl:ds.length=es.length
   ·rw[show min its.toArray.size jts.toArray.size=ds.length by rw[bM,bM];omega,pJ hl,show(its.toArray.size==jts.toArray.size)=true by rw[bM,bM,OR];omega,OD]at q q2;exact⟨q,q2⟩
   ·rw[show dm ds es=false by
     cases h:dm ds es with
     |false=>rfl
     |true=>exact Oa (pK h) hl]
    rw[show(its.toArray.size==jts.toArray.size)=false by rw[bM,bM,OK];omega,OW]at q q2;exact⟨q,q2⟩
end
def kq (K:Fg)(neg:Bool):R2:=λx y H Q=>∃ a b d e,x=.ref a/\y=.ref b/\aq K H d (.ref a)/\aq K H e (.ref b)/\dM d<=60/\Q (.bl (if neg then !aF d e else aF d e)) H
section
variable {k:Nat}
theorem GF (hr:aQ k X.A):bV X (compareOp .Eq) (kq X.K false):=by intro Py s σ H x y v u Q I rx ry h;obtain⟨a,b,d,e,rfl,rfl,hd,he,hn,q⟩:=h;cases rx;cases ry;exact(Ce I (A:=X.A) hn (by have:=hr.units;omega) hd he).1 X.prog X.w X.xe _ ⟨.bl _,H,I,rfl,q⟩
theorem GE (hr:aQ k X.A):bV X (compareOp .NotEq) (kq X.K true):=by intro Py s σ H x y v u Q I rx ry h;obtain⟨a,b,d,e,rfl,rfl,hd,he,hn,q⟩:=h;cases rx;cases ry;exact(Ce I (A:=X.A) hn (by have:=hr.units;omega) hd he).2 X.prog X.w X.xe _ ⟨.bl _,H,I,rfl,q⟩
theorem LP:dD X (.builtin "isinstance") (λxs H Q=>∃ x c t b,xs=[x,.ty c]/\dw X.K H x t/\PySem.W.kitOne X.K t (.type c)=some b/\Q (.bl b) H):=by intro Py s σ H xs us Q I r h;obtain⟨x,c,t,b,rfl,ty,e,q⟩:=h;obtain⟨u,v,rfl,ru,rv⟩:=vq r;cases rv;exact Ky I ru ty e λtk=>⟨.bl b,H,I.tok tk,rfl,q⟩
end
mutual
def ai (H:Hp):D->V->QW->Prop
 |.non,v,fp=>v=.non/\fp=[]|.bl b,v,fp=>v=.bl b/\fp=[]|.int i,v,fp=>v=.int i/\fp=[]|.str x,v,fp=>v=.str x/\fp=[]|.lst ds,v,fp=>∃ a xs r,v=.ref a/\fp=a::r/\H a=some (.lst xs)/\ak H ds xs r|.tup ds,v,fp=>∃ a xs,v=.ref a/\H a=some (.tup xs)/\ak H ds xs fp
def ak (H:Hp):List D->QV->QW->Prop
 |[],vs,fp=>vs=[]/\fp=[]|d::ds,vs,fp=>∃ v r f g,vs=v::r/\fp=f++g/\ai H d v f/\ak H ds r g
end
mutual
theorem ai.rep {K:Fg}{H:Hp}:∀(d:D) {v:V}{fp:QW},ai H d v fp->aq K H d v
 |.non,_,_,h=>by unfold ai at h;unfold aq;exact h.1|.bl _,_,_,h=>by unfold ai at h;unfold aq;exact h.1|.int _,_,_,h=>by unfold ai at h;unfold aq;exact h.1|.str _,_,_,h=>by unfold ai at h;unfold aq;exact h.1|.lst ds,_,_,h=>by unfold ai at h;unfold aq;obtain⟨a,xs,r,h1,_,h2,h3⟩:=h;exact⟨a,xs,h1,ar.of h2,ak.reps ds h3⟩|.tup ds,_,_,h=>by unfold ai at h;unfold aq;obtain⟨a,xs,h1,h2,h3⟩:=h;exact⟨a,xs,h1,aH.of h2,ak.reps ds h3⟩
theorem ak.reps {K:Fg}{H:Hp}:∀(ds:List D) {vs:QV}{fp:QW},ak H ds vs fp->av K H ds vs
 |[],_,_,h=>by unfold ak at h;unfold av;exact h.1|d::ds,_,_,h=>by unfold ak at h;unfold av;obtain⟨v,r,f,g,h1,_,h2,h3⟩:=h;exact⟨v,r,h1,ai.rep d h2,ak.reps ds h3⟩
end
def cv (H H':Hp):Prop:=∀ b xs,H b=some (.tup xs)->H' b=some (.tup xs)
theorem ae.tups(e:ae H H'):cv H H':=λ_ _ h=>e _ _ h
theorem cv.trans(a:cv H H1)(b:cv H1 H2):cv H H2:=λc o h=>b c o (a c o h)
variable {o:HO}
theorem ub(h:∀ xs,H a≠some (.tup xs)):cv H (upd H a o):=λb xs e=>by rw[aE (λz=>h xs (by rw[<-z];exact e))];exact e
theorem kg(h:H a=some (.lst ys)):cv H (upd H a o):=ub λxs e=>by rw[h]at e;cases e
mutual
theorem ai.frame {H H':Hp}(tk:cv H H'):∀(d:D) {v:V}{fp:QW},(∀ a∈fp,H' a=H a)->ai H d v fp->ai H' d v fp
 |.non,_,_,_,h=>by unfold ai at*;exact h|.bl _,_,_,_,h=>by unfold ai at*;exact h|.int _,_,_,_,h=>by unfold ai at*;exact h|.str _,_,_,_,h=>by unfold ai at*;exact h|.lst ds,_,_,k,h=>by unfold ai at*;obtain⟨a,xs,r,h1,h0,h2,h3⟩:=h;subst h0;exact⟨a,xs,r,h1,rfl,(k a NW).trans h2,ak.frame tk ds (λb hb=>k b (NZ _ hb)) h3⟩|.tup ds,_,_,k,h=>by unfold ai at*;obtain⟨a,xs,h1,h2,h3⟩:=h;exact⟨a,xs,h1,tk _ _ h2,ak.frame tk ds k h3⟩
theorem ak.frame {H H':Hp}(tk:cv H H'):∀(ds:List D) {vs:QV}{fp:QW},(∀ a∈fp,H' a=H a)->ak H ds vs fp->ak H' ds vs fp
 |[],_,_,_,h=>by unfold ak at*;exact h|d::ds,_,_,k,h=>by unfold ak at*;obtain⟨v,r,f,g,h1,h0,h2,h3⟩:=h;subst h0;exact⟨v,r,f,g,h1,rfl,ai.frame tk d (λb hb=>k b (Ob _ hb)) h2,ak.frame tk ds (λb hb=>k b (N3 _ hb)) h3⟩
end
mutual
theorem ai.has {H:Hp}:∀(d:D) {v:V}{fp:QW},ai H d v fp->∀ a∈fp,∃ o,H a=some o
 |.non,_,_,h,a,m=>by unfold ai at h;rw[h.2]at m;cases m|.bl _,_,_,h,a,m=>by unfold ai at h;rw[h.2]at m;cases m|.int _,_,_,h,a,m=>by unfold ai at h;rw[h.2]at m;cases m|.str _,_,_,h,a,m=>by unfold ai at h;rw[h.2]at m;cases m|.lst ds,_,_,h,b,m=>by
  unfold ai at h;obtain⟨a,xs,r,h1,h0,h2,h3⟩:=h;subst h0;rcases NP.mp m with m|m
  ·subst m;exact⟨_,h2⟩
  ·exact ak.has ds h3 b m
 |.tup ds,_,_,h,b,m=>by unfold ai at h;obtain⟨a,xs,h1,h2,h3⟩:=h;exact ak.has ds h3 b m
theorem ak.has {H:Hp}:∀(ds:List D) {vs:QV}{fp:QW},ak H ds vs fp->∀ a∈fp,∃ o,H a=some o
 |[],_,_,h,a,m=>by unfold ak at h;rw[h.2]at m;cases m|d::ds,_,_,h,b,m=>by
  unfold ak at h;obtain⟨v,r,f,g,h1,h0,h2,h3⟩:=h;subst h0;rcases bC.mp m with m|m
  ·exact ai.has d h2 b m
  ·exact ak.has ds h3 b m
end
theorem ak.length:∀{ds:List D}{vs:QV}{fp:QW},ak H ds vs fp->ds.length=vs.length
 |[],_,_,h=>by unfold ak at h;rw[h.1];rfl|d::ds,_,_,h=>by unfold ak at h;obtain⟨v,r,f,g,rfl,_,_,h3⟩:=h;simp[ak.length h3]
theorem ak.snoc:∀{ds:List D}{vs:QV}{fp:QW}{d:D}{v:V}{f:QW},ak H ds vs fp->ai H d v f->ak H (ds++[d]) (vs++[v]) (fp++f)
 |[],_,_,d,v,f,h,q=>by unfold ak at h;obtain⟨rfl,rfl⟩:=h;show ak H [d] [v] ([]++f);unfold ak;exact⟨v,[],f,[],rfl,by simp,q,by unfold ak;exact⟨rfl,rfl⟩⟩|c::ds,_,_,d,v,f,h,q=>by unfold ak at h;obtain⟨u,r,f1,g1,rfl,rfl,h2,h3⟩:=h;rw[List.cons_append,List.cons_append,Ow];unfold ak;exact⟨u,_,f1,_,rfl,rfl,h2,ak.snoc h3 q⟩
theorem ak.ints:∀{ns:QS},ak H (ns.map D.int) (ns.map V.int) []
 |[]=>by unfold List.map ak;exact⟨rfl,rfl⟩|n::ns=>by rw[bw,bw];unfold ak;exact⟨_,_,[],[],rfl,rfl,by unfold ai;exact⟨rfl,rfl⟩,ak.ints⟩
theorem ak.ints_eq:∀{ns:QS}{vs:QV}{fp:QW},ak H (ns.map D.int) vs fp->vs=ns.map V.int/\fp=[]
 |[],_,_,h=>by unfold List.map ak at h;exact h|n::ns,_,_,h=>by rw[bw]at h;unfold ak at h;obtain⟨v,r,f,g,rfl,rfl,h1,h2⟩:=h;unfold ai at h1;obtain⟨rfl,rfl⟩:=h1;obtain⟨rfl,rfl⟩:=ak.ints_eq h2;exact⟨rfl,rfl⟩
theorem t_:∀ ns:QS,dM (.lst (ns.map D.int))<=1
 |[]=>by unfold List.map dM cN;exact NV _|n::ns=>by have ih:=t_ ns;unfold dM at ih ⊢;rw[bw];unfold cN dM;omega
def ao (H H':Hp)(d:D)(v:V):Prop:=∃ fp,ai H' d v fp/\fp.Nodup/\∀ a∈fp,H a=none
abbrev nums (ns:QS):D:=.lst (ns.map D.int)
theorem ao.rep(h:ao H H' d v):aq K H' d v:=let ⟨_,h,_⟩:=h;ai.rep d h
variable {i:Int}
theorem ao.int:ao H H' (.int i) (.int i):=⟨[],by unfold ai;exact⟨rfl,rfl⟩,OA,λ_ m=>by cases m⟩
theorem ao.bl{i:Bool}:ao H H' (.bl i) (.bl i):=⟨[],by unfold ai;exact⟨rfl,rfl⟩,OA,λ_ m=>by cases m⟩
theorem ao.str{i:Str}:ao H H' (.str i) (.str i):=⟨[],by unfold ai;exact⟨rfl,rfl⟩,OA,λ_ m=>by cases m⟩
theorem ao.non:ao H H' .non .non:=⟨[],by unfold ai;exact⟨rfl,rfl⟩,OA,λ_ m=>by cases m⟩
variable {H0:Hp}
theorem ao.back(e:ae H0 H)(h:ao H H' d v):ao H0 H' d v:=by obtain⟨fp,h1,h2,h3⟩:=h;exact⟨fp,h1,h2,λa m=>e.free (h3 a m)⟩
theorem ao.same(e:ae H' H2)(h:ao H H' d v):ao H H2 d v:=by obtain⟨fp,h1,h2,h3⟩:=h;refine⟨fp,ai.frame e.tups d (λa m=>?_) h1,h2,h3⟩;obtain⟨o,ho⟩:=ai.has d h1 a m;rw[ho,e a o ho]
theorem ao.iif:ao H H' (nums ns) v↔∃ a,v=.ref a/\H a=none/\H' a=some (.lst (ns.map V.int)):=by
 constructor
 ·rintro⟨fp,h1,h2,h3⟩;unfold ai at h1;obtain⟨a,xs,r,e1,e2,e3,e4⟩:=h1;obtain⟨rfl,rfl⟩:=ak.ints_eq e4;subst e2;exact⟨a,e1,h3 a NW,e3⟩
 ·rintro⟨a,e1,e2,e3⟩;refine⟨[a],?_,by simp,λb m=>by rw[bu.mp m];exact e2⟩;unfold ai;exact⟨a,_,[],e1,rfl,e3,ak.ints⟩
theorem gz:aq K H (nums ns) v↔∃ a,v=.ref a/\ar K H a (ns.map V.int):=by
 unfold aq;constructor
 ·rintro⟨a,xs,e1,e2,e3⟩;rw[av.ints.mp e3]at e2;exact⟨a,e1,e2⟩
 ·rintro⟨a,e1,e2⟩;exact⟨a,_,e1,e2,av.ints.mpr rfl⟩
theorem aB{p:Addr}(h:H p=none)(o:HO):ae H (upd H p o):=λb u q=>by rw[aE (bX q h)];exact q
theorem ao.lst(h:ak H' ds vs fp)(nd:fp.Nodup)(hf:∀ b∈fp,H1 b=none)(ha:H1 a=none)(na:a∉fp)(hH:H' a=some (.lst vs)):ao H1 H' (.lst ds) (.ref a):=by
 refine⟨a::fp,?_,Og.mpr ⟨na,nd⟩,λb m=>?_⟩
 ·unfold ai;exact⟨a,vs,fp,rfl,rfl,hH,h⟩
 ·rcases NP.mp m with m|m
  ·subst m;exact ha
  ·exact hf b m
theorem ao.tup(h:ak H' ds vs fp)(nd:fp.Nodup)(hf:∀ b∈fp,H1 b=none)(hH:H' a=some (.tup vs)):ao H1 H' (.tup ds) (.ref a):=by refine⟨fp,?_,nd,hf⟩;unfold ai;exact⟨a,vs,rfl,hH,h⟩
structure fD (J:It)(H1:Hp)(n:Nat)(P:Nat->V->Hp->Prop):Prop where
 go:∀ i H,i<n->ae H1 H->J.go i H
 stop:∀ H,ae H1 H->J.stop n H
 yld:∀ i H x H',i<n->ae H1 H->J.yld i H x H'->ae H H'/\P i x H'
theorem dY(h:ar K H1 a xs):fD (lR K a) H1 xs.length (λi x _=>xs[i]?=some x) where
 go:=λi H hi e=>⟨xs,xs[i],e.seq h,by simp[hi]⟩
 stop:=λH e=>⟨xs,e.seq h,NV _⟩
 yld:=λi H x H' hi e q=>by
  obtain⟨rfl,q⟩:=q
  exact⟨ae.refl _,q xs (e.seq h)⟩
theorem pE(h:aH K H1 a xs):fD (u_ K a) H1 xs.length (λi x _=>xs[i]?=some x) where
 go:=λi H hi e=>⟨xs,xs[i],e.tup h,by simp[hi]⟩
 stop:=λH e=>⟨xs,e.tup h,NV _⟩
 yld:=λi H x H' hi e q=>by
  obtain⟨rfl,q⟩:=q
  exact⟨ae.refl _,q xs (e.tup h)⟩
variable {lo:Int}
theorem lH:fD (kF lo n) H1 n (λi x _=>x=.int (lo+i)) where
 go:=λi H hi e=>hi
 stop:=λH e=>NV _
 yld:=λi H x H' hi e q=>by
  obtain⟨rfl,q⟩:=q
  exact⟨ae.refl _,q⟩
theorem w6(h:ar K H1 a xs)(h2:ar K H1 b ys)(hn:n=min xs.length ys.length):
  fD (u9 K a b) H1 n (λi v H=>∃ T x y,v=.ref T/\H T=some (.tup [x,y])/\xs[i]?=some x/\ys[i]?=some y) where
 go:=λi H hi e=>⟨xs,ys,xs[i]'(by omega),ys[i]'(by omega),e.seq h,e.seq h2,by simp,by simp⟩
 stop:=λH e=>⟨xs,ys,e.seq h,e.seq h2,by
  rcases Nat.le_total xs.length ys.length with z|z
  ·exact .inl (by simp;omega)
  ·exact .inr (by simp;omega)⟩
 yld:=λi H x H' hi e q=>by
  obtain⟨T,nT,rfl,q⟩:=q
  have i1:i<xs.length:=by omega
  have i2:i<ys.length:=by omega
  have:=q xs ys xs[i] ys[i] (e.seq h) (e.seq h2) (by simp) (by simp)
  subst this
  exact⟨aB nT _,T,_,_,rfl,aw,by simp,by simp⟩
theorem KD(h:ar K H1 a xs):
  fD (vc K a) H1 xs.length (λi v H=>∃ T x,v=.ref T/\H T=some (.tup [.int i,x])/\xs[i]?=some x) where
 go:=λi H hi e=>⟨xs,xs[i],e.seq h,by simp[hi]⟩
 stop:=λH e=>⟨xs,e.seq h,NV _⟩
 yld:=λi H x H' hi e q=>by
  obtain⟨T,nT,rfl,q⟩:=q
  have:=q xs xs[i] (e.seq h) (by simp)
  subst this
  exact⟨aB nT _,T,_,rfl,aw,by simp⟩
def tz (J:It)(g:TG)(tt:TT)(te:TE)(σ0:St)(H1:Hp)(Q:VK):Prop:=∀ D,H1 D=none->
 ∃ W:Nat->Nat->QV->Hp->Prop,(∃ m,W 0 m [] (upd H1 D (.lst [])))/\∀ i m ys H,W i m ys H->H D=some (.lst ys)/\
  ((J.stop i H/\Q (.ref D) H)\/(J.go i H/\ys.length<sizeLine/\∃ N:QV->Hp->Prop,(∀ ys' H',N ys' H'->∃ m',m'<m/\W (i+1) m' ys' H')/\
   ∀ x H',J.yld i H x H'->g x σ0 H' λσ2 H2=>tt σ2 H2 λb H3=>if b=true then te σ2 H3 λy H4=>H4 D=some (.lst ys)/\N (ys++[y]) (upd H4 D (.lst (ys++[y])))else N ys H3))
def sU (J:It)(g:TG)(tb:TS)(D:bI)(σ:St)(H1:Hp):Prop:=∃ W:Nat->Nat->St->Hp->Prop,(∃ m,W 0 m σ H1)/\∀ i m σ H,W i m σ H->
 (J.stop i H/\D.nx σ H)\/(J.go i H/\∃ N:St->Hp->Prop,(∀ σ' H',N σ' H'->∃ m',m'<m/\W (i+1) m' σ' H')/\∀ x H',J.yld i H x H'->g x σ H' λσ2 H2=>tb {D with nx:=N,ct:=N,bk:=D.nx} σ2 H2)
variable {J:It}{σ0:St}
theorem cX{P:Nat->V->Hp->Prop}(wk:fD J H1 n P)(ds:List D)(hn:ds.length=n)(hz:n<=sizeLine)(step:∀ i x d H' (R:VK),i<n->ds[i]?=some d->ae H1 H'->P i x H'->(∀ y H3,ae H' H3->ao H' H3 d y->R y H3)->g x σ0 H' λσ2 H2=>te σ2 H2 R)(fin:∀ v H',ae H1 H'->ao H1 H' (.lst ds) v->Q v H'):
  tz J g oN te σ0 H1 Q:=by
 intro Da hD;nomatch λi m ys H=>m=n - i/\i<=n/\ae H1 H/\H Da=some (.lst ys)/\∃ fp,ak H (ds.take i) ys fp/\fp.Nodup/\Da∉fp/\∀ b∈fp,H1 b=none,⟨n,rfl,OF _,aB hD _,aw,[],?_,OA,by simp,λ_ m=>by cases m⟩
 ·rw[List.take_zero];unfold ak;exact⟨rfl,rfl⟩
 rintro i m ys H ⟨rfl,hi,hs,hH,fp,hr,nd,na,hf⟩;nomatch hH;have hl:=hr.length;rw[OB]at hl;by_cases hlt:i<n
 ·refine .inr ⟨wk.go i H hlt hs,by omega,λys' H'=>(n - (i+1)<n - i/\i+1<=n/\ae H1 H'/\H' Da=some (.lst ys')/\∃ fp,ak H' (ds.take (i+1)) ys' fp/\fp.Nodup/\Da∉fp/\∀ b∈fp,H1 b=none),λys' H' ⟨q1,q2,q3,q4,q5⟩=>⟨n - (i+1),q1,rfl,q2,q3,q4,q5⟩,λx H' hy=>?_⟩;obtain⟨s1,hp⟩:=wk.yld i H x H' hlt hs hy;have hi':i<ds.length:=by omega
  refine step i x ds[i] H' _ hlt (by simp) (hs.trans s1) hp λy H3 s3 hn3=>?_;have hD3:H3 Da=some (.lst ys):=s3 _ _ (s1 _ _ hH);nomatch hD3,by omega,hlt,?_,aw
  ·intro b o e;rw[aE (bX e hD)];exact s3 _ _ (s1 _ _ (hs _ _ e))
  ·obtain⟨fq,h1,h2,h3⟩:=hn3;have keep:∀ b∈fp,(upd H3 Da (.lst (ys++[y]))) b=H b:=λb hb=>by obtain⟨o,ho⟩:=ak.has _ hr b hb;rw[aE (show b≠Da from λz=>na (by rw[<-z];exact hb)),ho];exact s3 _ _ (s1 _ _ ho)
   have nDq:Da∉fq:=λz=>by have:=h3 Da z;rw[s1 _ _ hH]at this;cases this
   have tk2:cv H3 (upd H3 Da (.lst (ys++[y]))):=kg hD3;have tk1:cv H (upd H3 Da (.lst (ys++[y]))):=((s1.trans s3).tups).trans tk2;have keep2:∀ b∈fq,(upd H3 Da (.lst (ys++[y]))) b=H3 b:=λb hb=>by rw[aE (show b≠Da from λz=>nDq (by rw[<-z];exact hb))]
   nomatch fp++fq,?_,?_,?_
   ·have:=(ak.frame tk1 _ keep hr).snoc (ai.frame tk2 _ keep2 h1);rw[OE,show ds[i]?.toList=[ds[i]]by simp[hi']];exact this
   ·refine Oz.mpr ⟨nd,h2,λa ha b hb z=>?_⟩;subst z;obtain⟨o,ho⟩:=ak.has _ hr a ha;have:=h3 a hb;rw[s1 _ _ ho]at this;cases this
   ·exact λz=>(bC.mp z).elim na nDq
   ·intro b hb;rcases bC.mp hb with z|z
    ·exact hf b z
    ·exact(hs.trans s1).free (h3 b z)
 ·have e:i=n:=by omega
  subst e;refine .inl ⟨wk.stop H hs,fin _ _ hs ?_⟩;rw[N6 (by omega)]at hr;exact ao.lst hr nd hf hD na hH
theorem KC{P:Nat->V->Hp->Prop}(wk:fD J H1 n P)(k:Nat->Bool)(d:Nat->D)(hz:n<=sizeLine)(step:∀ i x H' (R1:VK) (R2:Hp->Prop),i<n->ae H1 H'->P i x H'->(k i=true->∀ y H3,ae H' H3->ao H' H3 (d i) y->R1 y H3)->(k i=false->∀ H3,ae H' H3->R2 H3)->
   g x σ0 H' λσ2 H2=>tt σ2 H2 λb H3=>if b=true then te σ2 H3 R1 else R2 H3)(fin:∀ v H',ae H1 H'->ao H1 H' (.lst (((List.range n).filter k).map d)) v->Q v H'):
  tz J g tt te σ0 H1 Q:=by
 intro Da hD;nomatch λi m ys H=>m=n - i/\i<=n/\ae H1 H/\H Da=some (.lst ys)/\∃ fp,ak H (((List.range i).filter k).map d) ys fp/\fp.Nodup/\Da∉fp/\∀ b∈fp,H1 b=none,⟨n,rfl,OF _,aB hD _,aw,[],?_,OA,by simp,λ_ m=>by cases m⟩
 ·simp only[List.range_zero,List.filter_nil,Oh];unfold ak;exact⟨rfl,rfl⟩
 rintro i m ys H ⟨rfl,hi,hs,hH,fp,hr,nd,na,hf⟩;nomatch hH;have hl:=hr.length;have hl2:((List.range i).filter k).length<=i:=by have:=List.length_filter_le k (List.range i);rwa [OU]at this
 rw[aV]at hl;by_cases hlt:i<n
 ·refine .inr ⟨wk.go i H hlt hs,by omega,λys' H'=>(n - (i+1)<n - i/\i+1<=n/\ae H1 H'/\H' Da=some (.lst ys')/\∃ fp,ak H' (((List.range (i+1)).filter k).map d) ys' fp/\fp.Nodup/\Da∉fp/\∀ b∈fp,H1 b=none),λys' H' ⟨q1,q2,q3,q4,q5⟩=>⟨n - (i+1),q1,rfl,q2,q3,q4,q5⟩,λx H' hy=>?_⟩;obtain⟨s1,hp⟩:=wk.yld i H x H' hlt hs hy;refine step i x H' _ _ hlt (hs.trans s1) hp (λhk y H3 s3 hn3=>?_) (λhk H3 s3=>?_)
  ·have hD3:H3 Da=some (.lst ys):=s3 _ _ (s1 _ _ hH);nomatch hD3,by omega,hlt,?_,aw
   ·intro b o e;rw[aE (bX e hD)];exact s3 _ _ (s1 _ _ (hs _ _ e))
   ·obtain⟨fq,h1,h2,h3⟩:=hn3;have keep:∀ b∈fp,(upd H3 Da (.lst (ys++[y]))) b=H b:=λb hb=>by obtain⟨o,ho⟩:=ak.has _ hr b hb;rw[aE (show b≠Da from λz=>na (by rw[<-z];exact hb)),ho];exact s3 _ _ (s1 _ _ ho)
    have nDq:Da∉fq:=λz=>by have:=h3 Da z;rw[s1 _ _ hH]at this;cases this
    have tk2:cv H3 (upd H3 Da (.lst (ys++[y]))):=kg hD3;have tk1:cv H (upd H3 Da (.lst (ys++[y]))):=((s1.trans s3).tups).trans tk2;have keep2:∀ b∈fq,(upd H3 Da (.lst (ys++[y]))) b=H3 b:=λb hb=>by rw[aE (show b≠Da from λz=>nDq (by rw[<-z];exact hb))]
    nomatch fp++fq,?_,?_,?_
    ·have:=(ak.frame tk1 _ keep hr).snoc (ai.frame tk2 _ keep2 h1);rw[OG,List.filter_append,Oe,OQ,hk];exact this
    ·refine Oz.mpr ⟨nd,h2,λa ha b hb z=>?_⟩;subst z;obtain⟨o,ho⟩:=ak.has _ hr a ha;have:=h3 a hb;rw[s1 _ _ ho]at this;cases this
    ·exact λz=>(bC.mp z).elim na nDq
    ·intro b hb;rcases bC.mp hb with z|z
     ·exact hf b z
     ·exact(hs.trans s1).free (h3 b z)
  ·refine⟨by omega,hlt,hs.trans (s1.trans s3),s3 _ _ (s1 _ _ hH),fp,?_,nd,na,hf⟩;rw[OG,List.filter_append,Oe,OQ,hk];simp only[Bool.false_eq_true,if_false,List.filter_nil,Oh,Oo];refine ak.frame (s1.trans s3).tups _ (λb hb=>?_) hr;obtain⟨o,ho⟩:=ak.has _ hr b hb;rw[ho];exact s3 _ _ (s1 _ _ ho)
 ·have e:i=n:=by omega
  subst e;exact .inl ⟨wk.stop H hs,fin _ _ hs (ao.lst hr nd hf hD na hH)⟩
variable {tb:TS}
theorem mC{P:Nat->V->Hp->Prop}{D:bI}(wk:fD J H1 n P)(Pv:Nat->St->Hp->Prop)(h0:Pv 0 σ H1)(hl:∀ i σ H,Pv i σ H->ae H1 H)(hs:∀ i x σ H H',i<n->Pv i σ H->ae H H'->P i x H'->g x σ H' λσ2 H2=>tb {D with nx:=Pv (i+1),ct:=Pv (i+1),bk:=D.nx} σ2 H2)(hd:∀ σ H,Pv n σ H->D.nx σ H):
  sU J g tb D σ H1:=by
 nomatch λi m σ H=>m=n - i/\i<=n/\Pv i σ H,⟨n,by simp,OF _,h0⟩;rintro i m σ H ⟨rfl,hi,p⟩;have e:=hl i σ H p;by_cases hlt:i<n
 ·refine .inr ⟨wk.go i H hlt e,Pv (i+1),λσ' H' p'=>⟨n - (i+1),by omega,rfl,hlt,p'⟩,λx H' y=>?_⟩;obtain⟨s1,hp⟩:=wk.yld i H x H' hlt e y;exact hs i x σ H H' hlt p s1 hp
 ·have e':i=n:=by omega
  subst e';exact .inl ⟨wk.stop H e,hd σ H p⟩
inductive E3 {α1 α2 α3:Type}(p:α1->α2->α3->Prop):Prop
 |mk (a1:α1) (a2:α2) (a3:α3) (h:p a1 a2 a3):E3 p
inductive E4 {α1 α2 α3 α4:Type}(p:α1->α2->α3->α4->Prop):Prop
 |mk (a1:α1) (a2:α2) (a3:α3) (a4:α4) (h:p a1 a2 a3 a4):E4 p
inductive E5 {α1 α2 α3 α4 α5:Type}(p:α1->α2->α3->α4->α5->Prop):Prop
 |mk (a1:α1) (a2:α2) (a3:α3) (a4:α4) (a5:α5) (h:p a1 a2 a3 a4 a5):E5 p
inductive A3 (p1 p2 p3:Prop):Prop
 |mk (h1:p1) (h2:p2) (h3:p3):A3 p1 p2 p3
inductive A4 (p1 p2 p3 p4:Prop):Prop
 |mk (h1:p1) (h2:p2) (h3:p3) (h4:p4):A4 p1 p2 p3 p4
inductive A5 (p1 p2 p3 p4 p5:Prop):Prop
 |mk (h1:p1) (h2:p2) (h3:p3) (h4:p4) (h5:p5):A5 p1 p2 p3 p4 p5
inductive A6 (p1 p2 p3 p4 p5 p6:Prop):Prop
 |mk (h1:p1) (h2:p2) (h3:p3) (h4:p4) (h5:p5) (h6:p6):A6 p1 p2 p3 p4 p5 p6
inductive A7 (p1 p2 p3 p4 p5 p6 p7:Prop):Prop
 |mk (h1:p1) (h2:p2) (h3:p3) (h4:p4) (h5:p5) (h6:p6) (h7:p7):A7 p1 p2 p3 p4 p5 p6 p7
inductive A8 (p1 p2 p3 p4 p5 p6 p7 p8:Prop):Prop
 |mk (h1:p1) (h2:p2) (h3:p3) (h4:p4) (h5:p5) (h6:p6) (h7:p7) (h8:p8):A8 p1 p2 p3 p4 p5 p6 p7 p8
inductive A9 (p1 p2 p3 p4 p5 p6 p7 p8 p9:Prop):Prop
 |mk (h1:p1) (h2:p2) (h3:p3) (h4:p4) (h5:p5) (h6:p6) (h7:p7) (h8:p8) (h9:p9):A9 p1 p2 p3 p4 p5 p6 p7 p8 p9
inductive Ft (p1 p2 p3 p4 p5 p6 p7 p8 p9 p10:Prop):Prop
 |mk (h1:p1) (h2:p2) (h3:p3) (h4:p4) (h5:p5) (h6:p6) (h7:p7) (h8:p8) (h9:p9) (h10:p10):Ft p1 p2 p3 p4 p5 p6 p7 p8 p9 p10
structure Fn (P:Program)(w:World)(K:Fg)(mg:Str->Option Value)(base:Heap)(x:Str)(ps:List Str)(k:Nat)(sp:Sp):Prop where
 ex:∃ f fd,ck P w K mg base bL k f fd ps sp/\gF K fd ps []/\PySem.W.keepIn K (.ref f)=true/\mg x=some (.ref f)
variable {e:Expr}{es:List Expr}
section
variable {k j:Nat}{ps:List Str}{t:TA}
theorem qx (G:Fn X.prog X.w X.K X.mg X.base x ps j sp)(hr:aQ k X.A)(hg:Gl X x)(ha:PA X (e::es) t)(hj:↥(j<=k))(hdb:↥((x==("__debug__":Str))=false))
  (he:⇑(starEach (e::es) X.env=(false,eval e X.env)::starEach es X.env)) (hpl:⇑((backTo pos (starEach es X.env)).any (·.1)=false)):PE X (.Call (.Name x p) (e::es) [] pos) (nE sp [] E0 t):=by obtain⟨f,fd,F,hb,hk,hm⟩:=G.ex;exact CZ (F.mono hj) hr hg hm hk hb .nil cf ha hdb he hpl
end
theorem Fn.of{f:Addr}{ps:List Str}{k:Nat}(F:aS K x x st f fd)(S:aU N ps (aK st))(m:mg x=some (.ref f))(hb:∀(kV doc pm:Value) (an:Option Addr) (cdv ct:Value) (us:List Value),us.length=ps.length->bindArgs (PySem.W.fnOf x x (jL st) (gI st) (aK st) .none kV doc pm an cdv ct) ⟨us,[]⟩=pure (ps.zip us))(len:∀ vs H Q E,sp vs H Q E->vs.length=ps.length)(hbody:∀(cdv:Value) (A:Around) (outer:List Env) (s:Shared) (H:Hp) (vs:QV) (Q:VK) (E:XK),aQ k (A.deeper (envOfC x (aK st) s.heap.objs.size f cdv))->sp vs H Q E->
   ∃ t,fN (bU bL P w K mg base N x (aK st) f cdv A outer s H E).nox (gI st) t/\t {nx:=λ_ H'=>Q .non H',rt:=Q} (start N vs) H):Fn P w K mg base x ps (k+1) sp:=
 ⟨f,fd,F.ok S len hbody,F.binds hb,F.kp,m⟩
section
variable {k:Nat}
def nA (K:Fg):R2:=λx y H Q=>jQ (λi j=>.int (i+j)) x y H Q\/qv x y H Q\/Bx K x y H Q
theorem Hi:bV X (binaryOp .Add) (nA X.K):=Gg.or (FZ.or Iq)
def Cd:R2:=λx y H Q=>rI gb (λi j=>.int (i*j)) x y H Q\/ql x y H Q
theorem ik:bV X (binaryOp .Mult) Cd:=Gf.or FY
def gO (K:Fg):R2:=λx y H Q=>Fl x y H Q\/kq K false x y H Q
def ko (K:Fg):R2:=λx y H Q=>Fk x y H Q\/kq K true x y H Q
theorem GD (hr:aQ k X.A):bV X (compareOp .Eq) (gO X.K):=qB.or (GF hr)
theorem GC (hr:aQ k X.A):bV X (compareOp .NotEq) (ko X.K):=qA.or (GE hr)
end
def mP (K:Fg):QV->Hp->VK->Prop:=λxs H Q=>∃ p ys,xs=[.ref p]/\(ar K H p ys\/aH K H p ys)/\Q (.int ys.length) H
def wm (K:Fg):QV->Hp->VK->Prop:=λxs H Q=>∃ p ys,xs=[.ref p]/\(ar K H p ys\/aH K H p ys)/\∀ l,H l=none->Q (.ref l) (upd H l (.lst ys))
def vS (K:Fg):QV->Hp->VK->Prop:=λxs H Q=>∃ p ys,xs=[.ref p]/\((ar K H p ys/\∀ l,H l=none->Q (.ref l) (upd H l (.tup ys)))\/(aH K H p ys/\Q (.ref p) H))
def mR (K:Fg):QV->Hp->VK->Prop:=λxs H Q=>∃ x c t b,xs=[x,.ty c]/\dw K H x t/\PySem.W.kitOne K t (.type c)=some b/\Q (.bl b) H
def mV (K:Fg):QV->Hp->VK->Prop:=λxs H Q=>∃(p:Addr) (bs:List Bool),xs=[.ref p]/\ar K H p (bs.map V.bl)/\Q (.bl (bs.all id)) H
def mU (K:Fg):QV->Hp->VK->Prop:=λxs H Q=>∃(p:Addr) (bs:List Bool),xs=[.ref p]/\ar K H p (bs.map V.bl)/\Q (.bl (bs.any id)) H
def qp:QV->Hp->VK->Prop:=λxs H Q=>∃ i j,xs=[.int i,.int j]/\Q (.int (if j>i then j else i)) H
def qo:QV->Hp->VK->Prop:=λxs H Q=>∃ i j,xs=[.int i,.int j]/\Q (.int (if j<i then j else i)) H
def qu:QV->Hp->VK->Prop:=λxs H Q=>(∃ i,xs=[.int i]/\Q (.int i) H)\/∃ k,xs=[.bl k]/\Q (.int (if k then 1 else 0)) H
section
theorem si:dD X (.builtin "len") (mP X.K):=L3
theorem GB:dD X (.type "list") (wm X.K):=L0
theorem Hh:dD X (.type "tuple") (vS X.K):=Mg
theorem sj:dD X (.builtin "isinstance") (mR X.K):=LP
theorem sw (hc:X.calm=true):dD X (.builtin "all") (mV X.K):=ID hc
theorem sv (hc:X.calm=true):dD X (.builtin "any") (mU X.K):=IC hc
theorem BE (hc:X.calm=true):dD X (.builtin "max") qp:=Kb hc
theorem sh (hc:X.calm=true):dD X (.builtin "min") qo:=Ka hc
theorem sr:dD X (.type "int") qu:=J_
end
variable {c:TT}{ta tc:TE}{r:R2}{j:Int}{α:Type}
section
variable {tb:TE}{D:bI}
theorem BD{i:Nat}(h:σ[i]?=some (some v))(q:Q v H):i9 i σ H Q:=⟨v,h,q⟩
theorem ND(q:Q v H):tC v σ H Q:=q
theorem zI(h:ta σ H λx H1=>tb σ H1 λy H2=>r x y H2 Q):i_ r ta tb σ H Q:=h
theorem zD {r:V->Hp->VK->Prop}(h:ta σ H λx H1=>r x H1 Q):Fd r ta σ H Q:=h
theorem rg{g:Int->Int->V}(q:Q (g i j) H):jQ g (.int i) (.int j) H Q:=⟨i,j,rfl,rfl,q⟩
theorem rA(c:0<j)(q:Q (.int (i%j)) H):rI (λ_ j=>0<j) (λi j=>.int (i%j)) (.int i) (.int j) H Q:=⟨i,j,rfl,rfl,c,q⟩
theorem IA (q:Q (.int 1000000000) H):rI sS (λi j=>.int (i ^ j.toNat)) (.int 10) (.int 9) H Q:=⟨10,9,rfl,rfl,⟨by decide,by decide,by decide⟩,q⟩
theorem GA(c:0<j)(c2:j<1073741824)(q:Q (.int (i/j)) H):rI sT (λi j=>.int (i/j)) (.int i) (.int j) H Q:=⟨i,j,rfl,rfl,⟨c,c2⟩,q⟩
theorem zG{g:Int->V}(q:Q (g i) H):rU g (.int i) H Q:=⟨i,rfl,q⟩
theorem Hg(q:Q (.int (i+j)) H):nA K (.int i) (.int j) H Q:=.inl ⟨i,j,rfl,rfl,q⟩
theorem fi(h1:H a=some (.lst xs))(h2:H b=some (.lst ys))(z:xs.length+ys.length<=sizeLine)(q:∀ p,H p=none->Q (.ref p) (upd H p (.lst (xs++ys)))):nA K (.ref a) (.ref b) H Q:=.inr (.inl ⟨a,b,xs,ys,rfl,rfl,h1,h2,z,q⟩)
theorem t9(c:gb i j)(q:Q (.int (i*j)) H):Cd (.int i) (.int j) H Q:=.inl ⟨i,j,rfl,rfl,c,q⟩
theorem BC(q:Q (.bl (decide (i=j))) H):gO K (.int i) (.int j) H Q:=.inl ⟨rfl,by rw[show decide (V.int i=V.int j)=decide (i=j)by rw[decide_eq_decide];exact⟨λz=>by cases z;rfl,λz=>by rw[z]⟩];exact q⟩
theorem rq(q:Q (.bl (!decide (i=j))) H):ko K (.int i) (.int j) H Q:=.inl ⟨rfl,by rw[show decide (V.int i=V.int j)=decide (i=j)by rw[decide_eq_decide];exact⟨λz=>by cases z;rfl,λz=>by rw[z]⟩];exact q⟩
theorem rJ {i j:Str}(q:Q (.bl (decide (i=j))) H):gO K (.str i) (.str j) H Q:=.inl ⟨rfl,by rw[show decide (V.str i=V.str j)=decide (i=j)by rw[decide_eq_decide];exact⟨λz=>by cases z;rfl,λz=>by rw[z]⟩];exact q⟩
theorem vg{d e:L2.D}(h1:aq K H d (.ref a))(h2:aq K H e (.ref b))(n:dM d<=60)(q:Q (.bl (aF d e)) H):gO K (.ref a) (.ref b) H Q:=.inr ⟨a,b,d,e,rfl,rfl,h1,h2,n,q⟩
theorem Gz {Q:Bool->Hp->Prop}(h:ta σ H λx H'=>∃ k,x=.bl k/\Q k H'):oK ta σ H Q:=h
theorem NE {Q:Bool->Hp->Prop}(h:ta σ H λx H'=>∃ k,x=.bl k/\Q k H'):tB ta σ H Q:=h
theorem zN {P:Bool->Prop}{b:Bool}(h:P b):∃ k,V.bl b=.bl k/\P k:=⟨b,rfl,h⟩
theorem rj {Q:QV->Hp->Prop}(h:Q [] H):iq σ H Q:=h
theorem Gy {Q:QV->Hp->Prop}{tr:TA}(h:ta σ H λx H1=>tr σ H1 λxs H2=>Q (x::xs) H2):gj ta tr σ H Q:=h
theorem Gx{t:TA}(h:t σ H λvs H1=>sp vs H1 Q E0):nE sp [] E0 t σ H Q:=by
 have e:(λ(vs:QV) (H1:Hp)=>sp (vs++[]) H1 Q E0)=λvs H1=>sp vs H1 Q E0:=by funext vs H1;rw[Oo]
 show t σ H λvs H1=>sp (vs++[]) H1 Q E0;rw[e];exact h
theorem zO {r:QV->Hp->VK->Prop}{t:TA}(h:t σ H λvs H1=>r vs H1 Q):zq r t σ H Q:=h
theorem rC {t:TA}(h:t σ H λxs H1=>xs.length<=sizeLine/\∀ p,H1 p=none->Q (.ref p) (upd H1 p (.lst xs))):pW t σ H Q:=h
theorem rb {t:TA}(h:t σ H λxs H1=>xs.length<=sizeLine/\∀ p,H1 p=none->Q (.ref p) (upd H1 p (.tup xs))):pR t σ H Q:=h
theorem rM(h:ta σ H λx H1=>g x σ H1 D.nx):ir ta g D σ H:=h
theorem Hf{i:Nat}{Q:St->Hp->Prop}(h:Q (σ.set i (some v)) H):lY i v σ H Q:=h
theorem rf (h:ta σ H D.rt):kj ta D σ H:=h
theorem Gw (h:ta σ H λ_ H1=>D.nx σ H1):vA ta D σ H:=h
theorem Gv (h:D.nx σ H):sV D σ H:=h
theorem zK(h:c σ H λb H1=>if b=true then ta σ H1 Q else tb σ H1 Q):Fh c ta tb σ H Q:=h
theorem eW(h:ar K H a xs\/aH K H a xs)(q:Q (.int xs.length) H):mP K [.ref a] H Q:=⟨a,xs,rfl,h,q⟩
theorem NC{x:α}{xs:List α}:ix (x::xs).length 0=some 0:=by unfold ix;rw[NU (Int.le_refl 0),NU (by rw[N_];omega)];rfl
theorem dU{x:α}{xs:List α}:fe (x::xs) (0:Int)=some x:=bJ (j:=0) rfl
theorem bW(h:ar K H a xs)(e:fe xs i=some v)(q:Q v H):mQ K (.ref a) (.int i) H Q:=.inl ⟨a,xs,i,v,rfl,rfl,h,e,q⟩
theorem aZ(h:aH K H a xs)(e:fe xs i=some v)(q:Q v H):mQ K (.ref a) (.int i) H Q:=.inr (.inl ⟨a,xs,i,v,rfl,rfl,h,e,q⟩)
end
variable {R:It->Hp->Prop}{tl to:TE}
section
variable {tb:TE}{D:bI}
variable {p:Addr}
theorem jw{bs:List Bool}(h:ar K H p (bs.map V.bl))(q:Q (.bl (bs.all id)) H):mV K [.ref p] H Q:=⟨p,bs,rfl,h,q⟩
theorem rN{bs:List Bool}(h:ar K H p (bs.map V.bl))(q:Q (.bl (bs.any id)) H):mU K [.ref p] H Q:=⟨p,bs,rfl,h,q⟩
theorem BB(q:Q (.int (if j>i then j else i)) H):qp [.int i,.int j] H Q:=⟨i,j,rfl,q⟩
theorem rB(q:Q (.int (if j<i then j else i)) H):qo [.int i,.int j] H Q:=⟨i,j,rfl,q⟩
variable {b:Bool}
theorem Gu(q:Q (.int (if b then 1 else 0)) H):qu [.bl b] H Q:=.inr ⟨b,rfl,q⟩
theorem Gs (h:ta σ H λx H1=>∃ c,x=.bl c/\if c=true then tb σ H1 Q else Q (.bl false) H1):BK ta tb σ H Q:=h
theorem Gr (h:ta σ H λx H1=>∃ c,x=.bl c/\Q (.bl (!c)) H1):BJ ta σ H Q:=h
variable {u:TT}
theorem rO{t:TT}{Q:Bool->Hp->Prop}(h:t σ H λc H1=>if c=true then u σ H1 Q else Q false H1):qc t u σ H Q:=h
theorem zH{t:TT}{Q:Bool->Hp->Prop}(h:t σ H λc H1=>if c=true then Q true H1 else u σ H1 Q):Ff t u σ H Q:=h
theorem rh {t:TT}{Q:Bool->Hp->Prop}(h:t σ H λc H1=>Q (!c) H1):pV t σ H Q:=h
theorem kI{x:V}{t:Value}{c:String}(ty:dw K H x t)(e:PySem.W.kitOne K t (.type c)=some b)(q:Q (.bl b) H):
  mR K [x,.ty c] H Q:=⟨x,c,t,b,rfl,ty,e,q⟩
theorem rG{tb:TS}(h:wi σ H λJ H1=>sU J g tb D σ H1):pY wi g tb D σ H:=h
theorem Gq(h:wi σ H λJ H1=>tz J g tt te (ff ms σ) H1 Q):nB ms wi g tt te σ H Q:=h
theorem He(h:tl σ H λx H1=>∃ a,x=.ref a/\(∃ xs,ar K H1 a xs)/\R (lR K a) H1):vw K tl σ H R:=h
theorem Gp(h:tl σ H λx H1=>∃ a,x=.ref a/\(∃ xs,aH K H1 a xs)/\R (u_ K a) H1):mY K tl σ H R:=h
theorem q_{t:TA}(h:t σ H λvs H1=>∃ a b,vs=[.ref a,.ref b]/\(∃ xs,ar K H1 a xs)/\(∃ ys,ar K H1 b ys)/\R (u9 K a b) H1):mX K t σ H R:=h
theorem Gn{t:TA}(h:t σ H λvs H1=>∃ a xs,vs=[.ref a]/\H1 a=some (.lst xs)/\R (vc K a) H1):vh K t σ H R:=h
theorem GQ{t:TA}(h:t σ H λvs H1=>∃ j:Int,vs=[.int j]/\-(2 ^ 62)<=j/\j<2 ^ 62/\R (kF 0 j.toNat) H1):BA t σ H R:=h
variable {P:Int->Prop}
theorem iX(h1:-(2 ^ 62)<=j)(h2:j<2 ^ 62)(h:P j):∃ k:Int,[V.int j]=[.int k]/\-(2 ^ 62)<=k/\k<2 ^ 62/\P k:=⟨j,rfl,h1,h2,h⟩
theorem zE {r:V->Option Int->Option Int->Hp->VK->Prop}{tl th:TO}(h:ta σ H λx H1=>tl σ H1 λl H2=>th σ H2 λu H3=>r x l u H3 Q):Fe r ta tl th σ H Q:=h
theorem Iz {Q:Option Int->Hp->Prop}(h:Q none H):CV σ H Q:=h
theorem GP {Q:Option Int->Hp->Prop}(h:ta σ H λx H1=>∃ i,x=.int i/\Q (some i) H1):By ta σ H Q:=h
theorem G_(h:P i):∃ j,V.int i=.int j/\P j:=⟨i,rfl,h⟩
theorem GO{ti:TE}{t:kD}{Q:St->Hp->Prop}(h:to σ H λo H1=>ti σ H1 λi H2=>t o i v H2 λH3=>Q σ H3):rR to ti t v σ H Q:=h
theorem tw{k:Int}{j:Nat}{Q:Hp->Prop}(h:H a=some (.lst xs))(e:ix xs.length k=some j)(q:Q (upd H a (.lst (xs.set j v)))):Bw (.ref a) (.int k) v H Q:=⟨a,xs,k,j,rfl,rfl,h,e,q⟩
theorem tZ(h:ar K H a ys\/aH K H a ys)(q:∀ l,H l=none->Q (.ref l) (upd H l (.lst ys))):
  wm K [.ref a] H Q:=⟨a,ys,rfl,h,q⟩
end
section
variable {k:Nat}
theorem GN (K:Fg)(hK:⇑(X.K=K)):bV X (binaryOp .Add) (nA K):=by subst hK;exact Hi
theorem qX (K:Fg)(hr:aQ k X.A)(hK:⇑(X.K=K)):bV X (compareOp .Eq) (gO K):=by subst hK;exact GD hr
theorem jh (K:Fg)(hr:aQ k X.A)(hK:⇑(X.K=K)):bV X (compareOp .NotEq) (ko K):=by subst hK;exact GC hr
theorem qW (K:Fg)(hK:⇑(X.K=K)):bV X (compareOp .In) (uN K false):=by subst hK;exact Kw
theorem zC (K:Fg)(hK:⇑(X.K=K)):jU X (mQ K):=by subst hK;exact F0
def Fj (K:Fg):V->Option Int->Option Int->Hp->VK->Prop:=λx lo hi H Q=>qk K x lo hi H Q\/qj K x lo hi H Q
theorem je (K:Fg)(hK:⇑(X.K=K)):lQ X (Fj K):=by subst hK;exact Io.or Gb
theorem eQ (K:Fg)(hK:⇑(X.K=K)):dD X (.builtin "len") (mP K):=by subst hK;exact si
theorem tu (K:Fg)(hK:⇑(X.K=K)):dD X (.type "list") (wm K):=by subst hK;exact GB
theorem G0 (K:Fg)(hK:⇑(X.K=K)):dD X (.type "tuple") (vS K):=by subst hK;exact Hh
theorem s_ (K:Fg)(hK:⇑(X.K=K)):dD X (.builtin "isinstance") (mR K):=by subst hK;exact sj
theorem ju (K:Fg)(hc:X.calm=true)(hK:⇑(X.K=K)):dD X (.builtin "all") (mV K):=by subst hK;exact sw hc
theorem BI (K:Fg)(hc:X.calm=true)(hK:⇑(X.K=K)):dD X (.builtin "any") (mU K):=by subst hK;exact sv hc
variable {l:Expr}
theorem db(K:Fg)(hl:PE X l tl)(hK:⇑(X.K=K)):PI X tg l (vw K tl):=by subst hK;exact Ii hl
theorem oQ(K:Fg)(hl:PE X l tl)(hK:⇑(X.K=K)):PI X tg l (mY K tl):=by subst hK;exact Gh hl
variable {a:Expr}{ta:TA}
theorem vR(K:Fg){b:Expr}(hg:Gl X "zip")(hm:X.mg "zip"=none)(ha:PA X [a,b] ta)(hK:⇑(X.K=K))(hs:⇑(starEach [a,b] X.env=[(false,eval a X.env),(false,eval b X.env)]))(hs2:⇑(starEach [b] X.env=[(false,eval b X.env)])):
  PI X (.Tuple elts kx tpos) (.Call (.Name "zip" p) [a,b] [] pos) (mX K ta):=by subst hK;exact GH hg hm ha hs hs2
theorem GZ(K:Fg)(hg:Gl X "enumerate")(hm:X.mg "enumerate"=none)(ha:PA X [a] ta)(hK:⇑(X.K=K))(hs:⇑(starEach [a] X.env=[(false,eval a X.env)])):
  PI X (.Tuple elts kx tpos) (.Call (.Name "enumerate" p) [a] [] pos) (vh K ta):=by subst hK;exact Hj hg hm ha hs
theorem kS(K:Fg){kk:Nat}{t:lO}(hc:X.calm=true)(h:sG X es t)(hK:⇑(X.K=K))(hn:⇑((assignEach es X.env).length=n))(hst:⇑((assignEach es X.env).findIdx? (·.1)=none)):
  PG X (.Tuple es kk pos) (rQ K n t):=by subst hK;exact Gk hc h hn hst
theorem kP(K:Fg){f:Str}{ta:TE}(he:PE X e ta)(hb:attributeBase e f X.env (eval e X.env)=eval e X.env)(hK:⇑(X.K=K)):PE X (.Attribute e f pos) (km K ta f):=by subst hK;exact Gd he hb
end
theorem pI{f:Nat->D}{i:Nat}(h:((List.range n).map f)[i]?=some d):d=f i:=by rw[aR]at h;obtain⟨j,hj,rfl⟩:=ce.mp h;have hl:=(dF.mp hj).1;rw[OU]at hl;have hi:i<n:=hl;rw[OL hi]at hj;cases hj;rfl
theorem dS(hg:Gl X x)(hm:∃ t,X.mg x=some (.int i t))(hd:↥((x==("__debug__":Str))=false)):PE X (.Name x pos) (tC (.int i)):=by obtain⟨t,hm⟩:=hm;exact CN hg hm ⟨t,rfl⟩ hd
theorem qY{A:Prop}(h:B):if(!true)=true then A else B:=iy h
theorem qZ{A:Prop}(h:A):if(!false)=true then A else B:=ji h
theorem bF(h:n<=1000):n<=sizeLine:=O7 (kc h)
theorem sl(h:Nat.ble n 1000=true):n<=sizeLine:=bF (Nat.le_of_ble_eq_true h)
theorem zM{r:V->QV->Hp->VK->Prop}{t:TA}(h:to σ H λx H1=>oC K T x H1/\t σ H1 λxs H2=>r x xs H2 Q):Fi K T r to t σ H Q:=h
theorem lK(h:H a=some (.lst xs)):oC K "list" (.ref a) H:=.inl ⟨rfl,_,ar.of h⟩
theorem vf(h:H a=some (.lst xs))(z:xs.length<sizeLine)(q:Q .non (upd H a (.lst (xs++[y])))):CS (.ref a) [y] H Q:=⟨a,xs,y,rfl,rfl,h,z,q⟩
theorem ak.bls_eq:∀{bs:List Bool}{vs:QV}{fp:QW},ak H (bs.map D.bl) vs fp->vs=bs.map V.bl/\fp=[]
 |[],_,_,h=>by unfold List.map ak at h;exact h|n::ns,_,_,h=>by rw[bw]at h;unfold ak at h;obtain⟨v,r,f,g,rfl,rfl,h1,h2⟩:=h;unfold ai at h1;obtain⟨rfl,rfl⟩:=h1;obtain⟨rfl,rfl⟩:=ak.bls_eq h2;exact⟨rfl,rfl⟩
theorem ao.bls{bs:List Bool}(h:ao H H' (.lst (bs.map D.bl)) v):∃ a,v=.ref a/\H a=none/\H' a=some (.lst (bs.map V.bl)):=by obtain⟨fp,h1,h2,h3⟩:=h;unfold ai at h1;obtain⟨a,xs,r,e1,e2,e3,e4⟩:=h1;obtain⟨rfl,rfl⟩:=ak.bls_eq e4;subst e2;exact⟨a,e1,h3 a NW,e3⟩
theorem ao.lso(h:ao H H' (.lst ds) v):∃ a vs fp,v=.ref a/\H a=none/\H' a=some (.lst vs)/\ak H' ds vs fp/\fp.Nodup/\a∉fp/\∀ b∈fp,H b=none:=by obtain⟨fp,h1,h2,h3⟩:=h;unfold ai at h1;obtain⟨a,xs,r,e1,e2,e3,e4⟩:=h1;subst e2;exact⟨a,xs,r,e1,h3 a NW,e3,e4,(Og.mp h2).2,(Og.mp h2).1,λb m=>h3 b (NZ _ m)⟩
theorem tM{D:bI}(Pv:Nat->St->Hp->Prop)(h0:Pv 0 σ H)(hs:∀ i σ H,i<n->Pv i σ H->g (.int (lo+i)) σ H λσ2 H2=>tb {D with nx:=Pv (i+1),ct:=Pv (i+1),bk:=D.nx} σ2 H2)(hd:∀ σ H,Pv n σ H->D.nx σ H):sU (kF lo n) g tb D σ H:=Kc Pv h0 hs hd
theorem pj{D:bI}(Pv:Nat->St->Hp->Prop)(h0:Pv 0 σ H)(hl:∀ i σ H,i<=xs.length->Pv i σ H->ar K H a xs)(hs:∀ i x σ H,xs[i]?=some x->Pv i σ H->g x σ H λσ2 H2=>tb {D with nx:=Pv (i+1),ct:=Pv (i+1),bk:=D.nx} σ2 H2)(hd:∀ σ H,Pv xs.length σ H->D.nx σ H):sU (lR K a) g tb D σ H:=IX Pv h0 hl hs hd
theorem tL:∀{ds:List D},(∀ d∈ds,dM d<=n)->cN ds<=n
 |[],_=>by unfold cN;exact OF _|d::ds,h=>by unfold cN;exact Nat.max_le.mpr ⟨h d NW,tL λe he=>h e (NZ _ he)⟩
theorem Ea (ls:QT):dM (.lst (ls.map nums))<=2:=by unfold dM;refine O8 (tL λd hd=>?_);obtain⟨l,_,rfl⟩:=bB.mp hd;exact t_ l
theorem boot_len:bootBuiltins "len"=some (.builtin "len"):=PySem.boot_len
theorem om:bootBuiltins "list"=some (.type "list"):=by decide+kernel
theorem Eo:bootBuiltins "tuple"=some (.type "tuple"):=by decide+kernel
theorem Dk:bootBuiltins "int"=some (.type "int"):=by decide+kernel
theorem KB:bootBuiltins "bool"=some (.type "bool"):=by decide+kernel
theorem uH:bootBuiltins "isinstance"=some (.builtin "isinstance"):=by decide+kernel
theorem jO:bootBuiltins "all"=some (.builtin "all"):=by decide+kernel
theorem DE:bootBuiltins "any"=some (.builtin "any"):=by decide+kernel
theorem DD:bootBuiltins "max"=some (.builtin "max"):=by decide+kernel
theorem Jq:bootBuiltins "min"=some (.builtin "min"):=by decide+kernel
theorem tY{t:Value}:PySem.W.kitOne K t t=some true:=by unfold PySem.W.kitOne;simp
theorem L9:PySem.W.kitOne K (.type "int") (.type "bool")=some false:=by rfl
structure kE (P:Program)(w:World)(K:Fg)(mg:Str->Option Value)(base:Heap)(x:Str)(C:Addr)(ps:List Str)(k:Nat)(sp:Sp):Prop where
 ex:∃ f fd,Mk K C f/\ck P w K mg base bL k f fd ps sp/\gF K fd ps []/\mg x=some (.ref C)
section
variable {k j:Nat}{ps:List Str}{t:TA}
theorem ve (G:kE X.prog X.w X.K X.mg X.base x C ps j sp)(hr:aQ k X.A)(hg:Gl X x)(ha:PA X (e::es) t)(hj:↥(j+1<=k))(hdb:↥((x==("__debug__":Str))=false))
  (he:⇑(starEach (e::es) X.env=(false,eval e X.env)::starEach es X.env)) (hpl:⇑((backTo pos (starEach es X.env)).any (·.1)=false)):PE X (.Call (.Name x p) (e::es) [] pos) (kJ C sp [] E0 t):=by obtain⟨f,fd,M,F,hb,hm⟩:=G.ex;exact CY M F (hr.mono hj) hg hm hb .nil cf ha hdb he hpl
theorem GM(h:t σ H λvs H1=>∀ y dx,H1 y=none->H1 dx=none->dx≠y->sp (.ref y::vs) (upd (upd H1 dx (.own y)) y (.ins C dx [])) (λv H2=>v=.non/\Q (.ref y) H2) E0):kJ C sp [] E0 t σ H Q:=by
 have e:(λ(vs:QV) (H1:Hp)=>∀ y dx,H1 y=none->H1 dx=none->dx≠y->sp (.ref y::(vs++[])) (upd (upd H1 dx (.own y)) y (.ins C dx [])) (λv H2=>v=.non/\Q (.ref y) H2) E0)
   =λvs H1=>∀ y dx,H1 y=none->H1 dx=none->dx≠y->sp (.ref y::vs) (upd (upd H1 dx (.own y)) y (.ins C dx [])) (λv H2=>v=.non/\Q (.ref y) H2) E0:=by funext vs H1;rw[Oo]
 show t σ H λvs H1=>∀ y dx,H1 y=none->H1 dx=none->dx≠y->sp (.ref y::(vs++[])) (upd (upd H1 dx (.own y)) y (.ins C dx [])) (λv H2=>v=.non/\Q (.ref y) H2) E0;rw[e];exact h
end
variable {tv:TE}
section
variable {D:bI}{f:Str}
theorem rH (h:ta σ H λx H1=>ng K f x H1 Q):km K ta f σ H Q:=h
theorem GL (h:tv σ H λy H1=>ta σ H1 λx H2=>m_ K f y x H2 (D.nx σ)):qg K ta tv f D σ H:=h
end
theorem GY{r':R2}{tb:TE}(h:ta σ H λx H1=>tb σ H1 λy H2=>r x y H2 λz H3=>∃ k,z=.bl k/\if k=true then tc σ H3 λw H4=>r' y w H4 Q else Q (.bl false) H3):vL r r' ta tb tc σ H Q:=h
theorem ak.nil:ak H [] [] []:=by unfold ak;exact⟨rfl,rfl⟩
theorem ak.cint(h:ak H ds xs fp):ak H (.int i::ds) (.int i::xs) fp:=by unfold ak;exact⟨_,_,[],fp,rfl,rfl,by unfold ai;exact⟨rfl,rfl⟩,h⟩
theorem ak.cstr{i:Str}(h:ak H ds xs fp):ak H (.str i::ds) (.str i::xs) fp:=by unfold ak;exact⟨_,_,[],fp,rfl,rfl,by unfold ai;exact⟨rfl,rfl⟩,h⟩
theorem ak.cany{f:QW}(q:ai H d v f)(h:ak H ds xs fp):ak H (d::ds) (v::xs) (f++fp):=by unfold ak;exact⟨_,_,f,fp,rfl,rfl,q,h⟩
theorem ai.line(h:H a=some (.lst (ns.map V.int))):ai H (nums ns) (.ref a) [a]:=by unfold ai;exact⟨a,_,[],rfl,rfl,h,ak.ints⟩
theorem ai.pair{t:Addr}(h:H t=some (.tup [.int i,.int j])):ai H (.tup [.int i,.int j]) (.ref t) []:=by unfold ai;exact⟨t,_,rfl,h,ak.nil.cint.cint⟩
theorem ak.lines:∀{ls:QT}{vs:QV}{fp:QW},ak H (ls.map nums) vs fp->vs=fp.map V.ref/\fp.length=ls.length/\∀(i:Nat) (a:Addr),fp[i]?=some a->∃ l,ls[i]?=some l/\H a=some (.lst (l.map V.int))
 |[],_,_,h=>by rw[Oh]at h;unfold ak at h;obtain⟨rfl,rfl⟩:=h;exact⟨rfl,rfl,λi a e=>by simp at e⟩
 |l::ls,_,_,h=>by
  rw[bw]at h;unfold ak at h;obtain⟨v,r,f,g,rfl,rfl,h1,h2⟩:=h;obtain⟨rfl,e2,e3⟩:=ak.lines h2;unfold ai at h1;obtain⟨a,xs,r,rfl,rfl,e4,e5⟩:=h1;obtain⟨rfl,rfl⟩:=ak.ints_eq e5;refine⟨rfl,by simp[e2],λi b e=>?_⟩;cases i with
  |zero=>simp at e;subst e;exact⟨l,rfl,e4⟩
  |succ i=>exact e3 i b (by simpa using e)
theorem L8:PySem.W.kitOne K (.type "int") (.type "list")=some false:=by rfl
theorem L7:PySem.W.kitOne K (.type "str") (.type "list")=some false:=by rfl
theorem MM:PySem.W.kitOne K (.type "tuple") (.type "list")=some false:=by rfl
theorem Jp(h:ar K H a ys)(q:∀ l,H l=none->Q (.ref l) (upd H l (.tup ys))):vS K [.ref a] H Q:=⟨a,ys,rfl,.inl ⟨h,q⟩⟩
theorem zJ{neg:Bool}{x:V}(h:ar K H a xs\/aH K H a xs)(f1:gi x=true)(f2:xs.all gi=true)(q:Q (.bl (if neg then !mW x xs else mW x xs)) H):uN K neg x (.ref a) H Q:=⟨a,xs,rfl,h,f1,f2,q⟩
theorem jK(hg:Gl X x)(hm:X.mg x=some (.ref a))(hd:↥((x==("__debug__":Str))=false)):PE X (.Name x pos) (tC (.ref a)):=CN hg hm rfl hd
def bD (H H':Hp)(ds:List D)(vs:QV):Prop:=∃ fp,ak H' ds vs fp/\fp.Nodup/\∀ a∈fp,H a=none
theorem bD.nil:bD H H' [] []:=⟨[],ak.nil,OA,λ_ m=>by cases m⟩
theorem bD.snoc(h:bD H H1 ds vs)(e:ae H H1)(e2:ae H1 H2)(n:ao H1 H2 d v):bD H H2 (ds++[d]) (vs++[v]):=by
 obtain⟨fp,h1,h2,h3⟩:=h;obtain⟨fq,g1,g2,g3⟩:=n;have keep:∀ a∈fp,H2 a=H1 a:=λa m=>by obtain⟨o,ho⟩:=ak.has ds h1 a m;rw[ho,e2 a o ho]
 refine⟨fp++fq,(ak.frame e2.tups ds keep h1).snoc g1,Oz.mpr ⟨h2,g2,λa ha b hb z=>?_⟩,λa m=>?_⟩
 ·subst z;obtain⟨o,ho⟩:=ak.has ds h1 a ha;have:=g3 a hb;rw[ho]at this;cases this
 ·rcases bC.mp m with m|m
  ·exact h3 a m
  ·exact e.free (g3 a m)
theorem bD.lst(h:bD H H1 ds vs)(e:ae H H1)(ha:H1 a=none):ao H (upd H1 a (.lst vs)) (.lst ds) (.ref a):=by
 obtain⟨fp,h1,h2,h3⟩:=h;have s:=aB ha (.lst vs);refine ao.lst (ak.frame s.tups ds (λb m=>?_) h1) h2 h3 (e.free ha) (λm=>?_) aw
 ·obtain⟨o,ho⟩:=ak.has ds h1 b m;rw[ho,s b o ho]
 ·obtain⟨o,ho⟩:=ak.has ds h1 a m;rw[ha]at ho;cases ho
theorem ao.news(h:ao H H' (.lst ds) v):∃ a vs,v=.ref a/\H a=none/\H' a=some (.lst vs)/\bD H H' ds vs:=by obtain⟨a,vs,fp,e1,e2,e3,e4,e5,_,e6⟩:=ao.lso h;exact⟨a,vs,e1,e2,e3,fp,e4,e5,e6⟩
def qd:HO->Bool
 |.lst _=>true|.tup _=>true|.frz _ _=>true|_=>false
def Sq (H H':Hp):Prop:=∀ b o,H b=some o->qd o=true->H' b=some o
theorem ae.sq(e:ae H H'):Sq H H':=λb o h _=>e b o h
theorem Sq.trans(a:Sq H H1)(b:Sq H1 H2):Sq H H2:=λc o h q=>b c o (a c o h q) q
theorem jF{p:Addr}{u:HO}(h:H p=some u)(n:qd u=false):Sq H (upd H p o):=λb w e q=>by rw[aE (λz=>by rw[z,h]at e;cases e;rw[n]at q;cases q)];exact e
theorem Sq.lst(e:Sq H H')(h:ar K H a xs):ar K H' a xs:=by
 rcases h with(h|⟨o,h⟩)|h
 ·exact .inl (.inl (e _ _ h rfl))
 ·exact .inl (.inr ⟨o,e _ _ h rfl⟩)
 ·exact .inr h
theorem Sq.tup(e:Sq H H')(h:aH K H a xs):aH K H' a xs:=by
 rcases h with(h|⟨o,h⟩)|h
 ·exact .inl (.inl (e _ _ h rfl))
 ·exact .inl (.inr ⟨o,e _ _ h rfl⟩)
 ·exact .inr h
mutual
theorem aq.sq {K:Fg}{H H':Hp}(e:Sq H H'):∀(d:D) {v:V},aq K H d v->aq K H' d v
 |.non,_,h=>by unfold aq at*;exact h|.bl _,_,h=>by unfold aq at*;exact h|.int _,_,h=>by unfold aq at*;exact h|.str _,_,h=>by unfold aq at*;exact h|.lst ds,_,h=>by unfold aq at*;obtain⟨a,xs,h1,h2,h3⟩:=h;exact⟨a,xs,h1,e.lst h2,av.sq e ds h3⟩|.tup ds,_,h=>by unfold aq at*;obtain⟨a,xs,h1,h2,h3⟩:=h;exact⟨a,xs,h1,e.tup h2,av.sq e ds h3⟩
theorem av.sq {K:Fg}{H H':Hp}(e:Sq H H'):∀(ds:List D) {vs:QV},av K H ds vs->av K H' ds vs
 |[],_,h=>by unfold av at*;exact h|d::ds,_,h=>by unfold av at*;obtain⟨v,r,h1,h2,h3⟩:=h;exact⟨v,r,h1,aq.sq e d h2,av.sq e ds h3⟩
end
mutual
theorem ai.sq {H H':Hp}(e:Sq H H'):∀(d:D) {v:V}{fp:QW},ai H d v fp->ai H' d v fp
 |.non,_,_,h=>by unfold ai at*;exact h|.bl _,_,_,h=>by unfold ai at*;exact h|.int _,_,_,h=>by unfold ai at*;exact h|.str _,_,_,h=>by unfold ai at*;exact h|.lst ds,_,_,h=>by unfold ai at*;obtain⟨a,xs,r,h1,h0,h2,h3⟩:=h;exact⟨a,xs,r,h1,h0,e _ _ h2 rfl,ak.sq e ds h3⟩|.tup ds,_,_,h=>by unfold ai at*;obtain⟨a,xs,h1,h2,h3⟩:=h;exact⟨a,xs,h1,e _ _ h2 rfl,ak.sq e ds h3⟩
theorem ak.sq {H H':Hp}(e:Sq H H'):∀(ds:List D) {vs:QV}{fp:QW},ak H ds vs fp->ak H' ds vs fp
 |[],_,_,h=>by unfold ak at*;exact h|d::ds,_,_,h=>by unfold ak at*;obtain⟨v,r,f,g,h1,h0,h2,h3⟩:=h;exact⟨v,r,f,g,h1,h0,ai.sq e d h2,ak.sq e ds h3⟩
end
def cO (H H':Hp):Prop:=∀ a,H' a=none->H a=none
theorem ae.fr(e:ae H H'):cO H H':=λ_ h=>e.free h
theorem cO.trans(a:cO H H1)(b:cO H1 H2):cO H H2:=λc h=>a c (b c h)
theorem jN{p:Addr}:cO H (upd H p o):=λa h=>by
 by_cases e:a=p
 ·subst e;rw[aw]at h;cases h
 ·rw[aE e]at h;exact h
theorem bD.sq(e:Sq H1 H2)(h:bD H H1 ds vs):bD H H2 ds vs:=by obtain⟨fp,h1,h2,h3⟩:=h;exact⟨fp,ak.sq e ds h1,h2,h3⟩
theorem ao.sq(e:Sq H1 H2)(h:ao H H1 d v):ao H H2 d v:=by obtain⟨fp,h1,h2,h3⟩:=h;exact⟨fp,ai.sq e d h1,h2,h3⟩
theorem bD.snoc'(h:bD H H1 ds vs)(e:cO H H1)(e2:ae H1 H2)(n:ao H1 H2 d v):bD H H2 (ds++[d]) (vs++[v]):=by
 obtain⟨fp,h1,h2,h3⟩:=h;obtain⟨fq,g1,g2,g3⟩:=n;refine⟨fp++fq,(ak.sq e2.sq ds h1).snoc g1,Oz.mpr ⟨h2,g2,λa ha b hb z=>?_⟩,λa m=>?_⟩
 ·subst z;obtain⟨o,ho⟩:=ak.has ds h1 a ha;have:=g3 a hb;rw[ho]at this;cases this
 ·rcases bC.mp m with m|m
  ·exact h3 a m
  ·exact e a (g3 a m)
def dO (H:Hp)(d:D)(x:V):Prop:=(∃ i,d=.int i/\x=.int i)\/(∃ s,d=.str s/\x=.str s)\/(∃ b l,d=nums l/\x=.ref b/\H b=some (.lst (l.map V.int)))\/∃ b i j,d=.tup [.int i,.int j]/\x=.ref b/\H b=some (.tup [.int i,.int j])
def jJ (H:Hp)(d:D)(v:V):Prop:=∃ t xs ds,d=.tup ds/\v=.ref t/\H t=some (.tup xs)/\ds.length=xs.length/\ds.length<=8/\∀(i:Nat) dd x,ds[i]?=some dd->xs[i]?=some x->dO H dd x
theorem dO.sq(e:Sq H H'){x:V}(h:dO H d x):dO H' d x:=by
 rcases h with h|h|⟨b,l,h1,h2,h3⟩|⟨b,i,j,h1,h2,h3⟩
 ·exact .inl h
 ·exact .inr (.inl h)
 ·exact .inr (.inr (.inl ⟨b,l,h1,h2,e _ _ h3 rfl⟩))
 ·exact .inr (.inr (.inr ⟨b,i,j,h1,h2,e _ _ h3 rfl⟩))
theorem jJ.sq(e:Sq H H')(h:jJ H d v):jJ H' d v:=by obtain⟨t,xs,ds,h1,h2,h3,h4,h5,h6⟩:=h;exact⟨t,xs,ds,h1,h2,e _ _ h3 rfl,h4,h5,λi dd x e1 e2=>(h6 i dd x e1 e2).sq e⟩
def vQ (d:D):Prop:=(∃ i,d=.int i)\/(∃ s,d=.str s)\/(∃ l,l.length=9/\d=nums l)\/∃ i j,d=.tup [.int i,.int j]
theorem GX(s:vQ d)(h:ai H d v fp):dO H d v:=by
 rcases s with⟨i,rfl⟩|⟨i,rfl⟩|⟨l,_,rfl⟩|⟨i,j,rfl⟩
 ·unfold ai at h;exact .inl ⟨i,rfl,h.1⟩
 ·unfold ai at h;exact .inr (.inl ⟨i,rfl,h.1⟩)
 ·unfold ai at h;obtain⟨a,xs,r,h1,_,h2,h3⟩:=h;obtain⟨rfl,_⟩:=ak.ints_eq h3;exact .inr (.inr (.inl ⟨a,l,rfl,h1,h2⟩))
 ·unfold ai at h;obtain⟨a,xs,h1,h2,h3⟩:=h;have q:=ak.ints_eq (ns:=[i,j]) h3;rw[q.1]at h2;exact .inr (.inr (.inr ⟨a,i,j,rfl,h1,h2⟩))
theorem DC:∀{ds:List D}{xs:QV}{fp:QW},(∀ d∈ds,vQ d)->ak H ds xs fp->∀(i:Nat) dd x,ds[i]?=some dd->xs[i]?=some x->dO H dd x
 |[],_,_,_,_,i,dd,x,e,_=>by simp at e
 |d::ds,_,_,s,h,i,dd,x,e1,e2=>by
  unfold ak at h;obtain⟨v,r,f,g,rfl,_,h1,h2⟩:=h;cases i with
  |zero=>simp at e1 e2;subst e1;subst e2;exact GX (s d NW) h1
  |succ i=>exact DC (λc hc=>s c (NZ _ hc)) h2 i dd x (by simpa using e1) (by simpa using e2)
def sR (d:D):Prop:=∃ ds,d=.tup ds/\ds.length<=8/\∀ c∈ds,vQ c
theorem wl(s:sR d)(h:ai H d v fp):jJ H d v:=by obtain⟨ds,rfl,h8,hs⟩:=s;unfold ai at h;obtain⟨a,xs,h1,h2,h3⟩:=h;exact⟨a,xs,ds,rfl,h1,h2,h3.length,h8,DC hs h3⟩
def fF (H:Hp)(da:Addr)(H2:Hp)(ds:List D)(vs:QV):Prop:=∃ fp,H2 da=some (.lst vs)/\ak H2 ds vs fp/\fp.Nodup/\da∉fp/\∀ b∈fp,H b=none
variable {da:Addr}
theorem fF.start(h:H2 da=some (.lst [])):fF H da H2 [] []:=⟨[],h,ak.nil,OA,by simp,λ_ m=>by cases m⟩
variable {H3:Hp}
theorem fF.app(a:fF H da H2 ds vs)(f:cO H H2)(s:ae H2 H3)(n:ao H2 H3 d v):fF H da (upd H3 da (.lst (vs++[v]))) (ds++[d]) (vs++[v]):=by
 obtain⟨fp,h1,h2,h3,h4,h5⟩:=a;obtain⟨fq,g1,g2,g3⟩:=n;have hd3:=s _ _ h1;have tk:=kg (o:=.lst (vs++[v])) hd3;have ndq:da∉fq:=λm=>by have:=g3 da m;rw[h1]at this;cases this
 have k1:∀ b∈fp,(upd H3 da (.lst (vs++[v]))) b=H2 b:=λb hb=>by obtain⟨o,ho⟩:=ak.has ds h2 b hb;rw[aE (show b≠da from λz=>h4 (by rw[<-z];exact hb)),ho];exact s _ _ ho
 have k2:∀ b∈fq,(upd H3 da (.lst (vs++[v]))) b=H3 b:=λb hb=>by rw[aE (show b≠da from λz=>ndq (by rw[<-z];exact hb))]
 refine⟨fp++fq,aw,(ak.frame (s.tups.trans tk) ds k1 h2).snoc (ai.frame tk d k2 g1),Oz.mpr ⟨h3,g2,λa ha b hb z=>?_⟩,λm=>(bC.mp m).elim h4 ndq,λb m=>?_⟩
 ·subst z;obtain⟨o,ho⟩:=ak.has ds h2 a ha;have:=g3 a hb;rw[ho]at this;cases this
 ·rcases bC.mp m with m|m
  ·exact h5 b m
  ·exact f b (g3 b m)
theorem fF.new(a:fF H da H2 ds vs)(h:H da=none):ao H H2 (.lst ds) (.ref da):=by obtain⟨fp,h1,h2,h3,h4,h5⟩:=a;exact ao.lst h2 h3 h5 h h4 h1
theorem vH{d1 d2 d3 d4:D}(h:ak H [d1,d2,d3,d4] vs fp):∃ x1 x2 x3 x4 f1 f2 f3 f4,vs=[x1,x2,x3,x4]/\ai H d1 x1 f1/\ai H d2 x2 f2/\ai H d3 x3 f3/\ai H d4 x4 f4:=by unfold ak at h;obtain⟨x1,_,f1,_,rfl,_,h1,h⟩:=h;unfold ak at h;obtain⟨x2,_,f2,_,rfl,_,h2,h⟩:=h;unfold ak at h;obtain⟨x3,_,f3,_,rfl,_,h3,h⟩:=h;unfold ak at h;obtain⟨x4,_,f4,_,rfl,_,h4,h⟩:=h;unfold ak at h;obtain⟨rfl,_⟩:=h;exact⟨x1,x2,x3,x4,f1,f2,f3,f4,rfl,h1,h2,h3,h4⟩
theorem ai.lso{x:V}(h:ai H (.lst ds) x fp):∃ b xs r,x=.ref b/\H b=some (.lst xs)/\ak H ds xs r:=by unfold ai at h;obtain⟨b,xs,r,e1,_,e3,e4⟩:=h;exact⟨b,xs,r,e1,e3,e4⟩
theorem ak.item:∀{ds:List D}{xs:QV}{fp:QW},ak H ds xs fp->∀(i:Nat) d x,ds[i]?=some d->xs[i]?=some x->∃ f,ai H d x f
 |[],_,_,_,i,d,x,e,_=>by simp at e
 |c::ds,_,_,h,i,d,x,e1,e2=>by
  unfold ak at h;obtain⟨v,r,f,g,rfl,_,h1,h2⟩:=h;cases i with
  |zero=>simp at e1 e2;subst e1;subst e2;exact⟨f,h1⟩
  |succ i=>exact ak.item h2 i d x (by simpa using e1) (by simpa using e2)
variable {Y:Prop}
theorem ib{b:Bool}{X:Prop}(h1:b=true->X)(h2:b=false->Y):∃ c,V.bl b=.bl c/\(if c=true then X else Y):=by
 cases b with
 |true=>exact⟨true,rfl,ji (h1 rfl)⟩
 |false=>exact⟨false,rfl,iy (h2 rfl)⟩
theorem fO{b:Bool}{X:Prop}(h1:b=true->X)(h2:b=false->Y):(if b=true then X else Y):=by
 cases b with
 |true=>exact ji (h1 rfl)
 |false=>exact iy (h2 rfl)
theorem GK(h1:aH K H a xs)(h2:aH K H b ys)(nx:xs≠[])(ny:ys≠[])(z:xs.length+ys.length<=sizeLine)(q:∀ p,H p=none->Q (.ref p) (upd H p (.tup (xs++ys)))):nA K (.ref a) (.ref b) H Q:=
 .inr (.inr ⟨a,b,xs,ys,rfl,rfl,h1,h2,nx,z,λe=>Oa e ny,λ_=>q⟩)
theorem mB(h:aq K H (.tup ds) v):∃ a xs,v=.ref a/\aH K H a xs/\av K H ds xs:=by unfold aq at h;exact h
open PySem.W
theorem c_.has(x:c_ P w H h a o):∃ u,h.get? a=some u:=by
 cases o with
 |lst xs=>obtain⟨_,_,_,_,e⟩:=x;exact⟨_,e⟩
 |tup xs=>obtain⟨_,_,_,_,e,_⟩:=x;exact⟨_,e⟩
 |dK kvs=>obtain⟨_,_,_,_,o,_,_,e,_⟩:=x;exact⟨_,e⟩
 |dT kvs=>obtain⟨_,_,_,_,o,_,_,e,_⟩:=x;exact⟨_,e⟩
 |set S n=>obtain⟨o,_,_,_,e,_⟩:=x;exact⟨_,e⟩
 |ins C dx fs=>obtain⟨_,_,_,e,_⟩:=x;exact⟨_,e⟩
 |own y=>obtain⟨_,e⟩:=x;exact⟨_,e⟩
 |xd fs=>obtain⟨_,⟨_,_,_,e,_⟩,_⟩:=x;exact⟨_,e⟩
 |rng lo hi=>obtain⟨_,_,_,e⟩:=x;exact⟨_,e⟩
 |frz ob u=>obtain⟨e,_⟩:=x;exact⟨_,e⟩
 |tbl ps=>exact⟨_,show h.get? a=some _ from x⟩
 |met f y=>exact⟨_,show h.get? a=some _ from x⟩
 |ext φ=>obtain⟨_,⟨_,e⟩,_⟩:=x;exact⟨_,e⟩
def NL (o:Obj):Prop:=∃ fs,o.data=.fields fs/\fs[2]?=some .none
def kO (h:Heap)(e T:Addr)(cls fl:Value):Prop:=∃ oe vs oT ts,h.get? e=some oe/\oe.cls=cls/\oe.dict=none/\oe.data=.fields vs/\vs[1]?=some (.ref T)/\T≠e/\h.get? T=some oT/\oT.data=.fields ts/\ts[3]?=some fl/\vs[2]?=some .none
def mr (fr as:QW)(h h':Heap):Prop:=(∀ b o,h.get? b=some o->b∉fr->b∉as->h'.get? b=some o)/\∀ b o,h.get? b=some o->b∈fr->b∉as->∃ sl,h'.get? b=some {o with slots:=sl}
variable {as:QW}
theorem mr.up{fr:QW}(k:mr fr as h h'){o:Obj}(e:h.get? b=some o)(n:b∉as):∃ sl,h'.get? b=some {o with slots:=sl}:=by
 by_cases m:b∈fr
 ·exact k.2 b o e m n
 ·exact⟨o.slots,k.1 b o e m n⟩
variable {T L:Addr}{outer:List Env}{oe:Obj}{cls:Value}{M:Model}
section
variable {E:Value->Shared->Prop}
variable {e:Addr}{Q:Unit->Shared->Prop}
theorem D_{vs:Array Value}{head:Value}{hadNext:Bool}(hfr:A.frames=some (env::outer))(hl:s.heap.FunFrames base (env::outer))(hf:env.frame=some L)(he:s.heap.get? e=some oe)(hd:oe.data=.fields vs)(hsz:1<vs.size)(hdi:oe.dict=none)(h2:vs[2]?=some .none)(h:∀ h' T,s.heap.get? T=none->kO h' e T oe.cls (rawInt L)->mr (d0 (env::outer)) [e] s.heap h'->Q () {s with heap:=h'}):
  wpAny M A (do let a<-frameOf env;let pl<-entryPlaceOf L hadNext;let b<-EntryCells.newEntry head a .none (rawInt L) .none pl;setField (.ref e) 1 b) Q E s:=by
 have hene:e∉(env::outer).filterMap (·.frame):=λhm=>by obtain⟨_,o,ho,hnf⟩:=hl.mem hm;rw[he]at ho;injection ho with ho;subst ho;exact hnf vs hd
 refine Pc (wpAny_frameOf_fun hfr hl hf λh₁ hs₁=>?_);refine Pc (wpAny_entryPlaceOf λpl hpl=>?_);unfold EntryCells.newEntry newFields;refine Pc (Pr ?_ (hpl.sizeOk5 _ _ _ _ _));have he₁:h₁.get? e=some oe:=(hs₁.2.1 e hene).trans he;have he₂:=Pd (h:=h₁) {cls:=.type "traceback",dict:=none,data:=.fields ([head,.ref L,.none,rawInt L,.none]++(if pl.isEmpty then List.replicate 6 Value.none else pl)).toArray} he₁;refine wpAny_setField he₂ hd hsz (h _ h₁.objs.size (Heap.get?_none_of_le (by rw[hs₁.1];exact NV _)) ?_ ?_)
 ·have hTe:h₁.objs.size≠e:=Nat.ne_of_gt (Pe he₁);have hd₃:=Obj.data_mapFields hd (·.setIfInBounds 1 (Value.ref h₁.objs.size));have he₃:=Heap.get?_update_self (Obj.mapFields (·.setIfInBounds 1 (Value.ref h₁.objs.size))) he₂ (Obj.isFreed_of_fields hd₃);have hT₃:=(Po (h₁.push {cls:=.type "traceback",dict:=none,data:=.fields ([head,.ref L,.none,rawInt L,.none]++(if pl.isEmpty then List.replicate 6 Value.none else pl)).toArray})
   (Obj.mapFields (·.setIfInBounds 1 (Value.ref h₁.objs.size))) (Ne.symm hTe)).trans (Ph h₁ rfl)
  refine⟨_,_,_,_,he₃,Obj.cls_mapFields _ _,?_,hd₃,by simp[hsz],hTe,hT₃,rfl,by first|(simp;done)|(rcases hpl with rfl|⟨_,_,_,_,_,_,_,rfl⟩<;>simp),by simp[Array.getElem?_setIfInBounds,h2]⟩;obtain⟨c,di,dt,sl⟩:=oe;cases hd;exact hdi
 ·have keep:∀ b o,b≠e->h₁.get? b=some o->((h₁.push {cls:=.type "traceback",dict:=none,data:=.fields ([head,.ref L,.none,rawInt L,.none]++(if pl.isEmpty then List.replicate 6 Value.none else pl)).toArray}).update e (Obj.mapFields (·.setIfInBounds 1 (Value.ref h₁.objs.size)))).get? b=some o:=λb o hbe hb=>by rw[Po _ _ (Ne.symm hbe)];exact Pd _ hb
  refine⟨λb o eb n1 n2=>keep b o (λz=>n2 (by simp[z])) ((hs₁.2.1 b n1).trans eb),λb o eb m n=>?_⟩;obtain⟨sl,hsl⟩:=hs₁.2.2 b o eb;exact⟨sl,keep b _ (λz=>n (by simp[z])) hsl⟩
theorem tX{fr:QW}{fl:Value}(F:kO s.heap e T cls fl)(h:∀ h',kO h' e T cls .none->mr fr [T] s.heap h'->Q () {s with heap:=h'}):wpAny M A (setFlight (.ref e) none) Q E s:=by obtain⟨oe,vs,oT,ts,he,hcls,hdi,hd,h1,hTe,hT,hdT,h3,h2⟩:=F;have hsz3:3<ts.size:=(Array.getElem?_eq_some_iff.mp h3).1;have other:∀ b,b≠T->(s.heap.update T (Obj.mapFields (·.setIfInBounds 3 ((none:Option Addr).elim Value.none λf=>rawInt f)))).get? b=s.heap.get? b:=λb hb=>Po _ _ (Ne.symm hb);unfold setFlight;refine Pc (Pu he hd h1 ?_);rw[NU (show(Value.ref T !=Value.none)=true from by simp)];refine wpAny_setField hT hdT hsz3 (h _ ?_ ⟨λb o e n1 n2=>(other b (λz=>n2 (by simp[z]))).trans e,λb o e m n=>⟨o.slots,(other b (λz=>n (by simp[z]))).trans e⟩⟩);exact⟨oe,vs,_,_,(other e (Ne.symm hTe)).trans he,hcls,hdi,hd,h1,hTe,Heap.get?_update_self _ hT (Obj.isFreed_of_fields (Obj.data_mapFields hdT _)),Obj.data_mapFields hdT _,by simp[hsz3],h2⟩
theorem DB(hfr:A.frames=some (env::outer))(hl:s.heap.FunFrames base (env::outer))(hf:env.frame=some L)(F:kO s.heap e T cls .none)(h:∀ h' T',s.heap.get? T'=none->kO h' e T' cls (rawInt L)->mr (d0 (env::outer)) [e,T] s.heap h'->Q () {s with heap:=h'}):wpAny M A (noteFrame (.ref e) env) Q E s:=by
 obtain⟨oe,vs,oT,ts,he,hcls,hdi,hd,h1,hTe,hT,hdT,h3,h2⟩:=F;subst hcls;have hsz3:3<ts.size:=(Array.getElem?_eq_some_iff.mp h3).1;have other:∀ b,b≠T->(s.heap.update T (Obj.mapFields (·.setIfInBounds 3 Value.none))).get? b=s.heap.get? b:=λb hb=>Po _ _ (Ne.symm hb);have noRecord:∀ b o,s.heap.get? b=some o->(∀ vs,o.data≠.fields vs)->b≠T:=λb o hb hnf q=>by rw[q,hT]at hb;injection hb with hb;subst hb;exact hnf ts hdT
 unfold noteFrame;simp only[hf];refine Pc (Pu he hd h1 ?_);rw[NU (show(Value.ref T !=Value.none)=true from by simp)];refine Pc (Pu hT hdT h3 ?_);rw[NR (show ¬ ((Value.none==rawInt L)=true)from by simp[rawInt])];refine Pc (wpAny_setField hT hdT hsz3 ?_);refine D_ hfr (hl.of_keeps λb o hb hnf=>⟨o,(other b (noRecord b o hb hnf)).trans hb,rfl⟩) hf ((other e (Ne.symm hTe)).trans he) hd (Array.getElem?_eq_some_iff.mp h1).1 hdi h2 λh' T' n F' k=>?_;have nT':s.heap.get? T'=none:=by
  by_cases z:T'=T
  ·subst z;rw[Heap.get?_update_self _ hT (Obj.isFreed_of_fields (Obj.data_mapFields hdT _))]at n;cases n
  ·rw[<-other T' z];exact n
 refine h h' T' nT' F' ⟨λb o eb n1 n2=>k.1 b o ((other b (λz=>n2 (by simp[z]))).trans eb) n1 (λz=>n2 (by simp at z;simp[z])),λb o eb m n2=>k.2 b o ((other b (λz=>n2 (by simp[z]))).trans eb) m (λz=>n2 (by simp at z;simp[z]))⟩
end
def Bf (h0 h:Heap)(H:Hp)(e:Addr)(cls:Value):Prop:=∃ T,kO h e T cls .none/\H e=none/\H T=none/\h0.get? e=none/\h0.get? T=none
def cU (P:Program)(w:World):jX:=λouter H s E e s'=>∃ a C H',e=.ref a/\s'.os=s.os/\AllBare s'.gens/\Un (d0 outer) [] H H' s.heap s'.heap/\dz P w H' s'.heap/\Bf s.heap s'.heap H' a C/\E C none H'
variable {s2:Shared}{cd:Value}{E:XK}
section
variable {f:Addr}
theorem tI(I:am X Py σ H2 s2)(hex:X.ex=[])(n:s2.heap.get? b=none):X.s₀.heap.get? b=none:=by
 cases z:X.s₀.heap.get? b with
 |none=>rfl
 |some o=>obtain⟨u,hu⟩:=I.base.there b o z (by rw[hex];simp);rw[n]at hu;cases hu
theorem BH(I:am X Py σ H2 s2)(n:s2.heap.get? b=none):H2 b=none:=by
 cases z:H2 b with
 |none=>rfl
 |some o=>obtain⟨u,hu⟩:=(I.hok b o z).has;rw[n]at hu;cases hu
variable {C:Value}
theorem Cq(I:am (bU (cU P w) P w K mg base N qual scope f cd A outer s H E) Py σ H2 s2)(hx:H2 a=none)(hx0:s.heap.get? a=none)(has:∀ b∈as,H2 b=none/\s.heap.get? b=none)(nT:s2.heap.get? T=none)(F:kO h' a T C .none)(L:mr (d0 (bU (cU P w) P w K mg base N qual scope f cd A outer s H E).stack) as s2.heap h')(q:E C none H2):cU P w outer H s E (.ref a) {s2 with heap:=h'}:=by
 have fr:∀ b,b∈d0 (bU (cU P w) P w K mg base N qual scope f cd A outer s H E).stack->b=s.heap.objs.size\/b∈d0 outer:=λb hb=>by
  obtain⟨ev,he,hf⟩:=OI.mp hb;rcases NP.mp he with z|z
  ·subst z;exact .inl (Oj hf).symm
  ·exact .inr (OI.mpr ⟨ev,z,hf⟩)
 have nsz:s.heap.get? s.heap.objs.size=none:=Heap.get?_none_of_le (NV _);have hidden:∀ b,s.heap.get? b≠none->b∉as:=λb n m=>n (has b m).2;refine⟨a,C,H2,rfl,I.os,I.bare,⟨λb o e n nf _=>?_,λb o e n nf _=>?_,λb o e n _=>I.base.free b o e n (by intro m;cases m),λb o e _=>?_,I.base.tups,I.base.frzs,I.base.tbls⟩,λb u e=>?_,⟨T,F,hx,BH I nT,hx0,tI I rfl nT⟩,q⟩
 ·refine L.1 b o (I.base.keep b o e n nf (by intro m;cases m)) (λm=>?_) (hidden b (by rw[e];simp));rcases fr b m with z|z
  ·subst z;rw[nsz]at e;cases e
  ·exact nf z
 ·obtain⟨sl,e'⟩:=I.base.slot b o e n nf (by intro m;cases m);obtain⟨sl2,e2⟩:=L.up e' (hidden b (by rw[e];simp));exact⟨sl2,e2⟩
 ·obtain⟨o2,h2⟩:=I.base.there b o e (by intro m;cases m);obtain⟨sl,e5⟩:=L.up h2 (hidden b (by rw[e];simp));exact⟨_,e5⟩
 ·refine(I.hok b u e).stay (λc v hc q=>L.1 c v q (λm=>?_) (λm=>?_)) (λ_ q=>q) λ_ _ q=>q
  ·have:=I.stkFree c m;rcases hc with z|z
   ·subst z;rw[e]at this;cases this
   ·rw[z]at this;cases this
  ·have:=(has c m).1;rcases hc with z|z
   ·subst z;rw[e]at this;cases this
   ·rw[z]at this;cases this
theorem Jo(I:am (bU (cU P w) P w K mg base N qual scope f cd A outer s H E) Py σ H2 s2)(F:Bf s.heap s2.heap H2 a C)(q:E C none H2):(bU (cU P w) P w K mg base N qual scope f cd A outer s H E).xe (.ref a) s2:=by
 obtain⟨T,F,hx,hT,hx0,hT0⟩:=F;show wpAny _ _ (leaving _ _) _ _ _;unfold leaving;refine Pc (DB (outer:=outer) I.ok.frames I.stack rfl F λh1 T1 n1 F1 k1=>?_);refine tX (fr:=d0 (bU (cU P w) P w K mg base N qual scope f cd A outer s H E).stack) F1 λh2 F2 k2=>?_;refine Cq (s2:=s2) (h':=h2) (as:=[a,T]) I hx hx0 (λb m=>?_) n1 F2 ⟨λb o e m n=>k2.1 b o (k1.1 b o e m n) m (λz=>by rw[bu.mp z,n1]at e;cases e),λb o e m n=>?_⟩ q
 ·rcases NP.mp m with z|z
  ·subst z;exact⟨hx,hx0⟩
  ·rw[bu.mp z];exact⟨hT,hT0⟩
 ·obtain⟨sl,e1⟩:=k1.2 b o e m n;obtain⟨sl2,e2⟩:=k2.up e1 (λz=>by rw[bu.mp z,n1]at e;cases e);exact⟨sl2,e2⟩
theorem qy{e:Value}(I:am (bU (cU P w) P w K mg base N qual scope f cd A outer s H E) Py σ H2 s2)(h:cU P w (bU (cU P w) P w K mg base N qual scope f cd A outer s H E).stack H2 s2 E e s3):(bU (cU P w) P w K mg base N qual scope f cd A outer s H E).xe e s3:=by obtain⟨a,C,H3,rfl,os,bare,un,hok,⟨T,F,hx,hT,hx0,hT0⟩,q⟩:=h;exact Jo (I.call' os un hok bare (λb z=>Oa z (by simp))) ⟨T,F,hx,hT,tI I rfl hx0,tI I rfl hT0⟩ q
theorem we:g8 (cU P w) (bU (cU P w) P w K mg base N qual scope f cd A outer s H E) E:=λ_ _ _ _ _ _ I h=>qy I h
theorem JL{h3:Heap}{args:List Value}(I:am (bU (cU P w) P w K mg base N qual scope f cd A outer s H E) Py σ H2 s2)(M:Heap.MadeExcOf s2.heap h3 a C args)(q:E C none H2):(bU (cU P w) P w K mg base N qual scope f cd A outer s H E).xe (.ref a) {s2 with heap:=h3}:=by obtain⟨t,he,htn,ht⟩:=M.there;have I3:am (bU (cU P w) P w K mg base N qual scope f cd A outer s H E) Py σ H2 {s2 with heap:=h3}:=I.un (h':=h3) (t':=s2.toks) (Un.kept M.keeps) (I.hok.kept M.keeps);have hx:=BH I M.new;have hx0:s.heap.get? a=none:=tI I rfl M.new;show wpAny _ _ (leaving _ _) _ _ _;unfold leaving noteFrame;show wpAny _ _ ((do let head<-field (.ref a) 1;_)>>=_) _ _ _;refine Pc (Pc (Pu he rfl (x:=.none) rfl ?_));rw[NR (by decide)];refine D_ (outer:=outer) I3.ok.frames I3.stack rfl he rfl (by simp) rfl rfl λh1 T1 n1 F1 k1=>?_;refine tX (fr:=d0 (bU (cU P w) P w K mg base N qual scope f cd A outer s H E).stack) F1 λh2 F2 k2=>?_;have n1':h3.get? T1=none:=n1;refine Cq (s2:={s2 with heap:=h3}) (h':=h2) (as:=[a]) I3 hx hx0 (λb m=>by rw[bu.mp m];exact⟨hx,hx0⟩) n1' F2 ⟨λb o e m n=>k2.1 b o (k1.1 b o e m n) m (λz=>by rw[bu.mp z]at e;rw[show h3.get? T1=some o from e]at n1';cases n1'),λb o e m n=>?_⟩ q;obtain⟨sl,e1⟩:=k1.2 b o e m n;obtain⟨sl2,e2⟩:=k2.up e1 (λz=>by rw[bu.mp z]at e;rw[show h3.get? T1=some o from e]at n1';cases n1');exact⟨sl2,e2⟩
end
structure jW (K:Fg)(C:Addr)(anc:List Value):Prop where
 ob:∃ nm q N bs hdct sn sub ab col dd k0 k1 k2 k3 k5,K.lookup C=some (excClassObj nm q C N bs anc hdct sn sub ab col dd k0 k1 k2 k3 k5 "ValueError.__new__")
 ex:excIn K C fS "ValueError.__new__"=true
variable {anc:List Value}
theorem jW.obj(X:K.In h)(e:jW K C anc):∃ nm q N bs hdct sn sub ab col dd k0 k1 k2 k3 k5 mN,h.get? C=some (excClassObj nm q C N bs anc hdct sn sub ab col dd k0 k1 k2 k3 k5 "ValueError.__new__")/\h.Ns N mN/\mN "__init__"=none/\OwnTail h fS anc:=by obtain⟨⟨nm,q,N,bs,hdct,sn,sub,ab,col,dd,k0,k1,k2,k3,k5,l⟩,x⟩:=e;unfold excIn at x;rw[l]at x;simp only[NS,OR,Bool.not_eq_true']at x;obtain⟨⟨⟨_,ht⟩,hok⟩,hni⟩:=x;exact⟨nm,q,N,bs,hdct,sn,sub,ab,col,dd,k0,k1,k2,k3,k5,_,X _ _ l,.of_isNs (isNs_of_in X hok),nsMap_none_of_in X hok hni,tail_of_in X ht⟩
def Cb (X:Cx)(E:XK):Prop:=∀(Py:QX) (σ:St) (H:Hp) (s:Shared) (h':Heap) (a:Addr) (C:Value) (args:List Value),am X Py σ H s->Heap.MadeExcOf s.heap h' a C args->E C none H->X.xe (.ref a) {s with heap:=h'}
theorem pA{f:Addr}:
  Cb (bU (cU P w) P w K mg base N qual scope f cd A outer s H E) E:=λ_ _ _ _ _ _ _ _ I M q=>JL I M q
def Ca (C:Value)(E:XK)(t:TA):TS:=λ_ σ H=>t σ H λvs H1=>vs.length<=sizeLine/\E C none H1
variable {np:Pos}
section
variable {cpos:Pos}{e0:Expr}{rest:List Expr}{t:TA}
theorem pD (c:jW X.K C anc)(hg:Gl X x)(hm:X.mg x=some (.ref C))(hc:X.calm=true)(ht:Cb X E)(ha:PA X (e0::rest) t)(he:⇑(starEach (e0::rest) X.env=(false,eval e0 X.env)::starEach rest X.env))
  (hpl:⇑((backTo cpos (starEach rest X.env)).any (·.1)=false)) (hd:↥((x==("__debug__":Str))=false)):PS X (.Raise (some (.Call (.Name x np) (e0::rest) [] cpos)) none pos) (Ca (.ref C) E t):=by
 intro Py s σ H D I h;obtain⟨nm,q,N,bs,hdct,sn,sub,ab,col,dd,k0,k1,k2,k3,k5,mN,hC,hN,hni,T⟩:=c.obj I.ok.mod.kin;refine wpAny_Raise_call_subT (C:=C) (nm:=nm) (q:=q) (N:=N) (bs:=bs) (bm:=anc) (hdct:=hdct) (sn:=sn) (sub:=sub) (ab:=ab) (col:=col) (dd:=dd) (k0:=k0) (k1:=k1) (k2:=k2) (k3:=k3) (k5:=k5)
  PySem.F.excBase_ValueError (mN:=mN) (T.hasType PySem.F.excBase_ValueError.hasBase) (I.ok.hd hc) (by rw[he];show(false ||(backTo cpos (starEach rest X.env)).any (·.1))=false;rw[hpl];rfl) hni (mD I hg hm ⟨rfl,?_⟩ hd)
 have h2:=ha cpos Py s σ H _ I h;rw[he]at h2 ⊢;refine Calls.evalArgs_plain (Pi h2 (λus s2 h2=>?_) λ_ _ y=>y);obtain⟨vs,H1,I1,r,z,q⟩:=h2;exact⟨rfl,by rw[<-r.length];exact z,I1.bk _ _ hC,hN.keeps I1.bk,T.keeps I1.bk,λh' e M=>ht Py σ H1 s2 h' e _ _ I1 M q⟩
end
section
theorem aS.okx{f:Addr}{ps:List Str}{k:Nat}(F:aS K x qual st f fd)(S:aU N ps (aK st))(len:∀ vs H Q E,sp vs H Q E->vs.length=ps.length)(hbody:∀(cdv:Value) (A:Around) (outer:List Env) (s:Shared) (H:Hp) (vs:QV) (Q:VK) (E:XK),aQ k (A.deeper (envOfC qual (aK st) s.heap.objs.size f cdv))->sp vs H Q E->
   ∃ t,fN (bU (cU P w) P w K mg base N qual (aK st) f cdv A outer s H E) (gI st) t/\t {nx:=λ_ H'=>Q .non H',rt:=Q} (start N vs) H):ck P w K mg base (cU P w) (k+1) f fd ps sp:=by obtain⟨oc,od,kV,doc,pm,an,cdv,ct,osl,rfl,lk,hcd⟩:=F.ex;exact Bz lk hcd S len λA outer s H vs Q E hr hsp=>hbody cdv A outer s H vs Q E hr hsp
end
structure vd (P:Program)(w:World)(K:Fg)(mg:Str->Option Value)(base:Heap)(x:Str)(ps:List Str)(k:Nat)(sp:Sp):Prop where
 ex:∃ f fd,ck P w K mg base (cU P w) k f fd ps sp/\gF K fd ps []/\PySem.W.keepIn K (.ref f)=true/\mg x=some (.ref f)
structure sM (P:Program)(w:World)(K:Fg)(mg:Str->Option Value)(base:Heap)(x:Str)(C:Addr)(ps:List Str)(k:Nat)(sp:Sp):Prop where
 ex:∃ f fd,Mk K C f/\ck P w K mg base (cU P w) k f fd ps sp/\gF K fd ps []/\mg x=some (.ref C)
structure bK (CX:jX)(P:Program)(w:World)(K:Fg)(mg:Str->Option Value)(base:Heap)(C:Addr)(m:Str)(ps:List Str)(k:Nat)(sp:Sp):Prop where
 ex:∃ f fd,br K C m f/\ck P w K mg base CX k f fd ps sp/\gF K fd ps []
variable {pl:Sem Bool}{apos:Pos}
section
variable {k j:Nat}{ps:List Str}{m:Str}{o:Expr}{t:TA}
theorem GJ (G:vd X.prog X.w X.K X.mg X.base x ps j sp)(hr:aQ k X.A)(hg:Gl X x)(hx:g8 (cU X.prog X.w) X E)(ha:PA X (e::es) t)(hj:↥(j<=k))(hdb:↥((x==("__debug__":Str))=false))
  (he:⇑(starEach (e::es) X.env=(false,eval e X.env)::starEach es X.env)) (hpl:⇑((backTo pos (starEach es X.env)).any (·.1)=false)):PE X (.Call (.Name x p) (e::es) [] pos) (nE sp [] E t):=by obtain⟨f,fd,F,hb,hk,hm⟩:=G.ex;exact CZ (F.mono hj) hr hg hm hk hb .nil hx ha hdb he hpl
theorem FO (G:sM X.prog X.w X.K X.mg X.base x C ps j sp)(hr:aQ k X.A)(hg:Gl X x)(hx:g8 (cU X.prog X.w) X E)(ha:PA X (e::es) t)(hj:↥(j+1<=k))(hdb:↥((x==("__debug__":Str))=false))
  (he:⇑(starEach (e::es) X.env=(false,eval e X.env)::starEach es X.env)) (hpl:⇑((backTo pos (starEach es X.env)).any (·.1)=false)):PE X (.Call (.Name x p) (e::es) [] pos) (kJ C sp [] E t):=by obtain⟨f,fd,M,F,hb,hm⟩:=G.ex;exact CY M F (hr.mono hj) hg hm hb .nil hx ha hdb he hpl
theorem cS(G:bK CX X.prog X.w X.K X.mg X.base C m ps j sp)(c:f_ X.K C)(hr:aQ k X.A)(hx:g8 CX X E)(he:PE X o ta)(ha:PA X (e::es) t)(hj:↥(j<=k))(hst:⇑(starEach (e::es) X.env=(false,eval e X.env)::starEach es X.env))(hpl:⇑((backTo pos (starEach es X.env)).any (·.1)=false))(ht:⇑(eval (.Call (.Attribute o m apos) (e::es) [] pos) X.env=(do
   let ov<-eval o X.env
   standAt apos.atName
   let (f,first)<-holding [ov] (getMethod ov m pl)
   callWith pos f first (backTo pos (starEach (e::es) X.env)) (backToKw pos (keywordEach [] X.env))))):
  PE X (.Call (.Attribute o m apos) (e::es) [] pos) (oO C m sp [] E ta t):=by obtain⟨f,fd,M,F,hb⟩:=G.ex;exact Ir he c M (F.mono hj) hr hb .nil hx ha hst hpl ht
theorem iO(G:bK CX X.prog X.w X.K X.mg X.base C m ps j sp)(c:f_ X.K C)(hr:aQ k X.A)(hx:g8 CX X E)(he:PE X o ta)(hj:↥(j<=k))(ht:⇑(eval (.Call (.Attribute o m apos) [] [] pos) X.env=(do
   let ov<-eval o X.env
   standAt apos.atName
   let (f,first)<-holding [ov] (getMethod ov m pl)
   callWith pos f first (backTo pos (starEach [] X.env)) (backToKw pos (keywordEach [] X.env))))):
  PE X (.Call (.Attribute o m apos) [] [] pos) (oO C m sp [] E ta iq):=by obtain⟨f,fd,M,F,hb⟩:=G.ex;exact IR he c M (F.mono hj) hr hb .nil hx ht
end
variable {q:Str}{bm:List Value}{newId:String}
section
variable {E:Value->Shared->Prop}{g:Array GenState}{d:Drawn}{t:Nat}{os:OsState}
variable {nm nm' q':Str}{N D N':Addr}{bs bs' bm':List Value}{hdct hdct':Bool}{sn sn':List Str}{sub sub':List Value}{ab ab':Bool}{col col':Option Bool}{dd dd':Option Addr}{k0 k1 k2 k3 k5 l0 l1 l2 l3 l5:Option Value}{newId':String}
theorem ML{e:Addr}{Q:Bool->Shared->Prop}(hC:h.get? C=some (excClassObj nm q C N bs bm hdct sn sub ab col dd k0 k1 k2 k3 k5 newId))(hD:h.get? D=some (excClassObj nm' q' D N' bs' bm' hdct' sn' sub' ab' col' dd' l0 l1 l2 l3 l5 newId'))(he:h.get? e=some oe)(hcls:oe.cls=.ref C)(hbase:bm'.contains (.type "BaseException")=true)(hq:Q ((Value.ref C::bm).contains (.ref D)) ⟨h,g,d,t,os⟩):wpAny M A (excMatches (.ref e) (.ref D)) Q E ⟨h,g,d,t,os⟩:=by
 have hcB:(Value.ref D::bm').contains (.type "BaseException")=true:=by rw[List.contains_cons,hbase,Bool.or_true]
 have f:=tc_notTuple;unfold excMatches;generalize hb:(Value.ref C::bm).contains (.ref D)=b at hq;repeat (first|(with_reducible refine wpAny_loadPart_at he ?_;rw[hcls])|with_reducible refine wpAny_loadPart_at hD ?_|(with_reducible refine wpAny_isSubtype_exc hD ?_;rw[hcB])|(with_reducible refine wpAny_isSubtype_exc hC ?_;rw[hb])|wp_step)
 cases b<;>(wp_walk;exact hq)
end
section
def nv (X:Cx)(Py:QX)(H:Hp)(b:Addr):Prop:=H b=none/\X.s₀.heap.get? b=none/\b≠X.env.locals/\(∀ x c,X.env.cells.lookup x=some c->c≠b)/\(∀ p∈X.pn++Py,p.1≠b)
theorem DA(I:am X Py σ H1 s)(hex:X.ex=[])(n:s.heap.get? b=none)(hH:H b=none):nv X Py H b:=by
 refine⟨hH,?_,λz=>?_,λx c e z=>?_,λp hp z=>?_⟩
 ·cases q:X.s₀.heap.get? b with
  |none=>rfl|some o=>obtain⟨u,hu⟩:=I.base.there b o q (by rw[hex];simp);rw[n]at hu;cases hu
 ·subst z;obtain⟨m,⟨o,es,ep,ho,_⟩,_⟩:=I.loc;rw[n]at ho;cases ho
 ·subst z;obtain⟨v,o,ho,_⟩:=I.cell x c e;rw[n]at ho;cases ho
 ·have:=(I.pin p hp).1;rw[z,n]at this;cases this
theorem am.shift(I:am X Py σ H s)(keep:∀ b o,s.heap.get? b=some o->b∉d0 X.stack->b∉as->h'.get? b=some o)(slot:∀ b o,s.heap.get? b=some o->b∈d0 X.stack->b∉as->∃ sl,h'.get? b=some {o with slots:=sl})(has:∀ b∈as,nv X Py H b):am X Py σ H {s with heap:=h'}:=by
 have up:∀ b o,s.heap.get? b=some o->b∉as->∃ sl,h'.get? b=some {o with slots:=sl}:=λb o e n=>by
  by_cases m:b∈d0 X.stack
  ·exact slot b o e m n
  ·exact⟨o.slots,keep b o e m n⟩
 have neL:∀ b o,X.s₀.heap.get? b=some o->b≠X.env.locals:=λb o e=>Ol (N1 (Pe e) I.ok.above);have neA:∀ b o,X.s₀.heap.get? b=some o->b∉as:=λb o e m=>by rw[(has b m).2.1]at e;cases e
 have stk:∀ b,b≠X.env.locals->b∉X.fs->b∉d0 X.stack:=λb n1 n m=>(NP.mp (I.stkSub b m)).elim n1 n;have cellK:∀ x c,X.env.cells.lookup x=some c->∀ v,s.heap.IsCell c v->h'.IsCell c v:=λx c e v ⟨o,ho,hd⟩=>by obtain⟨sl,q⟩:=up c o ho (λz=>(has c z).2.2.2.1 x c e rfl);exact⟨_,q,hd⟩
 refine⟨I.ok,I.os,I.bare,⟨λb o e n hb hx=>?_,λb o e n hb hx=>?_,I.base.free,λb o e hx=>?_,I.base.tups,I.base.frzs,I.base.tbls⟩,?_,λx c e=>?_,I.free,I.freeC,λp hp=>?_,λb u e=>?_,I.len⟩
 ·exact keep b o (I.base.keep b o e n hb hx) (stk b (neL b o e) hb) (neA b o e)
 ·obtain⟨sl,e1⟩:=I.base.slot b o e n hb hx;obtain⟨sl',e2⟩:=up b _ e1 (neA b o e);exact⟨sl',e2⟩
 ·obtain⟨o',e1⟩:=I.base.there b o e hx;obtain⟨sl,e2⟩:=up b o' e1 (neA b o e);exact⟨_,e2⟩
 ·obtain⟨m,⟨o,es,ep,ho,r⟩,hl⟩:=I.loc;obtain⟨sl,hL⟩:=up _ o ho (λz=>(has _ z).2.2.1 rfl);refine⟨m,⟨_,es,ep,hL,r⟩,λi x v e1 e2 e3=>?_⟩;obtain⟨u,r,l⟩:=hl i x v e1 e2 e3;nomatch u,r;rcases l with l|⟨l,c,e,z⟩
  ·exact .inl l
  ·exact .inr ⟨l,c,e,cellK x c e _ z⟩
 ·obtain⟨v,z⟩:=I.cell x c e;exact⟨v,cellK x c e v z⟩
 ·obtain⟨e,n,ne,nf,d⟩:=I.pin p hp;exact⟨keep _ _ e (stk _ ne nf) (λm=>(has _ m).2.2.2.2 p hp rfl),n,ne,nf,d⟩
 ·refine(I.hok b u e).stay (λc v hc q=>keep c v q (λm=>?_) (λm=>?_)) (λ_ q=>q) λ_ _ q=>q
  ·have:=I.stkFree c m;rcases hc with z|z
   ·subst z;rw[e]at this;cases this
   ·rw[z]at this;cases this
  ·have:=(has c m).1;rcases hc with z|z
   ·subst z;rw[e]at this;cases this
   ·rw[z]at this;cases this
end
def XP (X:Cx)(Py:QX)(σ:St)(E:XK)(e:Value)(s':Shared):Prop:=∃ a C H' s1 H1,e=.ref a/\am X Py σ H1 s1/\am X Py σ H' s'/\Bf s1.heap s'.heap H' a C/\E C none H'
def Fs (X:Cx)(e:Expr)(t:XK->TE):Prop:=
 ∀(Py:QX) (s:Shared) (σ:St) (H:Hp) (Q:VK) (E:XK),am X Py σ H s->t E σ H Q->wpAny (model X.prog X.w) X.A (eval e X.env) (EP X Py σ Q) (XP X Py σ E) s
def Fp (X:Cx)(st:Stmt)(t:XK->TS):Prop:=
 ∀(Py:QX) (s:Shared) (σ:St) (H:Hp) (D:bI) (E:XK),am X Py σ H s->t E D σ H->wpAny (model X.prog X.w) X.A (exec st X.env) (SP X Py D) (XP X Py σ E) s
def sE (X:Cx)(st:List Stmt)(t:XK->TS):Prop:=
 ∀(Py:QX) (s:Shared) (σ:St) (H:Hp) (D:bI) (E:XK),am X Py σ H s->t E D σ H->wpAny (model X.prog X.w) X.A (execs st X.env) (SP X Py D) (XP X Py σ E) s
theorem Fo{t:Sem α}{Q Q':α->Shared->Prop}{E:Value->Shared->Prop}(h:wpAny M A t Q (λ_ _=>False) s)(hQ:∀ a s,Q a s->Q' a s):wpAny M A t Q' E s:=Pi h hQ λ_ _ x=>x.elim
section
variable {k j:Nat}{f:Addr}{ps:List Str}{m:Str}{o:Expr}{t:TA}
theorem FN (G:sM X.prog X.w X.K X.mg X.base x C ps j sp)(hr:aQ k X.A)(hg:Gl X x)(ha:PA X.nox (e::es) t)(hj:↥(j+1<=k))(hdb:↥((x==("__debug__":Str))=false))
  (he:⇑(starEach (e::es) X.env=(false,eval e X.env)::starEach es X.env)) (hpl:⇑((backTo pos (starEach es X.env)).any (·.1)=false)):Fs X (.Call (.Name x p) (e::es) [] pos) (λE=>kJ C sp [] E t):=by
 obtain⟨f,fd,M,F,hb,hm⟩:=G.ex;intro Py s σ H Q E I h;refine Pp (mD I hg hm ?_ hdb);refine PySem.W.callWith_K (h₀:=X.base) I.ok.mod.kin M.kp (Fo (ha pos Py s σ H _ (I.wish _) h) λus s1 ⟨vs,H1,I1',r,h⟩=>⟨I1'.unwish.kIn,?_⟩) he hpl;have I1:=I1'.unwish;have hq:=h (s1.heap.objs.size+1) s1.heap.objs.size (I1.hok.fresh (Nat.le_succ _)) (I1.hok.fresh (NV _)) (Ol (O9 _));rw[Oo]at hq;have I2:=am.made (C:=C) I1;have r2:ax (V.ref (s1.heap.objs.size+1)::vs) (Value.ref (s1.heap.objs.size+1)::us):=.cons rfl r;have hl:(Value.ref (s1.heap.objs.size+1)::us++[]).length=ps.length:=by have e:=r2.length;rw[F.len _ _ _ _ hq]at e;rw[Oo];exact e.symm
 refine wpAny_call (Dt (f:=f) I1.kIn M.makes M.init (OR.mp M.fn) (Px (F.run _ X.stack _ _ ⟨Value.ref (s1.heap.objs.size+1)::us,[]⟩ (Value.ref (s1.heap.objs.size+1)::us) _ _ E ((hr.mono hj).make C us [])
  (I2.env0.make C us []) (by have:=hb _ (Value.ref (s1.heap.objs.size+1)::us) I2.kIn hl;rwa [Oo]at this) r2 hq) λr s' hq'=>?_))
 cases r with
 |error e=>obtain⟨a,C',H3,rfl,os,bare,un,hok,F,q⟩:=hq';exact⟨a,C',H3,_,_,rfl,I2,I2.call' os un hok bare (λb z=>Oa z (by simp)),F,q⟩
 |ok fl=>
  cases fl with
  |ret u=>obtain⟨v,H',I3,rv,ev,q3⟩:=I2.after hq';subst ev;exact⟨rv,⟨V.ref (s1.heap.objs.size+1),H',I3,rfl,q3⟩⟩
  |next=>exact Ov hq'
  |brk=>exact Ov hq'
  |cont=>exact Ov hq'
variable {te:XK->TE}{tt uu:XK->TS}
theorem Jn (he:Fs X e te)(hs:⇑(swapsWith e none pos.line X.env=pure false)):Fp X (.Expr e pos) (λE=>vA (te E)):=by intro Py s σ H D E I h;exact wpAny_Expr_any (aN (he Py s σ H _ E I h) λv s1 ⟨x,H1,I1,r1,q1⟩=>⟨σ,H1,I1,q1⟩) I.quiet hs
theorem Jm (h1:Fp X st tt):sE X [st] tt:=by
 intro Py s σ H D E I h;refine wpAny_execs_cons (aN (h1 Py s σ H D E I h) λf s1 q=>?_);cases f with
 |next=>exact Ps q
 |ret v=>exact q
 |brk=>exact q
 |cont=>exact q
end
section
variable {C:Value}
structure cG (X:Cx)(Py:QX)(σ:St)(H:Hp)(a:Addr)(C:Value)(s:Shared):Prop where
 ex:∃(s':Shared) (T T':Addr),am X Py σ H s'/\nv X Py H a/\nv X Py H T/\s'.heap.get? T'=none/\(∃ h',s={s' with heap:=h'})/\kO s.heap a T' C .none/\mr (d0 X.stack) [a,T] s'.heap s.heap
theorem cG.inv (R:cG X Py σ H a C s):am X Py σ H s:=by
 obtain⟨s',T,T',I,ha,hT,_,⟨h',rfl⟩,F,U⟩:=R.ex;refine I.shift (as:=[a,T]) U.1 U.2 (λb m=>?_);rcases NP.mp m with z|z
 ·subst z;exact ha
 ·rw[bu.mp z];exact hT
theorem cG.apart (R:cG X Py σ H a C s):nv X Py H a:=by obtain⟨s',T,T',I,ha,hT,_,⟨h',rfl⟩,F,U⟩:=R.ex;exact ha
theorem cG.obj (R:cG X Py σ H a C s):∃ oe vs,s.heap.get? a=some oe/\(oe.cls=C/\oe.dict=none)/\oe.data=.fields vs:=by obtain⟨s',T,T',I,ha,hT,_,_,F,U⟩:=R.ex;obtain⟨oe,vs,oT,ts,h1,h2,h3,h4,_⟩:=F;exact⟨oe,vs,h1,⟨h2,h3⟩,h4⟩
theorem cG.objN (R:cG X Py σ H a C s):∃ oe vs,s.heap.get? a=some oe/\(oe.cls=C/\oe.dict=none)/\oe.data=.fields vs/\vs[2]?=some .none:=by obtain⟨s',T,T',I,ha,hT,_,_,F,U⟩:=R.ex;obtain⟨oe,vs,oT,ts,h1,h2,h3,h4,_,_,_,_,_,h5⟩:=F;exact⟨oe,vs,h1,⟨h2,h3⟩,h4,h5⟩
theorem cG.again{E:Value->Shared->Prop}{Q:Unit->Shared->Prop}(R:cG X Py σ H a C s)(k:∀ s2,cG X Py σ H a C s2->Q () s2):wpAny M A (setFlight (.ref a) none) Q E s:=by obtain⟨s',T,T',I,ha,hT,n,⟨h',rfl⟩,F,U⟩:=R.ex;refine tX (fr:=d0 X.stack) F λh2 F2 U2=>k _ ⟨s',T,T',I,ha,hT,n,⟨h2,rfl⟩,F2,⟨λb o e m1 m2=>U2.1 b o (U.1 b o e m1 m2) m1 (λz=>by rw[bu.mp z,n]at e;cases e),λb o e m1 m2=>?_⟩⟩;obtain⟨sl,e1⟩:=U.2 b o e m1 m2;obtain⟨sl2,e2⟩:=U2.up e1 (λz=>by rw[bu.mp z,n]at e;cases e);exact⟨sl2,e2⟩
theorem LO{E':Value->Shared->Prop}{e:Value}{Q:Shared->Prop}(hex:X.ex=[])(hst:X.stack=X.env::X.outer)(hf:X.env.frame=some X.env.locals)(h:XP X Py σ E e s)(k:∀ a C H' s3,e=.ref a->cG X Py σ H' a C s3->E C none H'->Q s3):
  wpAny (model X.prog X.w) X.A (noteFrame e X.env) (λ_ s2=>wpAny (model X.prog X.w) X.A (setFlight e none) (λ_ s3=>Q s3) E' s2) E' s:=by
 obtain⟨a,C,H',s1,H1,rfl,I1,I',⟨T,F,hx,hT,hx0,hT0⟩,q⟩:=h;have hfr:X.A.frames=some (X.env::X.outer):=by rw[<-hst];exact I'.ok.frames
 refine DB (outer:=X.outer) (base:=X.base) hfr (by rw[<-hst];exact I'.stack) hf F λh1 T1 n1 F1 U1=>?_;rw[<-hst]at U1;refine tX (fr:=d0 X.stack) F1 λh2 F2 U2=>k a C H' _ rfl ⟨s,T,T1,I',DA I1 hex hx0 hx,DA I1 hex hT0 hT,n1,⟨h2,rfl⟩,F2,⟨λb o e m1 m2=>U2.1 b o (U1.1 b o e m1 m2) m1 (λz=>by rw[bu.mp z,n1]at e;cases e),λb o e m1 m2=>?_⟩⟩ q;obtain⟨sl,e1⟩:=U1.2 b o e m1 m2;obtain⟨sl2,e2⟩:=U2.up e1 (λz=>by rw[bu.mp z,n1]at e;cases e);exact⟨sl2,e2⟩
def XH (X:Cx)(a:Addr)(o:Obj):Cx:={X with A:=X.A.mark (some (.ref a)),calm:=false,pn:=(a,o)::X.pn,xe:=λ_ _=>False}
variable {o:Obj}
theorem am.held(I:am X Py σ H s)(ho:s.heap.get? a=some o)(ap:nv X Py H a)(nc:∀ v,o.data≠.cell v):am (XH X a o) Py σ H s:=by
 have ok:=I.ok;refine⟨⟨ok.mod,ok.kind,ok.glob,ok.blt,ok.above,ok.inj,ok.has,ok.cab,(λz=>Oa z N5),ok.frames,ok.stk,ok.exf,ok.bs,ok.bsz,ok.noex,ok.exfs,ok.funs,ok.frf⟩,I.os,I.bare,I.base,I.loc,I.cell,I.free,I.freeC,λp hp=>?_,I.hok,I.len⟩;have hp':p∈(a,o)::(X.pn++Py):=hp;rcases NP.mp hp' with z|z
 ·subst z;refine⟨ho,ap.1,ap.2.2.1,λm=>?_,nc⟩;obtain⟨_,o2,h2,_⟩:=ok.funs.mem m;have:=ap.2.1;rw[h2]at this;cases this
 ·exact I.pin p z
theorem am.unheld(ok:X.Ok)(I:am (XH X a o) Py σ H s):am X Py σ H s:=
 ⟨ok,I.os,I.bare,I.base,I.loc,I.cell,I.free,I.freeC,λp hp=>I.pin p (NZ _ hp),I.hok,I.len⟩
theorem SP.unheld{D:bI}{f:Flow}(ok:X.Ok)(h:SP (XH X a o) Py D f s):SP X Py D f s:=by
 cases f with
 |next=>obtain⟨σ',H',I,q⟩:=h;exact⟨σ',H',I.unheld ok,q⟩
 |brk=>obtain⟨σ',H',I,q⟩:=h;exact⟨σ',H',I.unheld ok,q⟩
 |cont=>obtain⟨σ',H',I,q⟩:=h;exact⟨σ',H',I.unheld ok,q⟩
 |ret u=>obtain⟨v,σ',H',I,r,q⟩:=h;exact⟨v,σ',H',I.unheld ok,r,q⟩
end
def PH (X:Cx)(hs:List ExceptHandler)(t:Value->Addr->TS):Prop:=
 ∀(Py:QX) (s:Shared) (σ:St) (H:Hp) (D:bI) (a:Addr) (C:Value),cG X Py σ H a C s->t C a D σ H->wpAny (model X.prog X.w) X.A (handleBy (.ref a) X.env hs) (SP X Py D) X.xe s
def pX (K:Fg)(D:Addr)(th tr:Value->Addr->TS):Value->Addr->TS:=λC a E σ H=>∃ Cc anc,C=.ref Cc/\jW K Cc anc/\if(Value.ref Cc::anc).contains (.ref D)=true then th C a E σ H else tr C a E σ H
variable {th:Value->Addr->TS}
section
variable {b0:Stmt}{suite:List Stmt}{rest:List ExceptHandler}{D:Addr}{tb tr:Value->Addr->TS}
theorem FM:PH X [] (λ_ _=>Gm):=λ_ _ _ _ _ _ _ _ h=>h.elim
theorem GW (eD:jW X.K D anc)(hg:Gl X x)(hm:X.mg x=some (.ref D))(hb:∀ a o,o.dict=none->NL o->fN (XH X a o) (b0::suite) (tb o.cls a))(hr:PH X rest tr)(hd:↥((x==("__debug__":Str))=false)):
  PH X (.ExceptHandler (some (.Name x np)) none (b0::suite) pos::rest) (pX X.K D tb tr):=by
 intro Py s σ H E a C R h;obtain⟨Cc,ancC,rfl,eC,h⟩:=h;have I:=R.inv;obtain⟨oe,vs,ho,⟨hc,_⟩,hdt⟩:=R.obj;obtain⟨nm,q,N,bs,hdct,sn,sub,ab,col,dd,k0,k1,k2,k3,k5,mN,hC,_,_,TC⟩:=eC.obj I.kIn;obtain⟨nm',q',N',bs',hdct',sn',sub',ab',col',dd',l0,l1,l2,l3,l5,mN',hD,_,_,TD⟩:=eD.obj I.kIn;refine wpAny_handleBy_cons (codeAny_handlers_test (mD (X:=XH X a oe) (I.held ho R.apart (λv z=>by rw[hdt]at z;cases z)) hg hm ?_ hd)) (by intro q;cases q);obtain⟨hp,g,d,tk,os⟩:=s;refine ML hC hD ho hc (TD.hasType PySem.F.excBase_ValueError.hasBase) ?_;by_cases b:(Value.ref Cc::ancC).contains (.ref D)=true
 ·rw[NU b]at h;rw[b];show codeAny _ _ _ _ _;refine codeAny_handlers_suite (R.again λs2 R2=>?_);obtain⟨o2,vs2,ho2,⟨hc2,hi2⟩,hd2,hn2⟩:=R2.objN;rw[<-hc2]at h;exact Fo (hb a o2 hi2 ⟨vs2,hd2,hn2⟩ Py s2 σ H E (R2.inv.held ho2 R2.apart (λv z=>by rw[hd2]at z;cases z)) h) λf s3 q=>q.unheld I.ok
 ·rw[NR b]at h;rw[Bool.not_eq_true]at b;rw[b];exact hr Py _ σ H E a _ R h
def pS (tb:XK->TS)(th:Value->Addr->TS):TS:=λD σ H=>tb (λC _ H'=>∀ a,th C a D σ H') D σ H
theorem FL{body:List Stmt}{h0:ExceptHandler}{hs:List ExceptHandler}{tx:XK->TS}(hex:X.ex=[])(hst:X.stack=X.env::X.outer)(hf:X.env.frame=some X.env.locals)(hb:sE X body tx)(hh:PH X (h0::hs) th):PS X (.Try body (h0::hs) [] [] pos) (pS tx th):=by
 intro Py s σ H D I h;refine wpAny_Try_except (Pi (hb Py s σ H D _ I h) (λf s1 q=>?_) λe s1 q=>?_)
 ·cases f with
  |next=>exact Ps q|ret v=>exact q|brk=>exact q|cont=>exact q
 ·exact LO hex hst hf q λa C H' s3 ee R q2=>by subst ee;exact hh Py s3 σ H' D a C R (q2 a)
end
def fL:Nat:=10 ^ 30
theorem D9(h:i.natAbs<fL):i.natAbs.log2<1920:=by
 by_cases z:i.natAbs=0
 ·rw[z];decide
 ·refine(Nat.log2_lt z).mpr (N1 h ?_);unfold fL;exact Od (by decide:10 ^ 30<=2 ^ 100) (Nat.pow_le_pow_right (n:=2) (by decide) (by decide:100<=1920))
section
end
theorem ED(h:i.natAbs<fL):(Str.ofString (toString i)).length<=32:=by have e:=int_text_length_le10 (k:=30) (by decide) h;rw[PySem.ofString_length];omega
section
variable {E:Value->Shared->Prop}
end
section
end
theorem ak.append:∀{ds1:List D}{vs1:QV}{f1:QW}{ds2:List D}{vs2:QV}{f2:QW},ak H ds1 vs1 f1->ak H ds2 vs2 f2->ak H (ds1++ds2) (vs1++vs2) (f1++f2)
 |[],_,_,_,_,_,h1,h2=>by unfold ak at h1;obtain⟨rfl,rfl⟩:=h1;exact h2|d::ds,_,_,_,_,_,h1,h2=>by unfold ak at h1;obtain⟨v,r,f,g,rfl,rfl,q1,q2⟩:=h1;rw[Ow];exact ak.cany q1 (ak.append q2 h2)
theorem ak.cut:∀(i:Nat) {ds:List D}{vs:QV}{fp:QW},ak H ds vs fp->∃ f1 f2,fp=f1++f2/\ak H (ds.take i) (vs.take i) f1/\ak H (ds.drop i) (vs.drop i) f2
 |0,ds,vs,fp,h=>⟨[],fp,rfl,ak.nil,h⟩|i+1,[],_,_,h=>by unfold ak at h;obtain⟨rfl,rfl⟩:=h;exact⟨[],[],rfl,ak.nil,ak.nil⟩|i+1,d::ds,_,_,h=>by unfold ak at h;obtain⟨v,r,f,g,rfl,rfl,q1,q2⟩:=h;obtain⟨f1,f2,rfl,h1,h2⟩:=ak.cut i q2;exact⟨f++f1,f2,(Ow _ _ _).symm,ak.cany q1 h1,h2⟩
theorem ao.acc(h:ao H H' (.lst ds) v):∃ a vs,v=.ref a/\H a=none/\fF H a H' ds vs:=by obtain⟨a,vs,fp,e1,e2,e3,e4,e5,e7,e6⟩:=ao.lso h;exact⟨a,vs,e1,e2,fp,e3,e4,e5,e7,e6⟩
theorem fF.get(a:fF H da H2 ds vs):H2 da=some (.lst vs):=by obtain⟨fp,h,_⟩:=a;exact h
theorem fF.len(a:fF H da H2 ds vs):ds.length=vs.length:=by obtain⟨fp,_,h,_⟩:=a;exact h.length
variable {sc:Scope}
section
variable {t:TA}
theorem dE(h:PE X (.Name x pos) te)(r:PA X es t):PA X (.Name x pos::es) (gj te t):=eL h r rfl
theorem dj {c:Const}{k:Nat}(h:PE X (.Constant c k pos) te)(r:PA X es t):PA X (.Constant c k pos::es) (gj te t):=eL h r rfl
variable {a:Expr}
theorem iE{o:UnaryOp}(h:PE X (.UnaryOp o a pos) te)(r:PA X es t):PA X (.UnaryOp o a pos::es) (gj te t):=eL h r rfl
variable {b:Expr}
theorem qz{c:Expr}(h:PE X (.IfExp a b c pos) te)(r:PA X es t):PA X (.IfExp a b c pos::es) (gj te t):=eL h r rfl
theorem ie{g:List Comprehension}(h:PE X (.ListComp a g sc pos) te)(r:PA X es t):PA X (.ListComp a g sc pos::es) (gj te t):=eL h r rfl
theorem FK{o:List CmpOp}{b:List Expr}(h:PE X (.Compare a o b pos) te)(r:PA X es t):PA X (.Compare a o b pos::es) (gj te t):=eL h r rfl
theorem bn(h:PE X (.Subscript a b pos) te)(r:PA X es t):PA X (.Subscript a b pos::es) (gj te t):=eL h r rfl
theorem dJ {a:List Expr}(h:PE X (.List a pos) te)(r:PA X es t):PA X (.List a pos::es) (gj te t):=eL h r rfl
theorem g7 {a:List Expr}{k:Nat}(h:PE X (.Tuple a k pos) te)(r:PA X es t):PA X (.Tuple a k pos::es) (gj te t):=eL h r rfl
theorem bN{o:Operator}(h:PE X (.BinOp a o b pos) te)(r:PA X es t):PA X (.BinOp a o b pos::es) (gj te t):=eL h r rfl
theorem bH {f:Expr}{a:List Expr}{k:List Keyword}(h:PE X (.Call f a k pos) te)(r:PA X es t):PA X (.Call f a k pos::es) (gj te t):=eL h r rfl
theorem dR(h:PE X (.Attribute a x pos) te)(r:PA X es t):PA X (.Attribute a x pos::es) (gj te t):=eL h r rfl
end
section
variable {a b:Expr}{tb:TE}{t:TA}
end
variable {u:TS}
section
variable {rest a b:List Stmt}{t:TS}{tc:TT}
end
theorem jD{t:TS}{D:bI}(M:St->Hp->Prop)(h:∀ NX:St->Hp->Prop,(∀ σ H,M σ H->NX σ H)->t {D with nx:=NX} σ H)(tail:∀ σ H,M σ H->u D σ H):fX t u D σ H:=h _ tail
theorem gx{t:TS}{D:bI}(h:∀ Q:Bool->Hp->Prop,Q false H->c σ H Q)(k:u D σ H):fX (ja c t sV) u D σ H:=h _ (iy k)
theorem o7{t e:TS}{D:bI}(h:∀ Q:Bool->Hp->Prop,Q true H->c σ H Q)(k:∀ NX:St->Hp->Prop,t {D with nx:=NX} σ H):fX (ja c t e) u D σ H:=h _ (ji (k _))
theorem wd:decide (V.ref a=V.non)=false:=N7 (by intro z;cases z)
theorem tK:decide (V.non=V.non)=true:=N0 rfl
theorem Bp{lo hi:Option Int}(h:ar K H a xs)(q:∀ p,H p=none->Q (.ref p) (upd H p (.lst (cK xs lo hi)))):Fj K (.ref a) lo hi H Q:=.inl ⟨a,xs,rfl,h,q⟩
theorem r_{k:Nat}(h:k<=xs.length):cK xs none (some (k:Int))=xs.take k:=by unfold cK;rw[HT.sIx_none,HT.sIx_nat,List.drop_zero,Nat.sub_zero,Nat.min_eq_left h]
theorem Jl{k:Nat}(h:k<=xs.length):cK xs (some (k:Int)) none=xs.drop k:=by unfold cK;rw[HT.sIx_none,HT.sIx_nat,Nat.min_eq_left h,N6 (by rw[O_];exact NV _)]
theorem vG{k:Int}(h0:0<=k)(h:k<(n:Int)):ix n k=some k.toNat:=by unfold ix;rw[NU h0,NU h]
theorem ae.put{w:Addr}(s:ae H0 H)(h:H0 w=none):ae H0 (upd H w o):=λb u e=>by rw[aE (bX e h)];exact s _ _ e
theorem o5{xs:List α}{k:Int}{x:α}(h0:0<=k)(h:xs[k.toNat]?=some x):fe xs k=some x:=by have:=bJ (j:=k.toNat) h;rwa [show((k.toNat:Nat):Int)=k by omega]at this
def Ls (H:Hp)(ka:Addr)(ls:QT):Prop:=∃ as:QW,H ka=some (.lst (as.map V.ref))/\as.length=ls.length/\∀(i:Nat) a l,as[i]?=some a->ls[i]?=some l->H a=some (.lst (l.map V.int))
variable {l:QS}
theorem Jk(h1:H a=some (.lst (l.map V.int)))(h2:H a=some (.lst (as.map V.ref))):l=[]:=by
 rw[h1]at h2;cases l with
 |nil=>rfl
 |cons i l=>
  cases as with
  |nil=>simp at h2
  |cons b as=>simp at h2
variable {ka:Addr}
theorem Ls.same{ls:QT}(e:ae H H')(h:Ls H ka ls):Ls H' ka ls:=by obtain⟨as,h1,h2,h3⟩:=h;exact⟨as,e _ _ h1,h2,λi a l e1 e2=>e _ _ (h3 i a l e1 e2)⟩
theorem Ls.len{ls:QT}(h:Ls H ka ls):∃ xs,H ka=some (.lst xs)/\xs.length=ls.length:=by obtain⟨as,h1,h2,h3⟩:=h;exact⟨_,h1,by rw[aV];exact h2⟩
theorem Ls.out{ls:QT}(h:Ls H ka ls):∃ xs,H ka=some (.lst xs)/\xs.length=ls.length/\av K H (ls.map nums) xs:=by obtain⟨as,h1,h2,h3⟩:=h;refine⟨_,h1,by rw[aV];exact h2,av.of (by simp[h2]) λi d v e1 e2=>?_⟩;rw[aR]at e1 e2;obtain⟨l,hl,rfl⟩:=ce.mp e1;obtain⟨a,ha,rfl⟩:=ce.mp e2;exact gz.mpr ⟨a,rfl,ar.of (h3 i a l ha hl)⟩
theorem Ls.rep{ls:QT}(h:Ls H ka ls):aq K H (.lst (ls.map nums)) (.ref ka):=by obtain⟨xs,h1,_,h2⟩:=h.out (K:=K);unfold aq;exact⟨ka,xs,rfl,ar.of h1,h2⟩
theorem Ls.item{ls:QT}{i:Nat}{x:V}(h:Ls H ka ls)(e:H ka=some (.lst xs))(hx:xs[i]?=some x):∃ a l,x=.ref a/\ls[i]?=some l/\H a=some (.lst (l.map V.int)):=by obtain⟨as,h1,h2,h3⟩:=h;rw[h1]at e;cases e;rw[aR]at hx;obtain⟨a,ha,rfl⟩:=ce.mp hx;have hi:=(dF.mp ha).1;refine⟨a,ls[i]'(by omega),rfl,by simp,h3 i a _ ha (by simp)⟩
theorem ao.ls{ls:QT}(h:ao H H' (.lst (ls.map nums)) v):∃ ka,v=.ref ka/\H ka=none/\Ls H' ka ls:=by obtain⟨a,vs,fp,rfl,ha,h1,h2,_⟩:=ao.lso h;obtain⟨e1,e2,e3⟩:=ak.lines h2;subst e1;refine⟨a,rfl,ha,fp,h1,e2,λi b l q1 q2=>?_⟩;obtain⟨l',z1,z2⟩:=e3 i b q1;rw[q2]at z1;cases z1;exact z2
variable {ds2:List D}
theorem ao.cat{p:Addr}{ds1:List D}(n1:ao H H1 (.lst ds1) (.ref a))(e1:ae H H1)(s:ae H1 H2)(n2:ao H1 H2 (.lst ds2) (.ref b))(h1:H2 a=some (.lst xs))(h2:H2 b=some (.lst ys))(hp:H2 p=none):ao H (upd H2 p (.lst (xs++ys))) (.lst (ds1++ds2)) (.ref p):=by
 obtain⟨a',vs,fp,ea,ha,g1,g2,g3,g4,g5⟩:=ao.lso n1;cases ea;obtain⟨b',vs',fq,eb,hb,k1,k2,k3,k4,k5⟩:=ao.lso n2;cases eb;have ev:xs=vs:=by rw[s _ _ g1]at h1;injection h1 with h1;injection h1 with h1;exact h1.symm
 have ev':ys=vs':=by rw[k1]at h2;injection h2 with h2;injection h2 with h2;exact h2.symm
 subst ev;subst ev';have sp:=aB hp (.lst (xs++ys));have hf:∀ b∈fp,∃ o,H1 b=some o:=ak.has _ g2;refine ao.lst ((ak.sq (s.trans sp).sq _ g2).append (ak.sq sp.sq _ k2)) (Oz.mpr ⟨g3,k3,λx hx y hy z=>?_⟩) (λc hc=>?_) ((e1.trans s).free hp) (λm=>?_) aw
 ·subst z;obtain⟨o,ho⟩:=hf x hx;have:=k5 x hy;rw[ho]at this;cases this
 ·rcases bC.mp hc with hc|hc
  ·exact g5 c hc
  ·exact e1.free (k5 c hc)
 ·rcases bC.mp m with m|m
  ·obtain⟨o,ho⟩:=hf p m;rw[s _ _ ho]at hp;cases hp
  ·obtain⟨o,ho⟩:=ak.has _ k2 p m;rw[ho]at hp;cases hp
theorem ao.item{i:Nat}{x:V}(n:ao H H' (.lst ds) (.ref a))(e:H' a=some (.lst xs))(hd:ds[i]?=some d)(hx:xs[i]?=some x):ao H H' d x:=by obtain⟨a',vs,fp,ea,ha,g1,g2,g3,g4,g5⟩:=ao.lso n;cases ea;rw[g1]at e;cases e;obtain⟨f1,f2,rfl,r1,r2⟩:=ak.cut i g2;have hi:=(dF.mp hd).1;have hj:=(dF.mp hx).1;rw[O0 hi,O0 hj]at r2;unfold ak at r2;obtain⟨v,r,f,g,e1,rfl,q1,q2⟩:=r2;cases e1;rw[NQ hi]at hd;cases hd;rw[NQ hj]at hx;cases hx;have n2:=(Oz.mp g3).2.1;exact⟨f,q1,(Oz.mp n2).1,λb hb=>g5 b (N3 _ (Ob _ hb))⟩
variable {ws:QS}
theorem ao.pairT{w:Int}{t:Addr}(n:ao H H1 (nums ws) (.ref a))(ht:H1 t=none):ao H (upd H1 t (.tup [.int w,.ref a])) (.tup [.int w,nums ws]) (.ref t):=by obtain⟨a',e,h1,h2⟩:=ao.iif.mp n;cases e;have s:=aB ht (.tup [.int w,.ref a]);refine ao.tup (fp:=[a]) (ak.cint (ak.cany (f:=[a]) (fp:=[]) (ai.line (s _ _ h2)) ak.nil)) (by simp) (λb hb=>?_) aw;rw[bu.mp hb];exact h1
section
variable {ga wa:Addr}{PP:QS}{known:QT}{m:Nat}
end
theorem GV{P:Nat->V->Hp->Prop}(wk:fD J H1 n P)(ls:QT)(hn:ls.length=n)(hz:n<=sizeLine)(h9:∀ l∈ls,l.length=9)(step:∀ i x l H' (R:VK),i<n->ls[i]?=some l->ae H1 H'->P i x H'->(∀ a H3,ae H' H3->H3 a=some (.lst (l.map V.int))->R (.ref a) H3)->g x σ0 H' λσ2 H2=>te σ2 H2 R)(fin:∀ a H',ae H1 H'->H1 a=none->Ls H' a ls->Q (.ref a) H'):tz J g oN te σ0 H1 Q:=by
 intro Da hD;nomatch λi m ys H=>m=n - i/\i<=n/\ae H1 H/\H Da=some (.lst ys)/\Ls H Da (ls.take i),⟨n,rfl,OF _,aB hD _,aw,[],aw,rfl,λi a l e _=>by simp at e⟩;rintro i m ys H ⟨rfl,hi,hs,hH,hL⟩;nomatch hH;obtain⟨as,h1,h2,h3⟩:=hL;have ey:ys=as.map V.ref:=by rw[hH]at h1;injection h1 with h1;injection h1
 subst ey;rw[OB]at h2;by_cases hlt:i<n
 ·refine .inr ⟨wk.go i H hlt hs,by rw[aV];omega,λys' H'=>(n - (i+1)<n - i/\i+1<=n/\ae H1 H'/\H' Da=some (.lst ys')/\Ls H' Da (ls.take (i+1))),λys' H' ⟨q1,q2,q3,q4,q5⟩=>⟨n - (i+1),q1,rfl,q2,q3,q4,q5⟩,λx H' hy=>?_⟩;obtain⟨s1,hp⟩:=wk.yld i H x H' hlt hs hy;have hi':i<ls.length:=by omega
  refine step i x ls[i] H' _ hlt (by simp) (hs.trans s1) hp λa H3 s3 ha=>?_;have hD3:H3 Da=some (.lst (as.map V.ref)):=s3 _ _ (s1 _ _ hH);refine⟨hD3,by omega,hlt,λb o e=>?_,aw,as++[a],by rw[aw,Oe];rfl,by rw[N4,OB];simp;omega,λj b l e1 e2=>?_⟩
  ·rw[aE (bX e hD)];exact s3 _ _ (s1 _ _ (hs _ _ e))
  ·have key:H3 b=some (.lst (l.map V.int))/\l.length=9:=by
    refine⟨?_,h9 l (List.mem_of_mem_take (bT e2))⟩;rw[List.getElem?_append]at e1;split at e1
    ·rename_i hj;have hji:j<i:=by omega
     refine s3 _ _ (s1 _ _ (h3 j b l e1 ?_));rw[List.getElem?_take]at e2 ⊢;rw[NU (by omega)]at e2;rw[NU hji];exact e2
    ·rename_i hj;have hj0:j - as.length=0:=by have:=(dF.mp e1).1;simp at this;omega
     have hji:j=i:=by omega
     rw[hj0]at e1;simp at e1;subst e1;rw[List.getElem?_take,NU (by omega),hji,NQ hi']at e2;cases e2;exact ha
   rw[aE (λz=>by have q:=key.1;rw[z]at q;have:=Jk q hD3;rw[this]at key;exact Oa key.2 (by decide))];exact key.1
 ·have e:i=n:=by omega
  subst e;refine .inl ⟨wk.stop H hs,fin _ _ hs hD ⟨as,hH,by omega,λj a l e1 e2=>h3 j a l e1 ?_⟩⟩;rw[N6 (by omega)];exact e2
theorem cu{k:Nat}(hr:aQ k A):A.units+1<cLine:=by have:=hr.units;omega
variable {tx td ty:TE}
section
variable {D:bI}
theorem GU (h:td σ H λx H1=>∃ a,x=.ref a/\sO H1 a/\ty σ H1 λy H2=>tx σ H2 λz H3=>∃ o,bj H3 a y o/\Q (o.getD z) H3):BN td ty tx σ H Q:=h
theorem FJ (h:td σ H λx H1=>ty σ H1 λy H2=>∃ a v,x=.ref a/\bj H2 a y (some v)/\Q v H2):Bu td ty σ H Q:=h
theorem rK (h:ty σ H λy H1=>td σ H1 λx H2=>∃ a o,x=.ref a/\bj H2 a y o/\Q (.bl o.isSome) H2):pZ ty td σ H Q:=h
theorem Jj (h:ty σ H λy H1=>td σ H1 λx H2=>∃ a o,x=.ref a/\bj H2 a y o/\Q (.bl (!o.isSome)) H2):CQ ty td σ H Q:=h
theorem FH (h:tv σ H λv H1=>td σ H1 λx H2=>ty σ H2 λy H3=>∃ a H4,x=.ref a/\fE H3 a y v H4/\D.nx σ H4):Bt td ty tv D σ H:=h
theorem nN {trs:List (TE×TE)}(h:∀ p,H p=none->ma trs σ (upd H p (.dK [])) λps H2=>H2 p=some (.dK [])/\∃ kvs:List (bp×V),ps=kvs.map (λkv=>(kV kv.1,kv.2))/\kvs.length<=15/\Q (.ref p) (upd H2 p (.dK (eR [] kvs)))):BG trs σ H Q:=h
variable {R:List (V×V)->Hp->Prop}
theorem Ji(h:R [] H):ma [] σ H R:=h
theorem GT{tk:TE}{r:List (TE×TE)}(h:tk σ H λx H1=>tv σ H1 λy H2=>ma r σ H2 λps H3=>R ((x,y)::ps) H3):ma ((tk,tv)::r) σ H R:=h
end
theorem Ls.more{na p:Addr}{ls ms:QT}{bs:QW}(h:Ls H na ls)(e:H na=some (.lst xs))(hl:bs.length=ms.length)(hb:∀(i:Nat) a l,bs[i]?=some a->ms[i]?=some l->H a=some (.lst (l.map V.int)))(hp:H p=none):Ls (L2.upd H p (.lst (xs++bs.map V.ref))) p (ls++ms):=by
 obtain⟨as,h1,h2,h3⟩:=h;rw[h1]at e;cases e;refine⟨as++bs,by rw[aw,Oe],by simp[h2,hl],λi a l e1 e2=>aB hp _ _ _ ?_⟩;rw[List.getElem?_append]at e1 e2;rw[<-h2]at e2;split at e1
 ·rename_i z;rw[NU z]at e2;exact h3 i a l e1 e2
 ·rename_i z;rw[NR z]at e2;exact hb _ a l e1 e2
theorem tW(h:H a=some (.lst (l.map V.int))):∀(i:Nat) b m,[a][i]?=some b->[l][i]?=some m->H b=some (.lst (m.map V.int)):=λi b m e1 e2=>by
 cases i with
 |zero=>simp at e1 e2;subst e1;subst e2;exact h
 |succ i=>simp at e1
theorem mK{c:Addr}{k:QS}(h:H a=some (.lst (l.map V.int)))(h':H c=some (.lst (k.map V.int))):∀(i:Nat) b m,[a,c][i]?=some b->[l,k][i]?=some m->H b=some (.lst (m.map V.int)):=λi b m e1 e2=>by
 cases i with
 |zero=>simp at e1 e2;subst e1;subst e2;exact h
 |succ i=>
  cases i with
  |zero=>simp at e1 e2;subst e1;subst e2;exact h'
  |succ i=>simp at e1
theorem ot{bs:QW}{ms:QT}(e:H a=some (.lst (bs.map V.ref)))(hl:bs.length=ms.length)(hb:∀(i:Nat) b l,bs[i]?=some b->ms[i]?=some l->H b=some (.lst (l.map V.int))):aq K H (.lst (ms.map nums)) (.ref a):=(show Ls H a ms from⟨bs,e,hl,hb⟩).rep
def zp (te:TE):TE:=λσ H Q=>te σ H λx H1=>∃ i:Int,x=.int i/\i.natAbs<fL/\∀ z,Q (.str z) H1
variable {k1:Nat}{p1 p2:Pos}
section
variable {a b:Str}{k2:Nat}{p3:Pos}
theorem Bo (he:PE X e te)(ha:a.length<=400)(hb:b.length<=400):PE X (.JoinedStr [.Constant (.str a) k1 p1,.FormattedValue e (-1) none p2,.Constant (.str b) k2 p3] pos) (zp te):=by
 intro Py s σ H Q I h;have e0:(Str.empty++a).length=a.length:=by rw[strLen_append];show 0+a.length=_;omega
 refine PySem.wpAny_JoinedStr ?_;show Joins _ _ _ [eval (.Constant (.str a) k1 p1) X.env,eval (.FormattedValue e (-1) none p2) X.env,eval (.Constant (.str b) k2 p3) X.env] _ _ _;refine Calls.Constant_str ⟨a,_,rfl,by rw[e0];exact bF (by omega),?_⟩;refine PySem.wpAny_FormattedValue_plain (aN (he Py _ σ H _ (I.tok _) h) λv s1 ⟨x,H1,I1,rx,i,ex,hi,q⟩=>?_);subst ex;obtain⟨t,rfl⟩:=rx;have l2:=ED hi;have e1:((Str.empty++a)++Str.ofString (toString i)).length=a.length+(Str.ofString (toString i)).length:=by rw[strLen_append,e0]
 have e2:(((Str.empty++a)++Str.ofString (toString i))++b).length=a.length+(Str.ofString (toString i)).length+b.length:=by rw[strLen_append,e1]
 refine PySem.wpAny_formatField_int (D9 hi) ⟨_,_,rfl,by rw[show((Str.empty++a)++_).length=_ from e1];exact bF (by omega),?_⟩;refine Calls.Constant_str ⟨b,_,rfl,by rw[show(((Str.empty++a)++_)++b).length=_ from e2];exact bF (by omega),?_⟩;exact⟨by rw[show(((Str.empty++a)++_)++b).length=_ from e2];exact bF (by omega),.str _,H1,(((I1.tok _).tok _).tok _).tok _,⟨_,rfl⟩,q _⟩
theorem zL(h:te σ H λx H1=>∃ i:Int,x=.int i/\i.natAbs<fL/\∀ z,Q (.str z) H1):zp te σ H Q:=h
end
theorem vF:g8 (cU P w) X E0:=λ_ _ _ _ _ _ _ h=>by obtain⟨_,_,_,_,_,_,_,_,_,h⟩:=h;exact h.elim
theorem GS{t:TA}(h:t σ H λvs H1=>sp vs H1 Q E):nE sp [] E t σ H Q:=by
 have e:(λ(vs:QV) (H1:Hp)=>sp (vs++[]) H1 Q E)=λvs H1=>sp vs H1 Q E:=by funext vs H1;rw[Oo]
 show t σ H λvs H1=>sp (vs++[]) H1 Q E;rw[e];exact h
theorem GR{C:Value}{t:TA}{D:bI}(h:t σ H λvs H1=>vs.length<=sizeLine/\E C none H1):Ca C E t D σ H:=h
theorem fF.ext{zs:QV}(a:fF H da H2 ds vs)(f:cO H H2)(s:ae H2 H3)(n:ao H2 H3 (.lst ds2) (.ref b))(hb:H3 b=some (.lst zs)):fF H da (upd H3 da (.lst (vs++zs))) (ds++ds2) (vs++zs):=by
 obtain⟨fp,h1,h2,h3,h4,h5⟩:=a;obtain⟨b',zs',fq,e,b0,g1,g2,g3,g4,g5⟩:=ao.lso n;cases e;have ez:zs'=zs:=by rw[g1]at hb;injection hb with hb;injection hb
 subst ez;have hd3:=s _ _ h1;have tk:=kg (o:=.lst (vs++zs')) hd3;have ndq:da∉fq:=λm=>by have:=g5 da m;rw[h1]at this;cases this
 have k1:∀ c∈fp,(upd H3 da (.lst (vs++zs'))) c=H2 c:=λc hc=>by obtain⟨o,ho⟩:=ak.has ds h2 c hc;rw[aE (show c≠da from λz=>h4 (by rw[<-z];exact hc)),ho];exact s _ _ ho
 have k2:∀ c∈fq,(upd H3 da (.lst (vs++zs'))) c=H3 c:=λc hc=>by rw[aE (show c≠da from λz=>ndq (by rw[<-z];exact hc))]
 refine⟨fp++fq,aw,(ak.frame (s.tups.trans tk) ds k1 h2).append (ak.frame tk ds2 k2 g2),Oz.mpr ⟨h3,g3,λx hx y hy z=>?_⟩,λm=>(bC.mp m).elim h4 ndq,λc m=>?_⟩
 ·subst z;obtain⟨o,ho⟩:=ak.has ds h2 x hx;have:=g5 x hy;rw[ho]at this;cases this
 ·rcases bC.mp m with m|m
  ·exact h5 c m
  ·exact f c (g5 c m)
theorem rc{tb:XK->TS}{D:bI}(h:tb (λC _ H'=>∀ a,th C a D σ H') D σ H):pS tb th D σ H:=h
open PySem.Calls
theorem wF:∀{ns:QS}{us:List Value},ns.length=us.length->(∀(j:Nat) (u:Value),us[j]?=some u->∃(i:Int) (t:Tok),ns[j]?=some i/\u=Value.int i t)->ax (ns.map V.int) us
 |[],[],_,_=>.nil|[],_::_,e,_=>by simp at e|_::_,[],e,_=>by simp at e|n::ns,u::us,e,h=>by
  obtain⟨i,t,e1,e2⟩:=h 0 u rfl;have e1:n=i:=by simpa using e1
  subst e1;exact .cons ⟨t,e2⟩ (wF (by simpa using e) λj v hv=>by obtain⟨i,t,q1,q2⟩:=h (j+1) v (by simpa using hv);exact⟨i,t,by simpa using q1,q2⟩)
def B_:QV->Hp->VK->Prop:=λxs H Q=>∃(a:Addr) (kvs:List (bp×V)) (ns:QS),xs=[.ref a]/\H a=some (.dK kvs)/\kvs.map (·.1)=ns.map Sum.inl/\ns.length<64/\∀(l:Addr) (ns':QS),H l=none->ns'.Perm ns->ns'.Pairwise (·<=·)->Q (.ref l) (upd H l (.lst (ns'.map V.int)))
theorem ER(hc:X.calm=true):dD X (.builtin "sorted") B_:=by
 intro Py s σ H xs us Q I r h;obtain⟨a,kvs,ns,rfl,ha,hk,h64,q⟩:=h;obtain⟨u,rfl,rx⟩:=jz r;cases rx;obtain⟨z,hd,vs,rel,dd⟩:=lW I.hok ha;obtain⟨ep,hat⟩:=dd.dictAt;have hl:=rel.length;have lk:kvs.length=ns.length:=by have:=congrArg List.length hk;simpa using this
 refine call_function_entry kind_sorted plain_sorted entry_sorted (args_sorted1 _) ?_;unfold Builtin.«sorted»;refine Pc (m:=checkCount "sorted" 1 1 _) (Pf ?_);refine Pc (kdu_collect (A:=X.A.in1) (kdl_dict (knd:=eM X.prog X.w) (kvs:=vs) (ep:=ep) hd) (show X.A.in1.handled=none from I.ok.hd hc) hat (by rw[<-hl];exact z) λh' tk acc hk' hacc=>?_);have P8:acc.toList.length=vs.length:=by rw[Array.length_toList];exact hacc.1
 have vl:ax (ns.map V.int) acc.toList:=wF (by omega) λj u hu=>by
  obtain⟨k,x,hx,hk2⟩:=hacc.2 j u (by rw[<-Array.getElem?_toList];exact hu);have e:(vs.map (·.1))[j]?=some k:=by rw[aR,hx];rfl
  rw[<-rel.keys,hk,aR]at e;obtain⟨i,hi,rfl⟩:=ce.mp e;rcases i0 (show kM (Sum.inl i) u=true from hk2)with⟨i',t,e,rfl⟩|⟨x',t,e,rfl⟩
  ·cases e;exact⟨i,t,hi,rfl⟩
  ·cases e
 refine Pc (wpAny_newList ?_ (by rw[P8,<-hl];exact z));have hoL:(h'.push {cls:=.type "list",data:=.seq acc.toList.toArray}).get? h'.objs.size=some (seqObj "list" acc.toList.toArray 0):=Ph _ rfl;have I1:am X Py σ H {s with heap:=h',toks:=tk}:=I.kept hk';refine Pc (Pw (wpAny_call_entry slot_list_sort ⟨_,hoL,rfl⟩ entry_list_sort (list_sort_tree hoL (K4 vl) (by omega) λout ns' a1 a2 a3=>⟨_,rfl,?_⟩) (args_list_sort _)));refine Pf ⟨_,rfl,?_⟩;obtain⟨e,he⟩:=sortedHeap_at (out:=out) hoL;have zn:(ns'.map V.int).length<=sizeLine:=by rw[aV,a2.length_eq];exact bF (by omega)
 refine⟨.ref h'.objs.size,_,I1.laid (a:=h'.objs.size) (t':=tk) (λb u hu=>?_) (NV _) (show c_ X.prog X.w _ _ _ (.lst (ns'.map V.int))from⟨zn,out.toList,e,xk a1,by rw[Array.toArray_toList];exact he⟩),rfl,q _ _ I1.fresh a2 a3⟩;have hu:h'.get? b=some u:=hu;have hlt:=Pe hu;show(sortedHeap (h'.push {cls:=.type "list",data:=.seq acc.toList.toArray}) h'.objs.size acc.toList out).get? b=some u;rw[sortedHeap_old (Ol hlt) (by rw[size_push'];exact Nat.lt_succ_of_lt hlt)];exact Pd _ hu
def B9:QV->Hp->VK->Prop:=λxs H Q=>∃(a:Addr) (kvs:List (bp×V)) (ns:QS),xs=[.ref a]/\H a=some (.dK kvs)/\kvs.map (·.1)=ns.map Sum.inl/\∀(l:Addr),H l=none->Q (.ref l) (upd H l (.lst (ns.map V.int)))
theorem KW(hc:X.calm=true):dD X (.type "list") B9:=by
 intro Py s σ H xs us Q I r h;obtain⟨a,kvs,ns,rfl,ha,hk,q⟩:=h;obtain⟨u,rfl,rx⟩:=jz r;cases rx;obtain⟨z,hd,vs,rel,dd⟩:=lW I.hok ha;obtain⟨ep,hat⟩:=dd.dictAt;have hl:=rel.length;have lk:kvs.length=ns.length:=by have:=congrArg List.length hk;simpa using this
 refine kdl_call (kdl_dict (knd:=eM X.prog X.w) (kvs:=vs) (ep:=ep) hd) (I.ok.hd hc) hat (by rw[<-hl];exact z) λh' tk acc c' hk' hS' hacc=>?_;have P8:acc.toList.length=vs.length:=by rw[Array.length_toList];exact hacc.1
 have vl:ax (ns.map V.int) acc.toList:=wF (by omega) λj u hu=>by
  obtain⟨k,x,hx,hk2⟩:=hacc.2 j u (by rw[<-Array.getElem?_toList];exact hu);have e:(vs.map (·.1))[j]?=some k:=by rw[aR,hx];rfl
  rw[<-rel.keys,hk,aR]at e;obtain⟨i,hi,rfl⟩:=ce.mp e;rcases i0 (show kM (Sum.inl i) u=true from hk2)with⟨i',t,e,rfl⟩|⟨x',t,e,rfl⟩
  ·cases e;exact⟨i,t,hi,rfl⟩
  ·cases e
 exact⟨.ref s.heap.objs.size,_,I.laid (t':=tk) hk' (NV _) (show c_ X.prog X.w _ _ _ (.lst (ns.map V.int))from⟨by rw[aV];omega,acc.toList,c',vl,by rw[Array.toArray_toList];exact hS'⟩),rfl,q _ I.fresh⟩
variable {kvs:List (bp×V)}
theorem HI(h:H a=some (.dK kvs))(e:kvs.map (·.1)=ns.map Sum.inl)(q:∀(l:Addr),H l=none->Q (.ref l) (upd H l (.lst (ns.map V.int)))):B9 [.ref a] H Q:=⟨a,kvs,ns,rfl,h,e,q⟩
theorem EC:bootBuiltins "sorted"=some (.builtin "sorted"):=by decide+kernel
theorem Cp(h:H a=some (.dK kvs))(e:kvs.map (·.1)=ns.map Sum.inl)(l:ns.length<64)(q:∀(l:Addr) (ns':QS),H l=none->ns'.Perm ns->ns'.Pairwise (·<=·)->Q (.ref l) (upd H l (.lst (ns'.map V.int)))):B_ [.ref a] H Q:=⟨a,kvs,ns,rfl,h,e,l,q⟩
theorem FG(h:∀ p,H p=none->Q (.ref p) (upd H p (.dK []))):BP σ H Q:=h
theorem D8 {κ:Type}[DecidableEq κ](k j:κ):∀ kvs:List (κ×V),aI (fH kvs k) j=if j=k then none else aI kvs j
 |[]=>by simp[fH,aI]|p::r=>by
  have ih:=D8 k j r;by_cases e:p.1=k
  ·rw[Kr e,ih];by_cases z:j=k
   ·rw[NU z,NU z]
   ·rw[NR z,NR z,hV (λw=>z (w.symm.trans e))]
  ·rw[Kq e];by_cases w:p.1=j
   ·rw[im w,im w,NR (λz=>e (w.trans z))]
   ·rw[hV w,hV w,ih]
section
variable {a:Str}
theorem vE (he:PE X e te)(ha:a.length<=400):PE X (.JoinedStr [.Constant (.str a) k1 p1,.FormattedValue e (-1) none p2] pos) (zp te):=by
 intro Py s σ H Q I h;have e0:(Str.empty++a).length=a.length:=by rw[strLen_append];show 0+a.length=_;omega
 refine PySem.wpAny_JoinedStr ?_;show Joins _ _ _ [eval (.Constant (.str a) k1 p1) X.env,eval (.FormattedValue e (-1) none p2) X.env] _ _ _;refine Calls.Constant_str ⟨a,_,rfl,by rw[e0];exact bF (by omega),?_⟩;refine PySem.wpAny_FormattedValue_plain (aN (he Py _ σ H _ (I.tok _) h) λv s1 ⟨x,H1,I1,rx,i,ex,hi,q⟩=>?_);subst ex;obtain⟨t,rfl⟩:=rx;have l2:=ED hi;have e1:((Str.empty++a)++Str.ofString (toString i)).length=a.length+(Str.ofString (toString i)).length:=by rw[strLen_append,e0]
 refine PySem.wpAny_formatField_int (D9 hi) ⟨_,_,rfl,by rw[show((Str.empty++a)++_).length=_ from e1];exact bF (by omega),?_⟩;exact⟨by rw[show((Str.empty++a)++_).length=_ from e1];exact bF (by omega),.str _,H1,((I1.tok _).tok _).tok _,⟨_,rfl⟩,q _⟩
end
section
variable {k j:Nat}{ps:List Str}
theorem FF (G:kE X.prog X.w X.K X.mg X.base x C ps j sp)(hr:aQ k X.A)(hg:Gl X x)(hj:↥(j+1<=k))(hdb:↥((x==("__debug__":Str))=false)):PE X (.Call (.Name x p) [] [] pos) (kJ C sp [] E0 iq):=by obtain⟨f,fd,M,F,hb,hm⟩:=G.ex;exact IQ M F (hr.mono hj) hg hm hb .nil cf hdb
end
theorem FE{m:Str}{t:TA}(h:ta σ H λx H1=>hX C m x H1 (t σ H1 λvs H2=>sp (x::vs) H2 Q E)):oO C m sp [] E ta t σ H Q:=by
 have e:(λ(x:V) (vs:QV) (H2:Hp)=>sp (x::(vs++[])) H2 Q E)=λx vs H2=>sp (x::vs) H2 Q E:=by funext x vs H2;rw[Oo]
 show ta σ H λx H1=>hX C m x H1 (t σ H1 λvs H2=>(λ(x:V) (vs:QV) (H2:Hp)=>sp (x::(vs++[])) H2 Q E) x vs H2);rw[e];exact h
theorem HH(h:td σ H λx H1=>∃ a,x=.ref a/\sO H1 a/\ty σ H1 λy H2=>tx σ H2 λz H3=>∃ kvs k,H3 a=some (.dK kvs)/\y=kV k/\(∀ v,aI kvs k=some v->Q v (upd H3 a (.dK (fH kvs k))))/\(aI kvs k=none->Q z H3)):BM td ty tx σ H Q:=h
theorem NB(h: ~~~(N.Nodup)):N.Nodup:=h
theorem bG.m(kind:⇑(scope.kind=.function))(nocell: ~~~(∀ y∈scope.names,y.2≠.cell))(nm: ~~~(∀ y∈scope.names,y.2=.local->scope.names.lookup y.1=some .local))(fr: ~~~(∀ y∈scope.names,y.2=.free->sc0.names.lookup y.1=some .cell\/sc0.names.lookup y.1=some .free))(len:⇑(ms.length=N'.length))(sl: ~~~(kW N scope N' ms (N.map some)=true)):bG sc0 N scope N' ms:=bG.mk' kind nocell nm fr len sl
def mq:Value->Bool
 |.none=>true|_=>false
def nM:V->Bool
 |.non=>true|_=>false
theorem Jh{x:V}{u:Value}(h:aq K H d x)(r:aC x u):mq u=nM x/\mq u=aF d .non:=by
 cases d with
 |non=>unfold aq at h;subst h;cases r;exact⟨rfl,by unfold aF;rfl⟩
 |bl b=>unfold aq at h;subst h;cases r;exact⟨rfl,by unfold aF;rfl⟩
 |int i=>unfold aq at h;subst h;obtain⟨t,rfl⟩:=r;exact⟨rfl,by unfold aF;rfl⟩
 |str z=>unfold aq at h;subst h;obtain⟨t,rfl⟩:=r;exact⟨rfl,by unfold aF;rfl⟩
 |lst ds=>unfold aq at h;obtain⟨a,xs,rfl,_⟩:=h;cases r;exact⟨rfl,by unfold aF;rfl⟩
 |tup ds=>unfold aq at h;obtain⟨a,xs,rfl,_⟩:=h;cases r;exact⟨rfl,by unfold aF;rfl⟩
def mS (K:Fg)(neg:Bool):R2:=λx y H Q=>x=.non/\∃ p xs ds,y=.ref p/\ar K H p xs/\av K H ds xs/\cN ds<=40/\Q (.bl (if neg then !xs.any nM else xs.any nM)) H
section
variable {k:Nat}
theorem D7(I:am X Py σ H s)(hu:A.units+40<cLine):∀{ds:List D}{xs:QV}{us:List Value},av X.K H ds xs->ax xs us->cN ds<=40->(∀ u∈us,EqAt A s u .none (mq u))/\us.any mq=xs.any nM
 |[],_,_,h,r,_=>by unfold av at h;subst h;cases r;exact⟨λu hu=>(by cases hu),rfl⟩|d::ds,_,_,h,r,hd=>by
  unfold av at h;obtain⟨x,xs,rfl,h1,h2⟩:=h;cases r with|cons rx rs=>
   rename_i u us;unfold cN at hd;have ih:=D7 I hu h2 rs (Od (Nat.le_max_right _ _) hd);have e:=Jh h1 rx;refine⟨λw hw=>?_,by rw[OC,OC,e.1,ih.2]⟩;rcases NP.mp hw with rfl|hw
   ·rw[e.2];exact tD I 40 d .non A x .non w .none (Od (Nat.le_max_left _ _) hd) hu h1 (by unfold aq;rfl) rx rfl
   ·exact ih.1 w hw
theorem FD (hr:aQ k X.A):bV X (compareOp .In) (mS X.K false):=by intro Py s σ H x y v u Q I rx ry h;obtain⟨rfl,p,xs,ds,rfl,hq,hd,hn,q⟩:=h;cases ry;cases rx;obtain⟨its,r,pl,hz⟩:=I.list hq;obtain⟨m1,m2⟩:=D7 I (A:=X.A.in1) (by have:=hr.units;show X.A.units+1+40<cLine;omega) hd r hn;refine in_listAt mq pl.isList (λw hw=>m1 w (by simpa using hw)) ⟨.bl _,H,I,rfl,?_⟩;rw[show its.toArray.any mq=its.any mq by simp,m2];exact q
theorem qU (K:Fg)(hr:aQ k X.A)(hK:⇑(X.K=K)):bV X (compareOp .In) (mS K false):=by subst hK;exact FD hr
end
theorem rD(h:ar K H a xs)(h1:av K H ds xs)(h2:cN ds<=40)(q:Q (.bl (xs.any nM)) H):mS K false .non (.ref a) H Q:=⟨rfl,a,xs,ds,rfl,h,h1,h2,q⟩
def pT (K:Fg)(ta:TE):TT:=λσ H Q=>ta σ H λx H'=>∃ k,jm K x H' k/\Q k H'
theorem vp{a:Expr}(K:Fg)(ha:PE X a ta)(hK:⇑(X.K=K))(he:autoParam (∀ PQ,isTrue a X.env PQ=(do let v<-PQ;standAt a.pos;holding [v] (truthy v))) lJ):PT X a (pT K ta):=by subst hK;exact IU ha he
theorem re{Q:Bool->Hp->Prop}(h:ta σ H λx H'=>∃ k,jm K x H' k/\Q k H'):pT K ta σ H Q:=h
theorem vD{P:Bool->Prop}(h:ar K H a xs)(q:P (!xs.isEmpty)):∃ k,jm K (.ref a) H k/\P k:=⟨_,.inl ⟨xs,h,rfl⟩,q⟩
theorem rp{i j:Str}(q:Q (.bl (!decide (i=j))) H):ko K (.str i) (.str j) H Q:=.inl ⟨rfl,by have e:decide (V.str i=V.str j)=decide (i=j):=decide_eq_decide.mpr ⟨λh=>by injection h,λh=>by rw[h]⟩;rw[e];exact q⟩
theorem Bn(h:H a=some (.lst xs))(e:xs[xs.length - 1]?=some y)(q:Q y (upd H a (.lst xs.dropLast))):qm (.ref a) [] H Q:=⟨a,xs,y,rfl,rfl,h,e,q⟩
theorem FC(h:H a=some (.lst (y::xs)))(q:Q y (upd H a (.lst xs))):BQ (.ref a) [.int 0] H Q:=⟨a,y::xs,0,0,y,rfl,rfl,h,by decide,by decide,by unfold seqIndex?;simp,rfl,q⟩
mutual
theorem ai.hasL {H:Hp}:∀(d:D) {v:V}{fp:QW},ai H d v fp->∀ a∈fp,∃ xs,H a=some (.lst xs)
 |.non,_,_,h,a,m=>by unfold ai at h;rw[h.2]at m;cases m|.bl _,_,_,h,a,m=>by unfold ai at h;rw[h.2]at m;cases m|.int _,_,_,h,a,m=>by unfold ai at h;rw[h.2]at m;cases m|.str _,_,_,h,a,m=>by unfold ai at h;rw[h.2]at m;cases m|.lst ds,_,_,h,b,m=>by
  unfold ai at h;obtain⟨a,xs,r,h1,h0,h2,h3⟩:=h;subst h0;rcases NP.mp m with rfl|m
  ·exact⟨_,h2⟩
  ·exact ak.hasL ds h3 b m
 |.tup ds,_,_,h,b,m=>by unfold ai at h;obtain⟨a,xs,h1,h2,h3⟩:=h;exact ak.hasL ds h3 b m
theorem ak.hasL {H:Hp}:∀(ds:List D) {vs:QV}{fp:QW},ak H ds vs fp->∀ a∈fp,∃ xs,H a=some (.lst xs)
 |[],_,_,h,a,m=>by unfold ak at h;rw[h.2]at m;cases m|d::ds,_,_,h,b,m=>by
  unfold ak at h;obtain⟨v,r,f,g,h1,h0,h2,h3⟩:=h;subst h0;rcases bC.mp m with m|m
  ·exact ai.hasL d h2 b m
  ·exact ak.hasL ds h3 b m
end
structure Kn (u:TS)(D:bI)(NX:St->Hp->Prop):Prop where
 on:∀ σ H,u D σ H->NX σ H
theorem zF{t:TS}{D:bI}(h:∀ NX:St->Hp->Prop,Kn u D NX->t {D with nx:=NX} σ H):fX t u D σ H:=h _ ⟨λ_ _ q=>q⟩
theorem rP{D:bI}{NX:St->Hp->Prop}(k:Kn u D NX)(h:u D σ H):NX σ H:=k.on _ _ h
theorem rF{t:TS}{D:bI}(h:∀ T:St->Hp->Prop,Kn t D T->∀ U:St->Hp->Prop,Kn u D U->c σ H λb H1=>if b=true then T σ H1 else U σ H1):ja c t u D σ H:=h _ ⟨λ_ _ q=>q⟩ _ ⟨λ_ _ q=>q⟩
theorem FB{n:Str}{ps:Arguments}{b:List Stmt}(h:aX K a=some (vB n q ps b sc))(hc:aW K a q=true):
  ∃ oc od sl kV dc pm an cd ct,K.lookup a=some ⟨oc,od,.func (fnOf n q ps b sc .none kV dc pm an cd ct),sl⟩/\codeIn K cd q=true/\keepIn K (.ref a)=true:=by
 unfold aX at h;unfold aW at hc;split at h
 ·rename_i oc od f sl e;rw[e]at hc;simp only[NS]at hc;obtain⟨c1,c2⟩:=hc;obtain⟨f1,f2,f3,f4,f5,f6,f7,f8,f9,f10,f11,f12,f13,f14,f15⟩:=f;have h:=Oj h;unfold vB at h;simp only[Prod.mk.injEq]at h;obtain⟨rfl,rfl,rfl,rfl,rfl,rfl,rfl,rfl,rfl⟩:=h;exact⟨oc,od,sl,_,_,_,_,_,_,e,c1,c2⟩
 ·cases h
theorem oZ(h:mj K C bm newId=true):
  ∃ nm q N bs hdct sn sub ab col dd k0 k1 k2 k3 k5,K.lookup C=some (excClassObj nm q C N bs bm hdct sn sub ab col dd k0 k1 k2 k3 k5 newId):=by
 unfold mj at h;split at h
 ·rename_i cl dd c sl e;simp only[NS]at h;obtain⟨⟨⟨h1,h2⟩,h3⟩,h4⟩:=h;obtain⟨c1,c2,c3,c4,c5,c6,c7,c8,c9,c10,c11⟩:=c;have h1:=eq_of_beq h1;have h2:c3=.ref C::bm:=eq_of_beq h2;have h30:c11=false:=by cases c11<;>first|rfl|cases h3
  subst h1 h2 h30;split at h4
  ·rename_i k0 k1 k2 k3 v k5 es;have h4:=eq_of_beq h4;subst h4;have es:sl=#[k0,k1,k2,k3,some (.builtin newId),k5]:=by rw[<-Array.toArray_toList (xs:=sl),es]
   subst es;exact⟨_,_,_,_,_,_,_,_,_,_,_,_,_,_,_,e⟩
  ·cases h4
 ·cases h
theorem tH{vs:List Value}(h:nS K a vs=true):∃ dd n ss,K.lookup a=some ⟨.type "tuple",dd,.seq vs.toArray n,ss⟩:=by
 unfold nS at h;split at h
 ·rename_i cl dd xs n ss e;simp only[NS]at h;obtain⟨h1,h2⟩:=h;have h1:=eq_of_beq h1;have h2:xs.toList=vs:=eq_of_beq h2;subst h1 h2;exact⟨dd,n,ss,by rw[Array.toArray_toList];exact e⟩
 ·cases h
theorem i8{l:PySem.W.OpenLaw}{k:Nat}{q:Program}{loose:List Str}{XP:(Str->Option Value)->Heap->Prop}{YP:World->Heap->Prop}{d:DefRec}{S:Fg->Prop}{sp:Fg->Sp}(hn:l.most=some n)(hn2:n<=sizeLine)(hdf:d.params.defaults=[])(hr:aQ k callerA)(hY:∀(w:World) (h:Heap),YP w h->∃ K:Fg,K.In h/\S K)(F:∀(w:World) (K:Fg) (mg:Str->Option Value) (fa:Addr) (h:Heap),S K->K.In h->h.Ns mainGlobals mg->mg d.name=some (.ref fa)->
   ∃ fd:FuncData,(∀(s:Shared) (u:Value),BindsTo s fd ⟨[u],[]⟩ [(x,u)])/\
    ∀ base:Heap,K.In base->base.Ns mainGlobals mg->ck l.prog w K mg base CX k fa fd [x] (sp K))(hsp:∀(K:Fg) (H:Hp) (a:Addr) (ns:QS),ns.length<=n->m7 H->ar K H a (ns.map V.int)->sp K [.ref a] H (λv _=>v=.bl true) λ_ _ _=>False)(hCX:∀(H:Hp) (s:Shared) (e:Value) (s':Shared),CX [] H s (λ_ _ _=>False) e s'->False):
  PySem.W.WalkO q loose XP YP l.row.toRowW d [] (λf vs=>PySem.call f vs):=by refine Att.attach_call hn hdf λw s₀ s₁ mg mb fa o pm cd doc a vs ns G Y ho hd hcd hmg hobj hints hlen hg=>?_;obtain⟨K,KX,hS⟩:=hY w _ Y;obtain⟨fd,hb,hF⟩:=F w K mg fa _ hS KX G.T.g hmg;exact IJ KX G.T.g G.T.b G.T.builtins G.T.nolimit hg hobj hints (Od hlen hn2) hr hF hb (λH hO hS=>hsp K H a ns hlen hO hS) λH e s'=>hCX H s₁ e s'
end L2
set_option maxHeartbeats 0
namespace L2
open PySem PySem.Spec PySem.Calls PyProof.Rows
variable {a:Addr}{prog:Program}{w:World}{A:Around}{E:Value->Shared->Prop}{h:Heap}{g:Array GenState}{d:Drawn}{os:OsState}{o:Obj}
section
variable {t:Nat}
end
variable {n:Nat}
section
variable {t:Nat}{its:Array Value}
end
section
variable {prog:Program}{w:World}{K:Type} [DecidableEq K] {knd:KeyKind prog w K}{A:Around}
end
section
variable {prog:Program}{w:World}{K:Type} [DecidableEq K] {knd:KeyKind prog w K}{A:Around}{E:Value->Shared->Prop}{s:Shared}
end
open PySem.W
def zu:R2:=λx y H Q=>∃ i j,x=.bl i/\y=.bl j/\Q (.bl (decide (i=j))) H
variable {X:Cx}
theorem FA:bV X (compareOp .Is) zu:=by intro Py s σ H x y v u Q I rx ry h;obtain⟨i,j,rfl,rfl,q⟩:=h;cases rx;cases ry;exact is_bool (cZ I q (by cases i<;>cases j<;>rfl))
variable {s:Shared}
section
variable {R:Result->Shared->Prop}
end
open PySem.SeqAt
def mT (K:Fg):R2:=λx y H Q=>∃(p:Addr) (as:QW) (ds:List D) (e:D),y=.ref p/\ar K H p (as.map V.ref)/\as.Nodup/\av K H ds (as.map V.ref)/\cN ds<=40/\aq K H e x/\Q (.bl (ds.any λd=>aF d e)) H
def jj (as:QW)(ds:List D)(e:D):Value->Bool
 |.ref a=>(((as.zip ds).find? λp=>decide (p.1=a)).map λp=>aF p.2 e).getD false|_=>false
theorem Co:∀{as:QW}{ds:List D}{e:D},as.Nodup->as.length=ds.length->(as.map Value.ref).any (jj as ds e)=ds.any λd=>aF d e
 |[],[],e,_,_=>rfl|[],_::_,e,_,h=>by simp at h|_::_,[],e,_,h=>by simp at h|a::as,d::ds,e,nd,h=>by
  have ih:=Co (as:=as) (ds:=ds) (e:=e) (Og.mp nd).2 (by simpa using h);rw[bw,OC,OC,<-ih];congr 1
  ·unfold jj;simp
  ·rw[List.any_map,List.any_map];refine OJ.mpr ?_;rw[List.any_eq_true,List.any_eq_true];have key:∀ b∈as,jj (a::as) (d::ds) e (.ref b)=jj as ds e (.ref b):=λb hb=>by have ne:¬ a=b:=λz=>(Og.mp nd).1 (by rw[z];exact hb);simp[jj,List.find?_cons,ne]
   exact⟨λ⟨b,hb,q⟩=>⟨b,hb,by rw[<-q];exact(key b hb).symm⟩,λ⟨b,hb,q⟩=>⟨b,hb,by rw[<-q];exact key b hb⟩⟩
theorem B8:∀{as:QW}{ds:List D}{e:D}{i:Nat}{a:Addr}{d:D},as.Nodup->as[i]?=some a->ds[i]?=some d->jj as ds e (.ref a)=aF d e
 |[],_,_,i,_,_,_,h,_=>by simp at h|b::as,[],_,i,_,_,_,_,h=>by simp at h|b::as,c::ds,e,0,a,d,_,h1,h2=>by simp at h1 h2;subst h1;subst h2;unfold jj;simp|b::as,c::ds,e,i+1,a,d,nd,h1,h2=>by have m:a∈as:=bT (i:=i) (by simpa using h1);have ne:¬ b=a:=λz=>(Og.mp nd).1 (by rw[z];exact m);have:=B8 (as:=as) (ds:=ds) (e:=e) (i:=i) (Og.mp nd).2 (by simpa using h1) (by simpa using h2);rw[<-this];simp[jj,List.find?_cons,ne]
theorem D6:∀{as:QW}{us:List Value},ax (as.map V.ref) us->us=as.map Value.ref
 |[],_,h=>by cases h;rfl|a::as,_,h=>by
  cases h with|cons h1 h2=>cases h1;rw[D6 h2];rfl
variable {H:Hp}{σ:St}
section
variable {k:Nat}{Py:QX}
theorem Fz (hr:aQ k X.A):bV X (compareOp .In) (mT X.K):=by
 intro Py s σ H x y v u Q I rx ry h;obtain⟨p,as,ds,e,rfl,hq,nd,hd,hn,he,q⟩:=h;cases ry;obtain⟨its,r,pl,hz⟩:=I.list hq;have ei:=D6 r;subst ei;have hl:=hd.length;rw[aV]at hl;refine in_listAt (jj as ds e) pl.isList (λw hw=>?_) ⟨.bl _,H,I,rfl,?_⟩
 ·have hw:w∈as.map Value.ref:=by simpa using hw
  obtain⟨a,ha,rfl⟩:=bB.mp hw;obtain⟨i,hi⟩:=List.getElem?_of_mem ha;have hi2:i<ds.length:=by rw[hl];exact(dF.mp hi).1
  rw[B8 nd hi (NQ hi2)];have hrep:aq X.K H ds[i] (.ref a):=by obtain⟨d',e1,e2⟩:=av.get' hd (show(as.map V.ref)[i]?=some (.ref a)by rw[aR,hi];rfl);rw[NQ hi2]at e1;cases e1;exact e2
  have dle:dM ds[i]<=40:=Od (oj (Om hi2)) hn;exact tD I 40 ds[i] e X.A.in1 (.ref a) x (.ref a) v dle (by have:=hr.units;show X.A.units+1+40<cLine;omega) hrep he rfl rx
 ·rw[show(as.map Value.ref).toArray.any (jj as ds e)=(as.map Value.ref).any (jj as ds e)by simp,Co nd hl.symm];exact q
theorem qV (K:Fg)(hr:aQ k X.A)(hK:⇑(X.K=K)):bV X (compareOp .In) (mT K):=by subst hK;exact Fz hr
end
theorem rE{K:Fg}{Q:VK}{x:V}{as:QW}{ds:List D}{e:D}(h:ar K H a (as.map V.ref))(nd:as.Nodup)(h1:av K H ds (as.map V.ref))(h2:cN ds<=40)(h3:aq K H e x)(q:Q (.bl (ds.any λd=>aF d e)) H):mT K x (.ref a) H Q:=⟨a,as,ds,e,rfl,h,nd,h1,h2,h3,q⟩
variable {x:Str}{te:TE}{pos:Pos}{sp:Sp}
section
variable {a b e:Expr}{ta tb:TE}{p:Pos}{es:List Expr}{t:TA}{k j:Nat}{ps:List Str}{r:R2}{op:CmpOp}
theorem jx (K:Fg)(ha:PE X a ta)(hb:PE X b tb)(hK:⇑(X.K=K))(hs:CT b:=by exact λ_ _=>rfl):PE X (.Subscript a b pos) (i_ (mQ K) ta tb):=qw (zC K hK) ha hb hs
theorem jp (K:Fg)(ha:PE X a ta)(hb:PE X b tb)(hK:⇑(X.K=K)):PE X (.BinOp a .Add b pos) (i_ (nA K) ta tb):=aO (GN K hK) ha hb
theorem jc (ho:bV X (compareOp op) r)(ha:PE X a ta)(hb:PE X b tb)(hm:behindInMarks op b=false:=by first|exact tF _|rfl):PT X (.Compare a [op] [b] pos) (oK (i_ r ta tb)):=wr ho ha hb hm
theorem jv (ho:bV X (compareOp op) r)(ha:PE X a ta)(hb:PE X b tb)(hm:behindInMarks op b=false:=by first|exact tF _|rfl):PE X (.Compare a [op] [b] pos) (i_ r ta tb):=wu ho ha hb hm
theorem jt (K:Fg)(hr:aQ k X.A)(ha:PE X a ta)(hb:PE X b tb)(hK:⇑(X.K=K)):PT X (.Compare a [.Eq] [b] pos) (oK (i_ (gO K) ta tb)):=wr (qX K hr hK) ha hb (tF _)
theorem jE (K:Fg)(hr:aQ k X.A)(ha:PE X a ta)(hb:PE X b tb)(hK:⇑(X.K=K)):PE X (.Compare a [.Eq] [b] pos) (i_ (gO K) ta tb):=wu (qX K hr hK) ha hb (tF _)
theorem jn (i:Nat)(rr:PA X es t)(hN:⇑(X.N[i]?=some x))(hv:autoParam (oF X.env.scope x) zo)(hd:↥((x==("__debug__":Str))=false))(hcd:↥((x==("__classdict__":Str))=false)):
  PA X (.Name x pos::es) (gj (i9 i) t):=dE (pv i hN hv hd hcd) rr
theorem jk {n:Int}{c:Nat}(rr:PA X es t):PA X (.Constant (.int n) c pos::es) (gj (tC (.int n)) t):=dj aj rr
theorem js {pos':Pos}(i:Nat)(hN:X.N.Nodup)(he:PE X e te)(hi:⇑(X.N[i]?=some x))(hx:autoParam (oH X.env.scope x) Fb)(hs:⇑(swapsWith e (some (.Name x pos')) pos.line X.env=pure false))
  (hf:autoParam (X.fn x=true\/X.env.scope.names.lookup x=some .local) oB):PS X (.Assign [.Name x pos'] e pos) (ir te (lY i)):=Gj hN hi hx he hs hf
theorem jg (i:Nat)(hN:X.N.Nodup)(hi:⇑(X.N[i]?=some x))(hx:autoParam (oH X.env.scope x) Fb)(hf:autoParam (X.fn x=true\/X.env.scope.names.lookup x=some .local) oB):
  PG X (.Name x pos) (lY i):=CL hN hi hx hf
theorem jf (K:Fg){f:Str}(i:Nat)(hN:⇑(X.N[i]?=some x))(hv:autoParam (oF X.env.scope x) zo)(hd:↥((x==("__debug__":Str))=false))(hcd:↥((x==("__classdict__":Str))=false))
  (hb:⇑(attributeBase (.Name x p) f X.env (eval (.Name x p) X.env)=eval (.Name x p) X.env)) (hK:⇑(X.K=K)):PE X (.Attribute (.Name x p) f pos) (km K (i9 i) f):=kP K (pv i hN hv hd hcd) hb hK
theorem jl (G:Fn X.prog X.w X.K X.mg X.base x ps j sp)(hr:aQ k X.A)(ha:PA X (e::es) t)(hg:⇑(Gl X x))(hj:↥(j<=k))(hdb:↥((x==("__debug__":Str))=false))
  (he:⇑(starEach (e::es) X.env=(false,eval e X.env)::starEach es X.env)) (hpl:⇑((backTo pos (starEach es X.env)).any (·.1)=false)):PE X (.Call (.Name x p) (e::es) [] pos) (nE sp [] E0 t):=qx G hr hg ha hj hdb he hpl
end
variable {N:List Str}{scope:Scope}
theorem bG.f{sc0:Scope}{ps:List Str}(S:aU N ps sc0)(N':List Str)(ms:List Bool)(kind:⇑(scope.kind=.function))(nocell: ~~~(∀ y∈scope.names,y.2≠.cell))(nm: ~~~(∀ y∈scope.names,y.2=.local->scope.names.lookup y.1=some .local))(fr: ~~~(∀ y∈scope.names,y.2=.free->sc0.names.lookup y.1=some .cell\/sc0.names.lookup y.1=some .free))(len:⇑(ms.length=N'.length))(sl: ~~~(kW N scope N' ms (N.map some)=true)):bG sc0 N scope N' ms:=bG.m kind nocell nm fr len sl
section
variable {tg iter elt:Expr}{ifs:List Expr}{N':List Str}{ms:List Bool}{wi:TI}{g:TG}{tt:TT}
theorem jC (ok:bG X.env.scope X.N scope N' ms)(hi:PI X tg iter wi)(hg:N'.Nodup->∀{cl C fp s3 H3},PG (dW X N' scope cl C fp s3 H3) tg g)(he:∀{cl C fp s3 H3},PE (dW X N' scope cl C fp s3 H3) elt te)
  (nd: ~~~(N'.Nodup)) (hc:⇑(X.calm=true)) (hs:autoParam (∀ x,foldedSetIterable iter X.env x=pure x) lJ):PE X (.ListComp elt [⟨tg,iter,[],0⟩] scope pos) (nB ms wi g oN te):=
 C0 hc ok hi (λ_ _ _ _ _=>hg nd) (λ_ _ _ _ _=>Dl) (λ_ _ _ _ _=>he) hs
theorem jS {y:Str}{py spos:Pos}(i:Nat)(hN:X.N.Nodup)(ok:bG X.env.scope X.N scope N' ms)(hi:PI X tg iter wi)(hg:N'.Nodup->∀{cl C fp s3 H3},PG (dW X N' scope cl C fp s3 H3) tg g)(he:∀{cl C fp s3 H3},PE (dW X N' scope cl C fp s3 H3) elt te)
  (nd: ~~~(N'.Nodup)) (hc:⇑(X.calm=true)) (hy:⇑(X.N[i]?=some y)) (hl:⇑(X.env.scope.names.lookup y=some .local)) (hsw:⇑(swapsWith (.ListComp elt [⟨tg,iter,[],0⟩] scope pos) (some (.Name y py)) spos.line X.env=pure true))
  (hs:autoParam (∀ x,foldedSetIterable iter X.env x=pure x) lJ):PS X (.Assign [.Name y py] (.ListComp elt [⟨tg,iter,[],0⟩] scope pos) spos) (ir (nB ms wi g oN te) (lY i)):=
 KZ hN hy hl hc ok hi (λ_ _ _ _ _=>hg nd) (λ_ _ _ _ _=>Dl) (λ_ _ _ _ _=>he) hsw hs
end
variable {us:List Value}
theorem qT(h:us.length=0):us=[]:=Pa h
theorem jd(h:us.length=n+1):∃ a r,us=a::r/\r.length=n:=by
 cases us with
 |nil=>cases h
 |cons a r=>exact⟨a,r,rfl,Nat.succ.inj h⟩
theorem qS(h:us.length=1):∃ a0,us=[a0]:=by obtain⟨a,r,rfl,k⟩:=jd h;obtain rfl:=qT k;exact⟨_,rfl⟩
theorem qR(h:us.length=2):∃ a0 a1,us=[a0,a1]:=by obtain⟨a,r,rfl,k⟩:=jd h;obtain⟨b0,rfl⟩:=qS k;exact⟨_,_,rfl⟩
theorem qP(h:us.length=3):∃ a0 a1 a2,us=[a0,a1,a2]:=by obtain⟨a,r,rfl,k⟩:=jd h;obtain⟨b0,b1,rfl⟩:=qR k;exact⟨_,_,_,rfl⟩
theorem qO(h:us.length=4):∃ a0 a1 a2 a3,us=[a0,a1,a2,a3]:=by obtain⟨a,r,rfl,k⟩:=jd h;obtain⟨b0,b1,b2,rfl⟩:=qP k;exact⟨_,_,_,_,rfl⟩
theorem zw(h:us.length=5):∃ a0 a1 a2 a3 a4,us=[a0,a1,a2,a3,a4]:=by obtain⟨a,r,rfl,k⟩:=jd h;obtain⟨b0,b1,b2,b3,rfl⟩:=qO k;exact⟨_,_,_,_,_,rfl⟩
variable {i:Str}
section
variable {P:Program}{K:Fg}{mg:Str->Option Value}{base:Heap}{qual:Str}{st:Stmt}{f:Addr}{fd:FuncData}{ps:List Str}{k:Nat}{C:Addr}
abbrev Hb (x qual:Str)(st:Stmt)(ps:List Str):Prop:=∀(kV doc pm:Value) (an:Option Addr) (cdv ct:Value) (us:List Value),us.length=ps.length->bindArgs (PySem.W.fnOf x qual (jL st) (gI st) (aK st) .none kV doc pm an cdv ct) ⟨us,[]⟩=pure (ps.zip us)
abbrev Ln (sp:Sp)(ps:List Str):Prop:=∀ vs H Q E,sp vs H Q E->vs.length=ps.length
abbrev Bi (P:Program)(w:World)(K:Fg)(mg:Str->Option Value)(base:Heap)(qual:Str)(st:Stmt)(f:Addr)(N:List Str)(k:Nat)(sp:Sp):Prop:=∀(cdv:Value) (A:Around) (outer:List Env) (s:Shared) (H:Hp) (vs:QV) (Q:VK) (E:XK),aQ k (A.deeper (envOfC qual (aK st) s.heap.objs.size f cdv))->sp vs H Q E->
 ∃ t,fN (bU bL P w K mg base N qual (aK st) f cdv A outer s H E).nox (gI st) t/\t {nx:=λ_ H'=>Q .non H',rt:=Q} (start N vs) H
abbrev Bg (P:Program)(w:World)(K:Fg)(mg:Str->Option Value)(base:Heap)(qual:Str)(st:Stmt)(f:Addr)(N:List Str)(k:Nat)(sp:Sp):Prop:=∀(cdv:Value) (A:Around) (outer:List Env) (s:Shared) (H:Hp) (vs:QV) (Q:VK) (E:XK),aQ k (A.deeper (envOfC qual (aK st) s.heap.objs.size f cdv))->sp vs H Q E->
 ∃ t,fN (bU (cU P w) P w K mg base N qual (aK st) f cdv A outer s H E) (gI st) t/\t {nx:=λ_ H'=>Q .non H',rt:=Q} (start N vs) H
theorem bR (F:aS K x x st f fd)(S:aU N ps (aK st))(m:mg x=some (.ref f))(h:Bi P w K mg base x st f N k sp)(hb:autoParam (Hb x x st ps) oz)(ln:autoParam (Ln sp ps) oy):Fn P w K mg base x ps (k+1) sp:=Fn.of F S m hb ln h
theorem NF (F:aS K x x st f fd)(S:aU N ps (aK st))(m:mg x=some (.ref f))(h:Bg P w K mg base x st f N k sp)(hb:autoParam (Hb x x st ps) oz)(ln:autoParam (Ln sp ps) oy):vd P w K mg base x ps (k+1) sp:=⟨f,fd,F.okx S ln h,F.binds hb,F.kp,m⟩
theorem zP(F:aS K i qual st f fd)(M:Mk K C f)(S:aU N ps (aK st))(m:mg x=some (.ref C))(h:Bi P w K mg base qual st f N k sp)(hb:autoParam (Hb i qual st ps) oz)(ln:autoParam (Ln sp ps) oy):kE P w K mg base x C ps (k+1) sp:=⟨f,fd,M,F.ok S ln h,F.binds hb,m⟩
theorem NG(F:aS K i qual st f fd)(M:Mk K C f)(S:aU N ps (aK st))(m:mg x=some (.ref C))(h:Bg P w K mg base qual st f N k sp)(hb:autoParam (Hb i qual st ps) oz)(ln:autoParam (Ln sp ps) oy):sM P w K mg base x C ps (k+1) sp:=⟨f,fd,M,F.okx S ln h,F.binds hb,m⟩
theorem eP (F:aS K x qual st f fd)(M:br K C x f)(S:aU N ps (aK st))(h:Bi P w K mg base qual st f N k sp)(hb:autoParam (Hb x qual st ps) oz)(ln:autoParam (Ln sp ps) oy):bK bL P w K mg base C x ps (k+1) sp:=⟨f,fd,M,F.ok S ln h,F.binds hb⟩
theorem uP (F:aS K x qual st f fd)(M:br K C x f)(S:aU N ps (aK st))(h:Bg P w K mg base qual st f N k sp)(hb:autoParam (Hb x qual st ps) oz)(ln:autoParam (Ln sp ps) oy):bK (cU P w) P w K mg base C x ps (k+1) sp:=⟨f,fd,M,F.okx S ln h,F.binds hb⟩
end
theorem fz {p:Prop}(h:∀ G:Prop,(p->G)->G):p:=h p id
variable {nx ct:St->Hp->Prop}{u:TS}
theorem Fy{t:TS}{bk:St->Hp->Prop}{rt:VK}(h:∀ NX:St->Hp->Prop,Kn u ⟨nx,rt,bk,ct⟩ NX->t ⟨NX,rt,bk,ct⟩ σ H):fX t u ⟨nx,rt,bk,ct⟩ σ H:=h _ ⟨λ_ _ q=>q⟩
structure Im (a N:St->Hp->Prop):Prop where
 on:∀ σ H,a σ H->N σ H
structure Iv (a N:VK):Prop where
 on:∀ v H,a v H->N v H
theorem NJ{a N:St->Hp->Prop}(k:Im a N)(h:a σ H):N σ H:=k.on _ _ h
theorem NH{a N:VK}{v:V}(k:Iv a N)(h:a v H):N v H:=k.on _ _ h
theorem Fx{t:TS}{bk:St->Hp->Prop}{rt:VK}(h:∀(N M B:St->Hp->Prop) (R:VK),Im nx N->Im nx M->Im bk B->Iv rt R->∀ NX:St->Hp->Prop,Kn u ⟨N,R,B,M⟩ NX->t ⟨NX,R,B,M⟩ σ H):fX t u ⟨nx,rt,bk,nx⟩ σ H:=h nx nx bk rt ⟨λ_ _ q=>q⟩ ⟨λ_ _ q=>q⟩ ⟨λ_ _ q=>q⟩ ⟨λ_ _ q=>q⟩ _ ⟨λ_ _ q=>q⟩
theorem Fw{bk:St->Hp->Prop}{rt:VK}(h:ct σ H):p_ ⟨nx,rt,bk,ct⟩ σ H:=h
end L2
namespace My
noncomputable def eE (c k m:Int):Int:=(c%2147483647+12345)*(48271+6*k)%1000000007/7%m
noncomputable def sZ (i:Int):Int:=if i=0 then 1000000000 else if i=1 then -1000000000 else if i=2 then 999999999 else -999999999
def aT (c k:Int):Int:=
 if eE c k 9=0 then c%2000000001 - 1000000000
 else if eE c k 9=1 then sZ (eE c (k+1) 4)
 else eE c (k+2) 9 - 4
theorem ki {c k m:Int}(h:0<m):0<=eE c k m:=Oq _ (by omega)
theorem j4 {c k m:Int}(h:0<m):eE c k m<m:=Ot _ h
theorem Jg (i:Int):-1000000000<=sZ i/\sZ i<=1000000000:=by
 unfold sZ;split
 ·omega
 ·split
  ·omega
  ·split<;>omega
theorem xv (c k:Int):-1000000000<=aT c k/\aT c k<=1000000000:=by
 unfold aT;split
 ·have h1:=Oq c (show(2000000001:Int)≠0 by decide);have h2:=Ot c (show(0:Int)<2000000001 by decide);omega
 ·split
  ·exact Jg _
  ·have h1:=ki (c:=c) (k:=k+2) (m:=9) (by decide);have h2:=j4 (c:=c) (k:=k+2) (m:=9) (by decide);omega
def cell (ns:QS)(k:Int):Int:=ns.getD k.toNat 0
noncomputable def bQ:QS->QS->Int
 |f::fs,n::ns=>f*n+bQ fs ns|_,_=>0
def aP (l ns:QS):Int:=l.headD 0+bQ l.tail ns
theorem yb:∀(fs ns:QS) (i:Nat) (f n:Int),fs[i]?=some f->ns[i]?=some n->bQ (fs.take (i+1)) (ns.take (i+1))=bQ (fs.take i) (ns.take i)+f*n
 |[],_,i,f,n,h,_=>by simp at h|_::_,[],i,f,n,_,h=>by simp at h|a::fs,b::ns,0,f,n,h1,h2=>by simp at h1 h2;subst h1;subst h2;simp[bQ]|a::fs,b::ns,i+1,f,n,h1,h2=>by have ih:=yb fs ns i f n (by simpa using h1) (by simpa using h2);simp only[List.take_succ_cons,bQ];rw[ih,Int.add_assoc]
def ah (i:Int):QS:=0::(List.range 8).map λ(k:Nat)=>if(0+(k:Int))=i then 1 else 0
def aA (w:Int)(t l:QS):QS:=List.zipWith (λs n=>s+n*w) t l
def b5 (ps:List (QS×Int))(t:QS):QS:=ps.foldl (λt p=>aA p.2 t p.1) t
def bZ (ls:QT)(ws:QS):QS:=b5 (ls.zip ws) (List.replicate 9 0)
noncomputable def og (c:Int):QS->QS
 |[]=>[]|x::r=>(x+c)::r
def bo (line:QS)(eight:QT):QS:=og (line.headD 0) (bZ eight line.tail)
variable {w:Int}{l:QS}
theorem jP{t:QS}(h1:t.length=9)(h2:l.length=9):(aA w t l).length=9:=by unfold aA;rw[List.length_zipWith,h1,h2];rfl
theorem ym:∀(ps:List (QS×Int)) (t:QS),t.length=9->(∀ p∈ps,p.1.length=9)->(b5 ps t).length=9
 |[],t,h,_=>h|p::ps,t,h,hp=>ym ps _ (jP h (hp p NW)) λq hq=>hp q (NZ _ hq)
variable {ws:QS}
theorem wD{ls:QT}(h:∀ l∈ls,l.length=9):∀ p∈ls.zip ws,p.1.length=9:=λp hp=>h p.1 (List.of_mem_zip hp).1
theorem i5{ls:QT}(h:∀ l∈ls,l.length=9):(bZ ls ws).length=9:=ym _ _ (by simp) (wD h)
theorem En (ps:List (QS×Int))(p:QS×Int)(t:QS):b5 (ps++[p]) t=aA p.2 (b5 ps t) p.1:=by unfold b5;rw[List.foldl_append];rfl
variable {i:Nat}
theorem HG{ls:QT}(h1:ls[i]?=some l)(h2:ws[i]?=some w):(ls.zip ws)[i]?.toList=[(l,w)]:=by rw[(List.getElem?_zip_eq_some (z:=(l,w))).mpr ⟨h1,h2⟩];rfl
theorem Dz (w:Int):∀(t l ns:QS),t.length=l.length->bQ (List.zipWith (λs n=>s+n*w) t l) ns=bQ t ns+w*bQ l ns
 |[],[],ns,_=>by simp[bQ]|a::t,b::l,[],_=>by simp[bQ]|a::t,b::l,n::ns,h=>by have ih:=Dz w t l ns (by simpa using h);simp only[List.zipWith_cons_cons,bQ];rw[ih,Int.add_mul,Int.mul_add,Int.mul_comm b w,Int.mul_assoc];omega
theorem Em(w:Int){t:QS}(ns:QS)(h1:t.length=9)(h2:l.length=9):aP (aA w t l) ns=aP t ns+w*aP l ns:=by
 cases t with
 |nil=>simp at h1
 |cons a t=>
  cases l with
  |nil=>simp at h2
  |cons b l=>have:=Dz w t l ns (by simp at h1 h2;omega);unfold aP aA;simp only[List.zipWith_cons_cons,List.headD_cons,List.tail_cons];rw[this,Int.mul_add,Int.mul_comm b w];omega
theorem uB (ns:QS):∀(ls:QT) (fs:QS) (t:QS),t.length=9->(∀ l∈ls,l.length=9)->aP (b5 (ls.zip fs) t) ns=aP t ns+bQ fs (ls.map λl=>aP l ns)
 |[],fs,t,h,_=>by cases fs<;>simp[b5,bQ]|l::ls,[],t,h,_=>by simp[b5,bQ]|l::ls,f::fs,t,h,hp=>by have h2:=hp l NW;have ih:=uB ns ls fs (aA f t l) (jP h h2) λq hq=>hp q (NZ _ hq);show aP (b5 (ls.zip fs) (aA f t l)) ns=aP t ns+(f*aP l ns+bQ fs (ls.map λl=>aP l ns));rw[ih,Em f ns h h2];omega
theorem uv:∀(k:Nat) (ns:QS),bQ (List.replicate k 0) ns=0
 |0,ns=>by simp[bQ]|k+1,[]=>by simp[Oy,bQ]|k+1,n::ns=>by simp[Oy,bQ,uv k ns]
theorem xZ (ns:QS):aP (List.replicate 9 0) ns=0:=by have:=uv 8 ns;show(0:Int)+bQ (List.replicate 8 0) ns=0;rw[this];rfl
theorem EQ {line:QS}{eight:QT}(ns:QS)(h:∀ l∈eight,l.length=9):aP (bo line eight) ns=aP line (eight.map λl=>aP l ns):=by
 have h9:=i5 (ws:=line.tail) h;have hw:=uB ns eight line.tail (List.replicate 9 0) (by simp) h;rw[xZ]at hw;unfold bo;cases e:bZ eight line.tail with
 |nil=>rw[e]at h9;simp at h9
 |cons x r=>unfold bZ at e;rw[e]at hw;unfold aP at hw ⊢;simp only[og,List.headD_cons,List.tail_cons]at hw ⊢;omega
theorem pO (h:Int)(t ns:QS):aP (h::t) ns=h+bQ t ns:=rfl
open PySem L2
def bx (ls:QT):D:=.lst (ls.map nums)
noncomputable def oY:QS:=[0,1,2,3,4,5,0,1]
def gq:QT:=oY.map ah
def aG (PB:QT)(PF:QU)(place:Int):QT:=if place=(PF.length:Int)then PB.map λl=>bo l gq else PF.getD place.toNat []
theorem JK {i:Int}:∀ n∈ah i,n=0\/n=1:=λn h=>by
 rcases NP.mp h with h|h
 ·exact .inl h
 ·obtain⟨k,_,rfl⟩:=bB.mp h;split
  ·exact .inr rfl
  ·exact .inl rfl
theorem KU:∀ l∈gq,l.length=9:=λl h=>by obtain⟨i,_,rfl⟩:=bB.mp h;simp[ah]
theorem KS:∀ l∈gq,∀ n∈l,n=0\/n=1:=λl h n hn=>by obtain⟨i,_,rfl⟩:=bB.mp h;exact JK n hn
inductive Dd where
 |set (hand:Int) (line:QS)|part (hand:Int) (line:QS) (by':Int)|draw (hand low high:Int)|turn (line:QS) (place:Int)|hold (line:QS)|call (aT g0 g1 t0 t1:Int)
noncomputable def dv:Dd->D
 |.set h l=>.tup [.str "set",.int h,nums l]|.part h l b=>.tup [.str "part",.int h,nums l,.int b]|.draw h lo hi=>.tup [.str "draw",.int h,.int lo,.int hi]|.turn l p=>.tup [.str "turn",nums l,.int p]|.hold l=>.tup [.str "hold",nums l]|.call n g0 g1 t0 t1=>.tup [.str "call",.int n,.tup [.int g0,.int g1],.tup [.int t0,.int t1]]
def gc:Dd->Prop
 |.set _ l=>l.length=9|.part _ l _=>l.length=9|.turn l _=>l.length=9|.hold l=>l.length=9|_=>True
def cD (a b c:Int):Bool:=decide (a<=b)&&decide (b<=c)
def iJ (n:Int):Bool:=cD (-1000000000) n 1000000000
noncomputable def eB (spots:List Nat) (l:QS):Bool:=(l.map iJ).all id&&(spots.map λs=>decide (l.getD s 0=0)).all id
def iN (spots:List Nat)(ls:QT):Bool:=decide ((ls.length:Int)<=2)&&(ls.map (eB spots)).all id
def ci (h:Int):Bool:=cD 0 h 3
noncomputable def b_ (n:Int):Dd->Bool
 |.set h l=>ci h&&eB [7,8] l|.part h l b=>ci h&&(eB [7,8] l&&cD 1 b 1000)|.draw h lo hi=>ci h&&(iJ lo&&(iJ hi&&decide (lo<=hi)))|.turn l p=>eB [7,8] l&&cD 0 p n|.hold l=>eB [7,8] l|.call m g0 g1 t0 t1=>([ci g0,ci g1].all id&&[ci t0,ci t1].all id)&&(cD 0 m 99&&!decide (t0=t1))
def j3 (PJ PB:QT):Bool:=iN [1,2,3,4,7,8] PJ&&iN [1,2,3,4] PB
def mz (PD:List Dd):Bool:=cD 1 (PD.length:Int) 8&&(PD.map (b_ (PD.length:Int))).all id
def my (PD:List Dd)(PF:QU):Bool:=decide ((PF.length:Int)=(PD.length:Int))&&(PF.map (iN [7,8])).all id
def gm (PJ PB:QT)(PD:List Dd)(PF:QU):Bool:=j3 PJ PB&&(mz PD&&my PD PF)
def aM (ws:QS):QS:=ws.map λw=>-w
def cg (PP:QS)(PM:QT)(PQ:Int)(ws:QS):QS:=bZ (PP::PM) (PQ::aM ws)
noncomputable def cV (PP:QS) (PM:QT) (PQ:Int) (ws:QS):Bool:=decide (-PQ<(cg PP PM PQ ws).headD 0)&&decide ((cg PP PM PQ ws).tail=List.replicate 8 0)
def e_ (PM:QT)(PQ:Int)(ws:QS):Bool:=decide (1<=PQ)&&(decide (ws.length=PM.length)&&ws.all λw=>decide (0<=w))
def jB (PP:QS)(PM:QT)(PQ:Int)(ws:QS):Bool:=e_ PM PQ ws&&cV PP PM PQ ws
def jb (w:Int)(t l:QS):QS:=List.zipWith (λa b=>a - w*b) t l
def nq (ps:List (QS×Int))(t:QS):QS:=ps.foldl (λt p=>jb p.2 t p.1) t
def mn (w:Int)(l:QS):QS:=l.map λx=>w*x
def oI (PP:QS)(PM:QT)(PQ:Int)(ws:QS):QS:=nq (PM.zip ws) (mn PQ PP)
theorem Cm (w:Int)(t l:QS):jb w t l=aA (-w) t l:=by unfold jb aA;congr 1;funext a b;rw[Int.mul_neg,Int.mul_comm b w];omega
theorem wZ:∀(ls:QT) (ws:QS) (t:QS),nq (ls.zip ws) t=b5 (ls.zip (aM ws)) t
 |[],ws,t=>by simp[nq,b5]|l::ls,[],t=>by simp[nq,b5,aM]|l::ls,w::ws,t=>by show nq (ls.zip ws) (jb w t l)=b5 (ls.zip (aM ws)) (aA (-w) t l);rw[wZ ls ws,Cm]
theorem xL:∀(n:Nat) (w:Int) (l:QS),l.length=n->aA w (List.replicate n 0) l=mn w l
 |0,w,[],_=>rfl|n+1,w,x::l,h=>by have ih:=xL n w l (by simpa using h);unfold aA mn at*;rw[Oy,List.zipWith_cons_cons,ih,bw,Int.mul_comm x w,Int.zero_add]
variable {PP:QS}{PM:QT}{PQ:Int}
theorem Dy(h:PP.length=9):oI PP PM PQ ws=cg PP PM PQ ws:=by unfold oI cg bZ;rw[wZ];show b5 (PM.zip (aM ws)) (mn PQ PP)=b5 (PM.zip (aM ws)) (aA PQ (List.replicate 9 0) PP);rw[xL 9 PQ PP h]
theorem LZ{t:QS}(h1:t.length=9)(h2:l.length=9):(jb w t l).length=9:=by rw[Cm];exact jP h1 h2
theorem EO:∀(ps:List (QS×Int)) (t:QS),t.length=9->(∀ p∈ps,p.1.length=9)->(nq ps t).length=9
 |[],t,h,_=>h|p::ps,t,h,hp=>EO ps _ (LZ h (hp p NW)) λq hq=>hp q (NZ _ hq)
theorem EY:(mn w l).length=l.length:=by unfold mn;simp
theorem L6(h:PP.length=9)(h9:∀ l∈PM,l.length=9):(oI PP PM PQ ws).length=9:=
 EO _ _ (by rw[EY];exact h) (wD h9)
theorem L5(w:Int)(ns:QS)(h:l.length=9):aP (mn w l) ns=w*aP l ns:=by rw[<-xL 9 w l h,Em w ns (by simp) h,xZ,Int.zero_add]
theorem Dx:∀(ws xs:QS),bQ (aM ws) xs=- bQ ws xs
 |[],xs=>by simp[aM,bQ]|w::ws,[]=>by simp[aM,bQ]|w::ws,x::xs=>by have:=Dx ws xs;unfold aM at*;simp only[bw,bQ];rw[this,Int.neg_mul];omega
theorem KR(ns:QS)(h:PP.length=9)(h9:∀ l∈PM,l.length=9):
  aP (oI PP PM PQ ws) ns=PQ*aP PP ns - bQ ws (PM.map λl=>aP l ns):=by unfold oI;rw[wZ,uB ns PM (aM ws) _ (by rw[EY];exact h) h9,L5 PQ ns h,Dx];omega
theorem El:∀(ws xs:QS),(∀ w∈ws,0<=w)->(∀ x∈xs,0<=x)->0<=bQ ws xs
 |[],xs,_,_=>by simp[bQ]|w::ws,[],_,_=>by simp[bQ]|w::ws,x::xs,h1,h2=>by have a:=El ws xs (λv hv=>h1 v (NZ _ hv)) λv hv=>h2 v (NZ _ hv);have b:=Int.mul_nonneg (h1 w NW) (h2 x NW);simp only[bQ];omega
theorem xY {c:Int}(ns:QS):aP (c::List.replicate 8 0) ns=c:=by rw[pO,uv];omega
theorem LY(ns:QS)(h:PP.length=9)(h9:∀ l∈PM,l.length=9)(s:jB PP PM PQ ws=true)(hh:∀ l∈PM,0<=aP l ns):0<=aP PP ns:=by
 unfold jB e_ cV at s;simp only[NS,NY,On]at s;obtain⟨⟨h1,h2,h3⟩,h4,h5⟩:=s;have hw:=KR (PQ:=PQ) (ws:=ws) ns h h9;rw[Dy h]at hw;have hl:(cg PP PM PQ ws).length=9:=by rw[<-Dy h];exact L6 h h9
 cases e:cg PP PM PQ ws with
 |nil=>rw[e]at hl;simp at hl
 |cons c fs=>
  rw[e]at hw h4 h5;simp only[List.tail_cons,List.headD_cons]at h4 h5;rw[h5,xY]at hw;have hd:=El ws (PM.map λl=>aP l ns) h3 (λx hx=>by obtain⟨l,hl,rfl⟩:=bB.mp hx;exact hh l hl);have hgt:-PQ<PQ*aP PP ns:=by omega
  by_cases hn:0<=aP PP ns
  ·exact hn
  ·exfalso;have:PQ*aP PP ns<=PQ*(-1):=Int.mul_le_mul_of_nonneg_left (by omega) (by omega);rw[Int.mul_neg_one]at this;omega
def cM:Nat->QT
 |0=>[[]]|n+1=>(cM n).map (λr=>r++[0])++(cM n).map λr=>r++[1]
theorem j_:∀(n:Nat) (r:QS),r∈cM n->r.length=n/\∀ w∈r,w=0\/w=1
 |0,r,h=>by unfold cM at h;rw[bu]at h;subst h;exact⟨rfl,λw hw=>by cases hw⟩|n+1,r,h=>by
  unfold cM at h;rcases bC.mp h with h|h
  ·obtain⟨q,hq,rfl⟩:=bB.mp h;obtain⟨a,b⟩:=j_ n q hq;refine⟨by simp[a],λw hw=>?_⟩;rcases bC.mp hw with hw|hw
   ·exact b w hw
   ·exact .inl (bu.mp hw)
  ·obtain⟨q,hq,rfl⟩:=bB.mp h;obtain⟨a,b⟩:=j_ n q hq;refine⟨by simp[a],λw hw=>?_⟩;rcases bC.mp hw with hw|hw
   ·exact b w hw
   ·exact .inr (bu.mp hw)
theorem EN:∀ n:Nat,(cM n).length=2 ^ n
 |0=>rfl|n+1=>by unfold cM;rw[N4,aV,aV,EN n,Nat.pow_succ];omega
def ml (PP:QS)(PM:QT)(PQ:Int)(ws:QS):Option (Int×QS):=if jB PP PM PQ ws=true then some (PQ,ws)else none
def pH (PP:QS)(PM:QT)(PQ:Int):Option (Int×QS):=(cM PM.length).findSome? (ml PP PM PQ)
def eX (PP:QS)(PM:QT):Option (Int×QS):=[1,2,3,4].findSome? (pH PP PM)
variable {α β:Type}
theorem wY:∀{l:List α}{f:α->Option β}{i:Nat}{x:α}{y:β},(l.take i).findSome? f=none->l[i]?=some x->f x=some y->l.findSome? f=some y
 |[],f,i,x,y,_,e,_=>by simp at e
 |a::l,f,0,x,y,_,e,h=>by simp at e;subst e;rw[List.findSome?_cons,h]
 |a::l,f,i+1,x,y,n,e,h=>by
  rw[List.take_succ_cons,List.findSome?_cons]at n;cases hf:f a with
  |some z=>rw[hf]at n;cases n
  |none=>rw[hf]at n;rw[List.findSome?_cons,hf];exact wY n (by simpa using e) h
theorem xu:∀{l:List α}{f:α->Option β}{i:Nat}{x:α},(l.take i).findSome? f=none->l[i]?=some x->f x=none->(l.take (i+1)).findSome? f=none
 |[],f,i,x,_,e,_=>by simp at e
 |a::l,f,0,x,_,e,h=>by simp at e;subst e;simp[h]
 |a::l,f,i+1,x,n,e,h=>by
  rw[List.take_succ_cons,List.findSome?_cons]at n;cases hf:f a with
  |some z=>rw[hf]at n;cases n
  |none=>rw[hf]at n;rw[List.take_succ_cons,List.findSome?_cons,hf];exact xu n (by simpa using e) h
theorem Dj{l:List α}{f:α->Option β}{n:Nat}(h:(l.take n).findSome? f=none)(hn:l.length<=n):l.findSome? f=none:=by rwa [N6 hn]at h
theorem KQ(h:eX PP PM=some (w,ws)):(1<=w/\w<=4)/\ws∈cM PM.length/\jB PP PM w ws=true:=by
 unfold eX at h;obtain⟨v,hv,h⟩:=List.exists_of_findSome?_eq_some h;unfold pH at h;obtain⟨r,hr,h⟩:=List.exists_of_findSome?_eq_some h;unfold ml at h;split at h
 ·rename_i hs;cases h;refine⟨?_,hr,hs⟩;simp at hv;rcases hv with rfl|rfl|rfl|rfl<;>omega
 ·cases h
theorem Fv{r:QS}(h1:1<=w)(h:r∈cM PM.length):e_ PM w r=true:=by obtain⟨a,b⟩:=j_ _ _ h;unfold e_;simp only[NS,NY,On];exact⟨h1,a,λx hx=>by rcases b x hx with z|z<;>omega⟩
variable {PJ PB:QT}{PF:QU}{PD:List Dd}
section
end
def kL (n:Int):QS:=n::List.replicate 8 0
def iI (line:QS):QS:=bZ [line,kL 1] [-1,-1]
def cI (lo:Int):QS:=bZ [ah 6,kL lo] [1,-1]
def cJ (hi:Int):QS:=bZ [kL hi,ah 6] [1,-1]
def cp (line:QS)(b:Int):QS:=bZ [line,ah 6] [1,-b]
noncomputable def al (line:QS) (b:Int):QS:=bZ [ah 6,kL (b - 1),line] [b,1,-1]
theorem fM (n:Int):(kL n).length=9:=by simp[kL]
theorem bh (i:Int):(ah i).length=9:=by simp[ah]
structure fY (PJ PB:QT)(n:Nat)(PF:QU):Prop where
 dn:n=PF.length
 d:n<=100
 n:PJ.length<=100
 l:PB.length<=100
 n9:∀ l∈PJ,l.length=9
 l9:∀ l∈PB,l.length=9
 o:∀ ls∈PF,ls.length<=100/\∀ l∈ls,l.length=9
theorem fY.due{n:Nat}(g:fY PJ PB n PF)(place:Int):(aG PB PF place).length<=100/\∀ l∈aG PB PF place,l.length=9:=by
 unfold aG;split
 ·refine⟨by rw[aV];exact g.l,λl hl=>?_⟩;obtain⟨m,hm,rfl⟩:=bB.mp hl;have h9:∀ l∈gq,l.length=9:=λl hl=>by unfold gq at hl;obtain⟨i,_,rfl⟩:=bB.mp hl;exact bh i
  have hs:=i5 (ws:=m.tail) h9;unfold bo;cases e:bZ gq m.tail with
  |nil=>rw[e]at hs;simp at hs
  |cons x r=>rw[e]at hs;simpa[og]using hs
 ·rw[N2];cases e:PF[place.toNat]? with
  |none=>simp
  |some ls=>exact g.o ls (bT e)
theorem Jf {i:Int}(h:0<=i):((List.range 9).map λ(k:Nat)=>if decide (0+(k:Int)=i+1)=true then(1:Int)else 0)=ah i:=by
 unfold ah;rw[List.range_succ_eq_map,bw,Ox];congr 1
 ·rw[N7 (by omega)];rfl
 ·refine List.map_congr_left λk _=>?_;show(if decide (0+((k+1:Nat):Int)=i+1)=true then(1:Int)else 0)=if 0+(k:Int)=i then 1 else 0;by_cases z:0+(k:Int)=i
  ·rw[NU z,N0 (by omega)];rfl
  ·rw[NR z,N7 (by omega)];rfl
open PyProof.Rows
def nk (H:Hp):List D->QV->Prop
 |[],[]=>True|d::ds,x::xs=>dO H d x/\nk H ds xs|_,_=>False
variable {H:Hp}
theorem D5:∀{ds:List D}{xs:QV},ds.length=xs.length->(∀(i:Nat) dd x,ds[i]?=some dd->xs[i]?=some x->dO H dd x)->nk H ds xs
 |[],[],_,_=>trivial|[],_::_,e,_=>by simp at e|_::_,[],e,_=>by simp at e|d::ds,x::xs,e,h=>⟨h 0 d x rfl rfl,D5 (by simpa using e) λi dd y e1 e2=>h (i+1) dd y (by simpa using e1) (by simpa using e2)⟩
variable {v:V}
theorem gJ{ds:List D}(h:jJ H (.tup ds) v):∃ t xs,v=.ref t/\H t=some (.tup xs)/\nk H ds xs:=by obtain⟨t,xs,ds',e,rfl,h1,h2,_,h3⟩:=h;cases e;exact⟨t,xs,rfl,h1,D5 h2 h3⟩
variable {xs:QV}
theorem b9{d:D}{ds:List D}(h:nk H (d::ds) xs):∃ x r,xs=x::r/\dO H d x/\nk H ds r:=by
 cases xs with
 |nil=>exact h.elim
 |cons x r=>exact⟨x,r,rfl,h.1,h.2⟩
theorem i4(h:nk H [] xs):xs=[]:=by
 cases xs with
 |nil=>rfl
 |cons x r=>exact h.elim
variable {x:V}
theorem ij{s:Str}(h:dO H (.str s) x):x=.str s:=by rcases h with⟨i,e,_⟩|⟨z,e,rfl⟩|⟨b,l,e,_⟩|⟨b,i,j,e,_⟩<;>cases e;rfl
variable {s:Int}
theorem fU(h:dO H (.int s) x):x=.int s:=by rcases h with⟨i,e,rfl⟩|⟨z,e,_⟩|⟨b,l,e,_⟩|⟨b,i,j,e,_⟩<;>cases e;rfl
theorem Di:∀{l m:QS},l.map D.int=m.map D.int->l=m
 |[],[],_=>rfl|[],_::_,e=>by simp at e|_::_,[],e=>by simp at e|a::l,b::m,e=>by rw[bw,bw]at e;injection e with e1 e2;injection e1 with e1;rw[e1,Di e2]
theorem lI(h:dO H (nums l) x):∃ b,x=.ref b/\H b=some (.lst (l.map V.int)):=by
 rcases h with⟨i,e,_⟩|⟨z,e,_⟩|⟨b,m,e,h1,h2⟩|⟨b,i,j,e,_⟩
 ·cases e
 ·cases e
 ·injection e with e;rw[Di e];exact⟨b,h1,h2⟩
 ·cases e
variable {j:Int}
theorem uz{i:Int}(h:dO H (.tup [.int i,.int j]) x):∃ b,x=.ref b/\H b=some (.tup [.int i,.int j]):=by
 rcases h with⟨i',e,_⟩|⟨z,e,_⟩|⟨b,m,e,h1,h2⟩|⟨b,i',j',e,h1,h2⟩
 ·cases e
 ·cases e
 ·cases e
 ·cases e;exact⟨b,h1,h2⟩
def R2 {α:Type}(P:α->V->Prop)(as:List α)(xs:QV):Prop:=as.length=xs.length/\∀(i:Nat) a x,as[i]?=some a->xs[i]?=some x->P a x
theorem R2.mono{P P':α->V->Prop}{as:List α}(h:R2 P as xs)(m:∀ a x,P a x->P' a x):R2 P' as xs:=⟨h.1,λi a x e1 e2=>m a x (h.2 i a x e1 e2)⟩
theorem R2.get{P:α->V->Prop}{as:List α}(h:R2 P as xs)(hi:i<as.length):∃ x,xs[i]?=some x/\P (as[i]) x:=by
 have hj:i<xs.length:=by rw[<-h.1];exact hi
 exact⟨xs[i],by simp,h.2 i _ _ (by simp) (by simp)⟩
def lj (H:Hp):List Dd->QV->Prop:=R2 λd x=>jJ H (dv d) x
variable {ds:List Dd}{H':Hp}
theorem lj.same(e:ae H H')(h:lj H ds xs):lj H' ds xs:=R2.mono h λ_ _ z=>z.sq e.sq
def eJ:Dd->Str
 |.set _ _=>"set"|.part _ _ _=>"part"|.draw _ _ _=>"draw"|.turn _ _=>"turn"|.hold _=>"hold"|.call _ _ _ _ _=>"call"
variable {d:Dd}
theorem Ck(h:jJ H (dv d) x):∃ t xs,x=.ref t/\H t=some (.tup (.str (eJ d)::xs)):=by cases d<;>(obtain⟨t,xs,rfl,h1,px⟩:=gJ h;obtain⟨x0,r,rfl,e0,px⟩:=b9 px;cases ij e0;exact⟨t,r,rfl,h1⟩)
theorem wX(h:gc d):sR (dv d):=by
 cases d with
 |set hd l=>exact⟨_,rfl,by simp,λc hc=>by
   simp at hc;rcases hc with rfl|rfl|rfl
   ·exact .inr (.inl ⟨_,rfl⟩)
   ·exact .inl ⟨_,rfl⟩
   ·exact .inr (.inr (.inl ⟨l,h,rfl⟩))⟩
 |part hd l b=>exact⟨_,rfl,by simp,λc hc=>by
   simp at hc;rcases hc with rfl|rfl|rfl|rfl
   ·exact .inr (.inl ⟨_,rfl⟩)
   ·exact .inl ⟨_,rfl⟩
   ·exact .inr (.inr (.inl ⟨l,h,rfl⟩))
   ·exact .inl ⟨_,rfl⟩⟩
 |draw hd lo hi=>exact⟨_,rfl,by simp,λc hc=>by
   simp at hc;rcases hc with rfl|rfl|rfl|rfl
   ·exact .inr (.inl ⟨_,rfl⟩)
   ·exact .inl ⟨_,rfl⟩
   ·exact .inl ⟨_,rfl⟩
   ·exact .inl ⟨_,rfl⟩⟩
 |turn l p=>exact⟨_,rfl,by simp,λc hc=>by
   simp at hc;rcases hc with rfl|rfl|rfl
   ·exact .inr (.inl ⟨_,rfl⟩)
   ·exact .inr (.inr (.inl ⟨l,h,rfl⟩))
   ·exact .inl ⟨_,rfl⟩⟩
 |hold l=>exact⟨_,rfl,by simp,λc hc=>by
   simp at hc;rcases hc with rfl|rfl
   ·exact .inr (.inl ⟨_,rfl⟩)
   ·exact .inr (.inr (.inl ⟨l,h,rfl⟩))⟩
 |call m g0 g1 t0 t1=>exact⟨_,rfl,by simp,λc hc=>by
   simp at hc;rcases hc with rfl|rfl|rfl|rfl
   ·exact .inr (.inl ⟨_,rfl⟩)
   ·exact .inl ⟨_,rfl⟩
   ·exact .inr (.inr (.inr ⟨_,_,rfl⟩))
   ·exact .inr (.inr (.inr ⟨_,_,rfl⟩))⟩
theorem kB{l:List α}{n:Nat}(h:l.length=n+1):∃ a t,l=a::t/\t.length=n:=by
 cases l with
 |nil=>cases h
 |cons a t=>exact⟨a,t,rfl,Nat.succ.inj h⟩
theorem eO{l:List α}(h:l.length=4):∃ a b c d,l=[a,b,c,d]:=by obtain⟨a,l,rfl,h1⟩:=kB h;obtain⟨b,l,rfl,h2⟩:=kB h1;obtain⟨c,l,rfl,h3⟩:=kB h2;obtain⟨d,l,rfl,h4⟩:=kB h3;exact⟨a,b,c,d,by rw[Pa h4]⟩
theorem zA{l:List α}(h:l.length=8):∃ a b c d e f g i,l=[a,b,c,d,e,f,g,i]:=by obtain⟨a,l,rfl,h1⟩:=kB h;obtain⟨b,l,rfl,h2⟩:=kB h1;obtain⟨c,l,rfl,h3⟩:=kB h2;obtain⟨d,l,rfl,h4⟩:=kB h3;obtain⟨e,f,g,i,rfl⟩:=eO h4;exact⟨a,b,c,d,e,f,g,i,rfl⟩
theorem nine{l:List α}(h:l.length=9):∃ a b c d e f g i j,l=[a,b,c,d,e,f,g,i,j]:=by obtain⟨a,l,rfl,h1⟩:=kB h;obtain⟨b,c,d,e,f,g,i,j,rfl⟩:=zA h1;exact⟨a,b,c,d,e,f,g,i,j,rfl⟩
theorem dL:List.replicate 9 (0:Int)=[0,0,0,0,0,0,0,0,0]:=rfl
theorem dZ (n:Int):kL n=[n,0,0,0,0,0,0,0,0]:=rfl
abbrev Du:=QS×QT
def jT (g:Du):D:=.tup [nums g.1,bx g.2]
def oX (H:Hp)(g:Du)(v:V):Prop:=∃ T ga na,v=.ref T/\H T=some (.tup [.ref ga,.ref na])/\H ga=some (.lst (g.1.map V.int))/\Ls H na g.2
variable {g:Du}
theorem oX.same(e:ae H H')(h:oX H g v):oX H' g v:=by obtain⟨T,ga,na,rfl,h1,h2,h3⟩:=h;exact⟨T,ga,na,rfl,e _ _ h1,e _ _ h2,h3.same e⟩
def sH (H:Hp)(ls:QT)(x:V):Prop:=∃ b,x=.ref b/\Ls H b ls
def oW (H:Hp)(v:V)(PJ PB:QT)(PD:List Dd)(PF:QU):Prop:=∃(pa y1 y2 a3 a4:Addr) (P9 Qo:QV),v=.ref pa/\H pa=some (.lst [.ref y1,.ref y2,.ref a3,.ref a4])/\Ls H y1 PJ/\Ls H y2 PB/\H a3=some (.lst P9)/\H a4=some (.lst Qo)/\lj H PD P9/\R2 (sH H) PF Qo
theorem n_{c:TT}{t u:TS}{D:bI}{σ:L2.St}(h:∀ Q:Bool->Hp->Prop,(∀ H',ae H H'->Q false H')->c σ H Q)(k:∀ H',ae H H'->u D σ H'):fX (ja c t sV) u D σ H:=h _ λH' s=>iy (k H' s)
variable {fp:QW}
theorem ai.ls{ls:QT}(h:ai H (.lst (ls.map nums)) v fp):∃ ka,v=.ref ka/\Ls H ka ls:=by unfold ai at h;obtain⟨a,xs,r,rfl,rfl,h1,h2⟩:=h;obtain⟨rfl,e2,e3⟩:=ak.lines h2;refine⟨a,rfl,r,h1,e2,λi b l q1 q2=>?_⟩;obtain⟨l',z1,z2⟩:=e3 i b q1;rw[q2]at z1;cases z1;exact z2
theorem ai.duty{f:QW}(h:ai H (jT g) v f):∃(T ga na:Addr) (as:QW),v=.ref T/\H T=some (.tup [.ref ga,.ref na])/\H ga=some (.lst (g.1.map V.int))/\H na=some (.lst (as.map V.ref))/\as.length=g.2.length/\(∀(i:Nat) a l,as[i]?=some a->g.2[i]?=some l->H a=some (.lst (l.map V.int)))/\ga∈f/\na∈f/\∀ b∈as,b∈f:=by unfold jT ai at h;obtain⟨T,xs,rfl,hT,hx⟩:=h;unfold ak at hx;obtain⟨x1,r1,f1,g1,rfl,rfl,h1,hx⟩:=hx;unfold ak at hx;obtain⟨x2,r2,f2,g2,rfl,rfl,h2,hx⟩:=hx;unfold ak at hx;obtain⟨rfl,rfl⟩:=hx;unfold ai at h1;obtain⟨ga,ys,r3,rfl,rfl,hga,hy⟩:=h1;obtain⟨rfl,rfl⟩:=ak.ints_eq hy;unfold bx ai at h2;obtain⟨na,zs,as,rfl,rfl,hna,hz⟩:=h2;obtain⟨rfl,e2,e3⟩:=ak.lines hz;refine⟨T,ga,na,as,rfl,hT,hga,hna,e2,λi a l q1 q2=>?_,by simp,by simp,λb hb=>by simp[hb]⟩;obtain⟨l',z1,z2⟩:=e3 i a q1;rw[q2]at z1;cases z1;exact z2
theorem ai.dutyAt{f:QW}(h:ai H (jT g) v f):oX H g v:=by obtain⟨T,ga,na,as,rfl,h1,h2,h3,h4,h5,_⟩:=ai.duty h;exact⟨T,ga,na,rfl,h1,h2,as,h3,h4,h5⟩
theorem ak.duties{gs:List Du}(h:ak H (gs.map jT) xs fp):R2 (oX H) gs xs:=⟨by have:=h.length;simpa using this,λi g x e1 e2=>by obtain⟨f,hf⟩:=ak.item h i (jT g) x (by rw[aR,e1];rfl) e2;exact ai.dutyAt hf⟩
theorem JJ{k:Int}(h0:0<=k):cK xs none (some k)=xs.take k.toNat:=by
 have e:k=(k.toNat:Int):=by omega
 rw[e];unfold cK;rw[HT.sIx_none,HT.sIx_nat,List.drop_zero,Nat.sub_zero,Int.toNat_natCast];by_cases z:k.toNat<=xs.length
 ·rw[Nat.min_eq_left z]
 ·rw[Nat.min_eq_right (by omega),N6 (NV _),N6 (by omega)]
def gE (H H':Hp):Prop:=∀ b o,H b=some o->(∀ kvs,o≠HO.dK kvs)->H' b=some o
theorem _root_.L2.ae.nod(e:ae H H'):gE H H':=λb o h _=>e b o h
variable {H1 H2:Hp}
theorem gE.trans(a:gE H H1)(b:gE H1 H2):gE H H2:=λc o h n=>b c o (a c o h n) n
variable {p:Addr}{o:HO}{kvs:List (bp×V)}
theorem pz(h:H p=some (.dK kvs)):gE H (upd H p o):=λb u e n=>by rw[aE (λz=>by rw[z,h]at e;exact n kvs (Oj e).symm)];exact e
theorem gE.sq(e:gE H H'):Sq H H':=λb o h q=>e b o h λkvs z=>by rw[z]at q;cases q
variable {ka:Addr}
theorem _root_.L2.Ls.nod{ls:QT}(e:gE H H')(h:Ls H ka ls):Ls H' ka ls:=by obtain⟨as,h1,h2,h3⟩:=h;exact⟨as,e _ _ h1 (λ_ z=>by cases z),h2,λi a l e1 e2=>e _ _ (h3 i a l e1 e2) (λ_ z=>by cases z)⟩
theorem JI {κ:Type}[DecidableEq κ](kvs:List (κ×V))(k:κ)(v:V):(bi kvs k v).map (·.1)=if k∈kvs.map (·.1)then kvs.map (·.1)else kvs.map (·.1)++[k]:=by
 cases h:aI kvs k with
 |some y=>rw[NU (CP h)];unfold bi;rw[lF,h];rw[NU (show(some y).isSome=true from rfl),Ox];refine List.map_congr_left λp _=>?_;show(if p.1=k then(p.1,v)else p).1=p.1;split<;>rfl
 |none=>rw[NR (II h),IM v h,Oe];rfl
variable {ks:QS}
theorem wC{m:Int}:(Sum.inl m:bp)∈ks.map (Sum.inl:Int->bp)↔m∈ks:=by
 constructor
 ·intro h;obtain⟨x,hx,e⟩:=bB.mp h;injection e with e;rw[<-e];exact hx
 ·intro h;exact List.mem_map_of_mem h
theorem KP{m:Int}:(ks.map (Sum.inl:Int->bp)).filter (λk=>decide (k≠Sum.inl m))=(ks.filter λk=>decide (k≠m)).map Sum.inl:=by rw[List.filter_map];congr 1;refine List.filter_congr λx _=>?_;show decide ((Sum.inl x:bp)≠Sum.inl m)=decide (x≠m);refine decide_eq_decide.mpr ⟨λh z=>h (by rw[z]),λh z=>h (by injection z)⟩
theorem KO{k:bp}:(fH kvs k).map (·.1)=(kvs.map (·.1)).filter (λj=>decide (j≠k)):=by unfold fH;rw[List.filter_map];rfl
def dk (P:Int->V->Prop)(kvs:List (bp×V))(ks:QS):Prop:=kvs.map (·.1)=ks.map Sum.inl/\ks.Nodup/\∀ m∈ks,∃ v,aI kvs (.inl m)=some v/\P m v
variable {P:Int->V->Prop}
theorem dk.nil:dk P [] []:=⟨rfl,OA,λm hm=>by simp at hm⟩
variable {P':Int->V->Prop}
theorem dk.mono(h:dk P kvs ks)(m:∀ k v,P k v->P' k v):dk P' kvs ks:=⟨h.1,h.2.1,λk hk=>by obtain⟨v,h1,h2⟩:=h.2.2 k hk;exact⟨v,h1,m k v h2⟩⟩
theorem dk.len(h:dk P kvs ks):kvs.length=ks.length:=by have:=congrArg List.length h.1;simpa using this
theorem dk.no{m:Int}(h:dk P kvs ks)(n:m∉ks):aI kvs (.inl m)=none:=by
 cases e:aI kvs (.inl m)with
 |none=>rfl
 |some v=>have:=CP e;rw[h.1]at this;exact Oa (wC.mp this) n
theorem dk.put{m:Int}(h:dk P kvs ks)(hv:P m v):dk P (bi kvs (.inl m) v) (if m∈ks then ks else ks++[m]):=by
 refine⟨?_,?_,λk hk=>?_⟩
 ·rw[JI,h.1];by_cases z:m∈ks
  ·rw[NU (wC.mpr z),NU z]
  ·rw[NR (λw=>z (wC.mp w)),NR z,Oe];rfl
 ·by_cases z:m∈ks
  ·rw[NU z];exact h.2.1
  ·rw[NR z];exact wn h.2.1 z
 ·rw[ol];by_cases e:k=m
  ·subst e;exact⟨v,by rw[NU rfl],hv⟩
  ·rw[NR (λw=>e (by injection w))];refine h.2.2 k ?_;by_cases z:m∈ks
   ·rw[NU z]at hk;exact hk
   ·rw[NR z]at hk;rcases bC.mp hk with w|w
    ·exact w
    ·exact Oa (bu.mp w) e
theorem dk.put'{m:Int}(h:dk P kvs ks)(hv:P' m v)(hP:∀ k v,k≠m->P k v->P' k v):dk P' (bi kvs (.inl m) v) (if m∈ks then ks else ks++[m]):=by
 have h0:dk (λk w=>k=m/\w=v\/P k w) (bi kvs (.inl m) v) (if m∈ks then ks else ks++[m]):=(h.mono λk w z=>.inr z).put (.inl ⟨rfl,rfl⟩);refine⟨h0.1,h0.2.1,λk hk=>?_⟩;by_cases e:k=m
 ·subst e;exact⟨v,by rw[ol,NU rfl],hv⟩
 ·obtain⟨w,e1,e2⟩:=h0.2.2 k hk;rcases e2 with⟨e2,_⟩|e2
  ·exact Oa e2 e
  ·exact⟨w,e1,hP k w e e2⟩
theorem dk.drop{m:Int}(h:dk P kvs ks):dk P (fH kvs (.inl m)) (ks.filter λk=>decide (k≠m)):=by refine⟨by rw[KO,h.1];exact KP,h.2.1.filter _,λk hk=>?_⟩;obtain⟨h1,h2⟩:=OY.mp hk;have h2:k≠m:=N8 h2;rw[D8,NR (λw=>h2 (by injection w))];exact h.2.2 k h1
theorem HF(h1:PB.length<=2)(h2:∀ ls∈PF,ls.length<=2)(place:Int):(aG PB PF place).length<=2:=by
 unfold aG;split
 ·rw[aV];exact h1
 ·rw[N2];cases e:PF[place.toNat]? with
  |none=>simp
  |some ls=>exact h2 ls (bT e)
def bf (ch:Nat->Option QS):QT:=(List.range 8).map λ(i:Nat)=>(ch i).getD (ah (0+(i:Int)))
def cA (k:Int)(l:QS)(i:Nat):Option QS:=if k=0+(i:Int)then some l else none
def bS (k0:Int)(l0:QS)(k1:Int)(l1:QS)(i:Nat):Option QS:=if k1=0+(i:Int)then some l1 else if k0=0+(i:Int)then some l0 else none
noncomputable def fc (i:Nat):Option QS:=if i=0 then some (ah 4)else if i=1 then some (ah 5)else if i=2 then some (kL 0)else if i=3 then some (kL 0)else none
def fG (PP:QS)(PM:QT):D:=.tup [nums PP,bx PM]
def oV (PJ PB:QT)(PF:QU):List D:=((aG PB PF 0).map λl=>bo l (bf fc)).map λg=>fG g PJ
abbrev df:=Int->QT×QT
noncomputable def j6 (N A:QT) (T:Int->QT) (oath:df):Dd->List D
 |.set h l=>(A.map λx=>bo x (bf (cA h l))).map λg=>fG g N|.part h l b=>(A.map λx=>bo x (bf (cA h (ah 6)))).map λg=>fG g (N++[cp l b,al l b])|.draw h lo hi=>(A.map λx=>bo x (bf (cA h (ah 6)))).map λg=>fG g (N++[cI lo,cJ hi])|.turn l p=>((T p).map λg=>fG g (N++[l]))++A.map λg=>fG g (N++[iI l])|.hold l=>[fG l N]++A.map λg=>fG g (N++[l])|.call m g0 g1 t0 t1=>(((oath m).1.map λx=>bo x (bf (bS 4 (ah g0) 5 (ah g1)))).map λg=>fG g N)++(A.map λx=>bo x (bf (bS t0 (ah 6) t1 (ah 7)))).map λg=>fG g (N++(oath m).2.map λx=>bo x (bf (bS 4 (ah g0) 5 (ah g1))))
def ig (PB:QT)(PF:QU)(oath:df):List Dd->Nat->List D
 |[],_=>[]|d::ds,p=>j6 (aG PB PF p) (aG PB PF (p+1)) (aG PB PF) oath d++ig PB PF oath ds (p+1)
theorem xX (PB:QT)(PF:QU)(oath:df):∀(xs ys:List Dd) (p:Nat),ig PB PF oath (xs++ys) p=ig PB PF oath xs p++ig PB PF oath ys (p+xs.length)
 |[],ys,p=>rfl|x::xs,ys,p=>by show j6 _ _ _ _ x++ig PB PF oath (xs++ys) (p+1)=(j6 _ _ _ _ x++ig PB PF oath xs (p+1))++_;rw[xX PB PF oath xs ys (p+1),Ow,N_,show p+1+xs.length=p+(xs.length+1)by omega]
def pe (PJ PB:QT)(PD:List Dd)(PF:QU)(oath:df):List D:=oV PJ PB PF++ig PB PF oath PD 0
def cz (N A:QT)(T:Int->QT)(oath:df):Dd->List Du
 |.set h l=>A.map λx=>(bo x (bf (cA h l)),N)|.part h l b=>A.map λx=>(bo x (bf (cA h (ah 6))),N++[cp l b,al l b])|.draw h lo hi=>A.map λx=>(bo x (bf (cA h (ah 6))),N++[cI lo,cJ hi])|.turn l p=>((T p).map λg=>(g,N++[l]))++A.map λg=>(g,N++[iI l])|.hold l=>[(l,N)]++A.map λg=>(g,N++[l])|.call m g0 g1 t0 t1=>((oath m).1.map λx=>(bo x (bf (bS 4 (ah g0) 5 (ah g1))),N))++A.map λx=>(bo x (bf (bS t0 (ah 6) t1 (ah 7))),N++(oath m).2.map λx=>bo x (bf (bS 4 (ah g0) 5 (ah g1))))
theorem JH (N A:QT)(T:Int->QT)(oath:df)(d:Dd):(cz N A T oath d).map jT=j6 N A T oath d:=by cases d<;>simp only[cz,j6,Oe,Ox,bw,Oh]<;>rfl
def k_ (PJ PB:QT)(PF:QU):List Du:=(aG PB PF 0).map λl=>(bo l (bf fc),PJ)
def fR (PB:QT)(PF:QU)(oath:df):List Dd->Nat->List Du
 |[],_=>[]|d::ds,p=>cz (aG PB PF p) (aG PB PF (p+1)) (aG PB PF) oath d++fR PB PF oath ds (p+1)
theorem D4 (PB:QT)(PF:QU)(oath:df):∀(ds:List Dd) (p:Nat),(fR PB PF oath ds p).map jT=ig PB PF oath ds p
 |[],p=>rfl|d::ds,p=>by show(cz _ _ _ _ d++fR PB PF oath ds (p+1)).map jT=j6 _ _ _ _ d++ig PB PF oath ds (p+1);rw[Oe,JH,D4 PB PF oath ds (p+1)]
def li (PJ PB:QT)(PD:List Dd)(PF:QU)(oath:df):List Du:=k_ PJ PB PF++fR PB PF oath PD 0
theorem Ek (PJ PB:QT)(PD:List Dd)(PF:QU)(oath:df):(li PJ PB PD PF oath).map jT=pe PJ PB PD PF oath:=by unfold li pe;rw[Oe,D4];congr 1;unfold k_ oV;rw[Ox,Ox];rfl
def Sm (l:QS):Prop:=∀ n∈l,-(2 ^ 64)<n/\n<2 ^ 64
def ic:Dd->Option Int
 |.call m _ _ _ _=>some m|_=>none
def dB (PD:List Dd):QS:=PD.filterMap ic
def oE (n:Nat):Dd->Prop
 |.set _ l=>l.length=9/\Sm l|.part _ l b=>l.length=9/\(-1000000<b/\b<1000000)|.turn l p=>l.length=9/\0<=p/\p<=(n:Int)|.hold l=>l.length=9|_=>True
theorem Ej{m:Int}(h:m∈dB PD):∃ d∈PD,ic d=some m:=by unfold dB at h;exact OI.mp h
variable {g0 g1 t0 t1:Int}
theorem Je{m:Int}(h:Dd.call m g0 g1 t0 t1∈PD):m∈dB PD:=by unfold dB;exact OI.mpr ⟨_,h,rfl⟩
def bc (S:QW)(H H':Hp):Prop:=∀ b o,b∉S->H b=some o->H' b=some o
variable {S:QW}
theorem _root_.L2.ae.offA(e:ae H H'):bc S H H':=λb o _ h=>e b o h
theorem bc.trans(a:bc S H H1)(b:bc S H1 H2):bc S H H2:=λc o n h=>b c o n (a c o n h)
theorem ii(h:p∈S):bc S H (upd H p o):=λb u n e=>by rw[aE (λz=>n (by rw[z];exact h))];exact e
theorem bc.nod(e:bc S H H')(h:∀ a∈S,∃ kvs,H a=some (.dK kvs)):gE H H':=λb o hb n=>e b o (λz=>by obtain⟨kvs,hk⟩:=h b z;rw[hk]at hb;exact n kvs (Oj hb).symm) hb
structure Cr where
 PJ:QT
 PB:QT
 PD:List Dd
 PF:QU
def iz (la va:Addr):List (Str×V):=au "vouched" (.ref va) (au "laid" (.ref la) [])
theorem jI (la va:Addr):(iz la va).lookup ("laid":Str)=some (.ref la):=by unfold iz;rw[fW,NR (by decide+kernel),fW,NU rfl]
theorem ut (la va:Addr):(iz la va).lookup ("vouched":Str)=some (.ref va):=by unfold iz;rw[fW,NU rfl]
variable {la va:Addr}
theorem gZ{m:Str}(h1: ~~~(¬ m ="vouched"))(h2: ~~~(¬ m ="laid")):(iz la va).lookup m=none:=by unfold iz;rw[fW,NR h1,fW,NR h2];rfl
theorem Dh {n:Int}:∀{l:QS},mW (.int n) (l.map V.int)=decide (n∈l)
 |[]=>by simp[mW]|a::l=>by
  have ih:=Dh (n:=n) (l:=l);unfold mW at ih ⊢;rw[bw,OC,ih];by_cases z:n=a
  ·subst z;simp[iA]
  ·have:iA (.int a) (.int n)=false:=by simp[iA];intro w;exact z w.symm
   rw[this];simp[z]
theorem Lg (zs:QS):(zs.map V.int).all gi=true:=by rw[ON,On];intro x _;rfl
theorem dQ:List.replicate 8 (0:Int)=[0,0,0,0,0,0,0,0]:=rfl
def found (g:Du):Prop:=(eX g.1 g.2).isSome=true
theorem D3{l:List α}{f:α->Option β}{x:α}(m:x∈l)(h:(f x).isSome=true):(l.findSome? f).isSome=true:=by
 cases e:l.findSome? f with
 |some y=>rfl
 |none=>rw[List.findSome?_eq_none_iff]at e;rw[e x m]at h;exact h
theorem Dg(w:Int)(r:QS)(hw:1<=w/\w<=4)(hr:r∈cM PM.length)(h:cV PP PM w r=true):found (PP,PM):=by
 unfold found eX;have mw:w∈[1,2,3,(4:Int)]:=by obtain⟨h1,h2⟩:=hw;simp;omega
 refine D3 mw ?_;unfold pH;refine D3 hr ?_;unfold ml;have:jB PP PM w r=true:=by unfold jB;rw[Fv hw.1 hr,h];rfl
 rw[NU this];rfl
theorem kZ:∀{t l:QS},t.length=l.length->aA 0 t l=t
 |[],[],_=>rfl|a::t,b::l,h=>by have ih:=kZ (t:=t) (l:=l) (by simpa using h);unfold aA at ih ⊢;rw[List.zipWith_cons_cons,ih];simp|[],_::_,h=>by simp at h|_::_,[],h=>by simp at h
theorem vC(h:l.length=9):aA 1 [0,0,0,0,0,0,0,0,0] l=l:=by obtain⟨a0,a1,a2,a3,a4,a5,a6,a7,a8,rfl⟩:=nine h;simp[aA]
theorem D2:og 0 l=l:=by
 cases l with
 |nil=>rfl
 |cons a l=>simp[og]
variable {E:QT}
theorem uy(h8:E.length=8)(h9:∀ l∈E,l.length=9):bo (ah 0) E=E.getD 0 []/\bo (ah 1) E=E.getD 1 []/\bo (ah 4) E=E.getD 4 []/\bo (ah 5) E=E.getD 5 []/\bo (ah 6) E=E.getD 6 []/\bo (ah 7) E=E.getD 7 []:=by
 match E,h8 with
 |[e0,e1,e2,e3,e4,e5,e6,e7],_=>
  have l0:=h9 e0 (by simp);have l1:=h9 e1 (by simp);have l2:=h9 e2 (by simp);have l3:=h9 e3 (by simp);have l4:=h9 e4 (by simp);have l5:=h9 e5 (by simp);have l6:=h9 e6 (by simp);have l7:=h9 e7 (by simp);have z:∀{l:QS},l.length=9->aA 0 [0,0,0,0,0,0,0,0,0] l=[0,0,0,0,0,0,0,0,0]:=λh=>kZ (by simp[h]);refine⟨?_,?_,?_,?_,?_,?_⟩<;>
  ·unfold bo bZ b5;simp[ah,OG,D2,z,vC,kZ, *]
theorem xW(h8:E.length=8)(h9:∀ l∈E,l.length=9):bo [0,1,0,0,0,-1,0,0,0] E=aA (-1) (E.getD 0 []) (E.getD 4 [])/\bo [0,0,0,0,0,-1,0,1,0] E=aA 1 (aA (-1) [0,0,0,0,0,0,0,0,0] (E.getD 4 [])) (E.getD 6 []):=by
 match E,h8 with
 |[e0,e1,e2,e3,e4,e5,e6,e7],_=>
  have l0:=h9 e0 (by simp);have l1:=h9 e1 (by simp);have l2:=h9 e2 (by simp);have l3:=h9 e3 (by simp);have l4:=h9 e4 (by simp);have l5:=h9 e5 (by simp);have l6:=h9 e6 (by simp);have l7:=h9 e7 (by simp);have z:∀{l:QS},l.length=9->aA 0 [0,0,0,0,0,0,0,0,0] l=[0,0,0,0,0,0,0,0,0]:=λh=>kZ (by simp[h]);have y1:(aA (-1) e0 e4).length=9:=jP l0 l4;have y2:(aA (-1) [0,0,0,0,0,0,0,0,0] e4).length=9:=jP (by simp) l4;have y3:(aA 1 (aA (-1) [0,0,0,0,0,0,0,0,0] e4) e6).length=9:=jP y2 l6;refine⟨?_,?_⟩<;>
  ·unfold bo bZ b5;simp[D2,z,vC,kZ, *]
variable {ch:Nat->Option QS}
theorem D1(h:i<8):(bf ch).getD i []=(ch i).getD (ah (0+(i:Int))):=by unfold bf;rw[N2,aR,OL h];rfl
theorem d_:ah 0=[0,1,0,0,0,0,0,0,0]:=by decide
theorem d7:ah 1=[0,0,1,0,0,0,0,0,0]:=by decide
theorem dN:ah 4=[0,0,0,0,0,1,0,0,0]:=by decide
theorem d5:ah 6=[0,0,0,0,0,0,0,1,0]:=by decide
noncomputable def fk:Nat->Nat->QS
 |0,_=>[]|n+1,i=>fk n i++[if i=n then 1 else 0]
theorem tV:∀(n i:Nat),fk n i∈cM n
 |0,_=>by simp[fk,cM]|n+1,i=>by
  have ih:=tV n i;unfold fk cM;by_cases h:i=n
  ·rw[NU h];exact N3 _ (List.mem_map_of_mem ih)
  ·rw[NR h];exact Ob _ (List.mem_map_of_mem ih)
theorem Jd (n i:Nat):(fk n i).length=n:=(j_ _ _ (tV n i)).1
theorem JG (ws:QS)(w:Int):aM (ws++[w])=aM ws++[-w]:=by simp[aM]
theorem D0(h:ws.length=PM.length):cg PP (PM++[l]) PQ (ws++[w])=aA (-w) (cg PP PM PQ ws) l:=by
 unfold cg bZ;rw[JG];have e:((PP::(PM++[l])).zip (PQ::(aM ws++[-w])))=((PP::PM).zip (PQ::aM ws))++[(l,-w)]:=by rw[List.zip_cons_cons,List.zip_cons_cons,List.cons_append];rw[List.zip_append (by simp[aM,h])];rfl
 rw[e,En]
theorem Jc(g9:PP.length=9)(h9:∀ l∈PM,l.length=9):(cg PP PM PQ ws).length=9:=i5 λl hl=>by
 rcases NP.mp hl with z|z
 ·rw[z];exact g9
 ·exact h9 l z
theorem Df {P:QT->Prop}(h0:P [])(hs:∀ ls l,P ls->P (ls++[l])):∀ ls,P ls:=λls=>by
 have:∀ n (ls:QT),ls.length=n->P ls:=λn=>by
  induction n with
  |zero=>intro ls h;rw[List.length_eq_zero_iff.mp h];exact h0
  |succ n ih=>
   intro ls h;have hne:ls≠[]:=by intro z;rw[z]at h;simp at h
   rw[<-List.dropLast_concat_getLast hne];exact hs _ _ (ih _ (by simp[h]))
 exact this _ ls rfl
theorem Ee(g9:PP.length=9):∀(PM:QT) (i:Nat),(∀ l∈PM,l.length=9)->cg PP PM 1 (fk PM.length i)=match PM[i]? with
  |some l=>aA (-1) PP l|none=>PP:=by
 refine Df (λi _=>?_) (λls l ih i h9=>?_)
 ·show cg PP [] 1 []=PP
  unfold cg bZ b5
  show aA 1 (List.replicate 9 0) PP=PP
  rw[dL];exact vC g9
 ·have h9':∀ x∈ls,x.length=9:=λx hx=>h9 x (Ob _ hx)
  have hl:l.length=9:=h9 l (by simp)
  rw[N4]
  show cg PP (ls++[l]) 1 (fk ls.length i++[if i=ls.length then 1 else 0])=_
  rw[D0 (Jd _ _),ih i h9']
  by_cases z:i<ls.length
  ·rw[NR (by omega),OT z,NQ z]
   show aA (-0) (aA (-1) PP ls[i]) l=_
   exact kZ (by rw[jP g9 (h9' _ (Om z)),hl])
  ·rw[List.getElem?_eq_none (by omega:ls.length<=i),Pb (by omega)]
   by_cases e:i=ls.length
   ·rw[NU e,e];simp
   ·rw[NR e,List.getElem?_eq_none (by simp;omega)]
    exact kZ (by rw[g9,hl])
theorem De(h:l.length=9):aA (-1) l l=List.replicate 9 0:=by obtain⟨a0,a1,a2,a3,a4,a5,a6,a7,a8,rfl⟩:=nine h;simp[aA];omega
theorem xK(h9:∀ l∈PM,l.length=9)(e:PM[i]?=some PP):found (PP,PM):=by have g9:=h9 PP (bT e);refine Dg 1 (fk PM.length i) ⟨by decide,by decide⟩ (tV _ _) ?_;unfold cV;rw[Ee g9 PM i h9,e];show(decide (-1<(aA (-1) PP PP).headD 0)&&decide ((aA (-1) PP PP).tail=List.replicate 8 0))=true;rw[De g9];decide
def Ok (PP:QS)(PM:QT):Prop:=∃(w:Int) (r:QS),(1<=w/\w<=4)/\r∈cM PM.length/\cV PP PM w r=true
theorem Ok.found(h:Ok PP PM):found (PP,PM):=by obtain⟨w,r,h1,h2,h3⟩:=h;exact Dg w r h1 h2 h3
theorem Ok.more(g9:PP.length=9)(h9:∀ l∈PM,l.length=9)(hl:l.length=9)(h:Ok PP PM):Ok PP (PM++[l]):=by
 obtain⟨w,r,h1,h2,h3⟩:=h;nomatch w,r++[0],h1,?_
 ·rw[N4];show r++[0]∈cM (PM.length+1);unfold cM;exact Ob _ (List.mem_map_of_mem h2)
 ·unfold cV at h3 ⊢;rw[D0 (j_ _ _ h2).1,show aA (-0) (cg PP PM w r) l=cg PP PM w r from kZ (by rw[Jc g9 h9,hl])];exact h3
theorem Ok.mores(g9:PP.length=9)(h9:∀ l∈PM,l.length=9)(h:Ok PP PM):∀ ls:QT,(∀ l∈ls,l.length=9)->Ok PP (PM++ls):=by
 refine Df (λ_=>by rw[Oo];exact h) (λls l ih h9'=>?_);rw[<-Ow];refine Ok.more g9 (λx hx=>?_) (h9' l (by simp)) (ih λx hx=>h9' x (Ob _ hx));rcases bC.mp hx with z|z
 ·exact h9 x z
 ·exact h9' x (Ob _ z)
theorem lh(h9:∀ l∈PM,l.length=9)(e:PM[i]?=some PP):Ok PP PM:=by have g9:=h9 PP (bT e);nomatch 1,fk PM.length i,⟨by decide,by decide⟩,tV _ _;unfold cV;rw[Ee g9 PM i h9,e];show(decide (-1<(aA (-1) PP PP).headD 0)&&decide ((aA (-1) PP PP).tail=List.replicate 8 0))=true;rw[De g9];decide
def e1:QS:=[0,1,0,0,0,-1,0,0,0]
theorem wB {m:Int}(h:0<=m):Ok [m,1,1,0,0,0,0,0,0] [ah 0,ah 1]:=by exact⟨1,[1,1],⟨by omega,by omega⟩,by simp[cM],by first|(simp[cV,cg,bZ,b5,aM,aA,d_,d7,dN,d5,dL,dQ,cp,al,cI,cJ,dZ];done)|(simp[cV,cg,bZ,b5,aM,aA,d_,d7,dN,d5,dL,dQ,cp,al,cI,cJ,dZ];omega)⟩
theorem qK {m:Int}(h:0<=m):Ok [m,1,0,0,0,0,0,0,0] [ah 0,ah 1]:=by exact⟨1,[1,0],⟨by omega,by omega⟩,by simp[cM],by first|(simp[cV,cg,bZ,b5,aM,aA,d_,d7,dN,d5,dL,dQ,cp,al,cI,cJ,dZ];done)|(simp[cV,cg,bZ,b5,aM,aA,d_,d7,dN,d5,dL,dQ,cp,al,cI,cJ,dZ];omega)⟩
theorem zv {m:Int}(h:0<=m):Ok [m,0,1,0,0,0,0,0,0] [ah 0,ah 1]:=by exact⟨1,[0,1],⟨by omega,by omega⟩,by simp[cM],by first|(simp[cV,cg,bZ,b5,aM,aA,d_,d7,dN,d5,dL,dQ,cp,al,cI,cJ,dZ];done)|(simp[cV,cg,bZ,b5,aM,aA,d_,d7,dN,d5,dL,dQ,cp,al,cI,cJ,dZ];omega)⟩
variable {b:Int}
theorem Jb{m:Int}(h:0<=m)(b1:1<=b)(b4:b<=4):Ok (ah 6) [ah 0,ah 1,cp [m,1,0,0,0,0,0,0,0] b,al [m,1,0,0,0,0,0,0,0] b]:=by exact⟨b,[1,0,0,1],⟨by omega,by omega⟩,by simp[cM],by first|(simp[cV,cg,bZ,b5,aM,aA,d_,d7,dN,d5,dL,dQ,cp,al,cI,cJ,dZ];done)|(simp[cV,cg,bZ,b5,aM,aA,d_,d7,dN,d5,dL,dQ,cp,al,cI,cJ,dZ];omega)⟩
theorem Ja{m:Int}(h:0<=m)(b1:1<=b)(b4:b<=4):Ok (ah 6) [ah 0,ah 1,cp [m,1,1,0,0,0,0,0,0] b,al [m,1,1,0,0,0,0,0,0] b]:=by exact⟨b,[1,1,0,1],⟨by omega,by omega⟩,by simp[cM],by first|(simp[cV,cg,bZ,b5,aM,aA,d_,d7,dN,d5,dL,dQ,cp,al,cI,cJ,dZ];done)|(simp[cV,cg,bZ,b5,aM,aA,d_,d7,dN,d5,dL,dQ,cp,al,cI,cJ,dZ];omega)⟩
variable {lo hi:Int}
theorem Cj(h:0<=lo):Ok (ah 6) [ah 0,ah 1,cI lo,cJ hi]:=by exact⟨1,[0,0,1,0],⟨by omega,by omega⟩,by simp[cM],by first|(simp[cV,cg,bZ,b5,aM,aA,d_,d7,dN,d5,dL,dQ,cp,al,cI,cJ,dZ];done)|(simp[cV,cg,bZ,b5,aM,aA,d_,d7,dN,d5,dL,dQ,cp,al,cI,cJ,dZ];omega)⟩
theorem qJ:Ok (ah 0) [e1,ah 4]:=by unfold e1;exact⟨1,[1,1],⟨by omega,by omega⟩,by simp[cM],by first|(simp[cV,cg,bZ,b5,aM,aA,d_,d7,dN,d5,dL,dQ,cp,al,cI,cJ,dZ];done)|(simp[cV,cg,bZ,b5,aM,aA,d_,d7,dN,d5,dL,dQ,cp,al,cI,cJ,dZ];omega)⟩
theorem qH {m:Int}(h:0<=m):Ok [m,1,0,0,0,-1,0,0,0] [e1,ah 4]:=by unfold e1;exact⟨1,[1,0],⟨by omega,by omega⟩,by simp[cM],by first|(simp[cV,cg,bZ,b5,aM,aA,d_,d7,dN,d5,dL,dQ,cp,al,cI,cJ,dZ];done)|(simp[cV,cg,bZ,b5,aM,aA,d_,d7,dN,d5,dL,dQ,cp,al,cI,cJ,dZ];omega)⟩
theorem qG {m:Int}(h:0<=m):Ok [m,1,0,0,0,0,0,0,0] [e1,ah 4]:=by unfold e1;exact⟨1,[1,1],⟨by omega,by omega⟩,by simp[cM],by first|(simp[cV,cg,bZ,b5,aM,aA,d_,d7,dN,d5,dL,dQ,cp,al,cI,cJ,dZ];done)|(simp[cV,cg,bZ,b5,aM,aA,d_,d7,dN,d5,dL,dQ,cp,al,cI,cJ,dZ];omega)⟩
theorem qD {m:Int}(h:0<=m):Ok [0,0,0,0,0,-1,0,1,0] [e1,ah 4,cp [m,1,0,0,0,0,0,0,0] 1,al [m,1,0,0,0,0,0,0,0] 1]:=by unfold e1;exact⟨1,[1,0,0,1],⟨by omega,by omega⟩,by simp[cM],by first|(simp[cV,cg,bZ,b5,aM,aA,d_,d7,dN,d5,dL,dQ,cp,al,cI,cJ,dZ];done)|(simp[cV,cg,bZ,b5,aM,aA,d_,d7,dN,d5,dL,dQ,cp,al,cI,cJ,dZ];omega)⟩
theorem qF {m:Int}(h:0<=m):Ok (ah 6) [e1,ah 4,cp [m,1,0,0,0,0,0,0,0] 1,al [m,1,0,0,0,0,0,0,0] 1]:=by unfold e1;exact⟨1,[1,1,0,1],⟨by omega,by omega⟩,by simp[cM],by first|(simp[cV,cg,bZ,b5,aM,aA,d_,d7,dN,d5,dL,dQ,cp,al,cI,cJ,dZ];done)|(simp[cV,cg,bZ,b5,aM,aA,d_,d7,dN,d5,dL,dQ,cp,al,cI,cJ,dZ];omega)⟩
theorem qI:Ok [0,0,0,0,0,-1,0,1,0] [e1,ah 4,[0,-1,0,0,0,0,0,1,0],ah 6]:=by unfold e1;exact⟨1,[1,0,1,0],⟨by omega,by omega⟩,by simp[cM],by first|(simp[cV,cg,bZ,b5,aM,aA,d_,d7,dN,d5,dL,dQ,cp,al,cI,cJ,dZ];done)|(simp[cV,cg,bZ,b5,aM,aA,d_,d7,dN,d5,dL,dQ,cp,al,cI,cJ,dZ];omega)⟩
theorem JF(h:l.length=9):Ok (List.replicate 9 0) [l]:=by obtain⟨a0,a1,a2,a3,a4,a5,a6,a7,a8,rfl⟩:=nine h;exact⟨1,[0],⟨by omega,by omega⟩,by simp[cM],by first|(simp[cV,cg,bZ,b5,aM,aA,d_,d7,dN,d5,dL,dQ,cp,al,cI,cJ,dZ];done)|(simp[cV,cg,bZ,b5,aM,aA,d_,d7,dN,d5,dL,dQ,cp,al,cI,cJ,dZ];omega)⟩
theorem e8 (ch:Nat->Option QS):(bf ch).length=8:=by simp[bf]
theorem e9(h:∀ i l,ch i=some l->l.length=9):∀ l∈bf ch,l.length=9:=λl hl=>by
 obtain⟨i,_,rfl⟩:=bB.mp hl;cases e:ch i with
 |none=>exact bh _
 |some l=>exact h i l e
theorem iB{k:Int}(h:l.length=9):∀ x∈bf (cA k l),x.length=9:=e9 λi m e=>by
 unfold cA at e;split at e
 ·cases e;exact h
 ·cases e
variable {k0 k1:Int}{l0 l1:QS}
theorem gP(h0:l0.length=9)(h1:l1.length=9):∀ x∈bf (bS k0 l0 k1 l1),x.length=9:=e9 λi m e=>by
 unfold bS at e;split at e
 ·cases e;exact h1
 split at e
 ·cases e;exact h0
 ·cases e
theorem zR:∀ x∈bf fc,x.length=9:=e9 λi m e=>by
 unfold fc at e;split at e
 ·cases e;exact bh _
 split at e
 ·cases e;exact bh _
 split at e
 ·cases e;exact fM _
 split at e
 ·cases e;exact fM _
 ·cases e
theorem lN{k:Int}(hi:i<8):(bf (cA k l)).getD i []=if k=(i:Int)then l else ah (i:Int):=by rw[D1 hi];unfold cA;rw[Int.zero_add];split<;>rfl
theorem iC(hi:i<8):(bf (bS k0 l0 k1 l1)).getD i []=if k1=(i:Int)then l1 else if k0=(i:Int)then l0 else ah (i:Int):=by
 rw[D1 hi];unfold bS;rw[Int.zero_add];split
 ·rfl
 split<;>rfl
theorem iT{k:Int}(h:l.length=9):bo (ah 0) (bf (cA k l))=(if k=0 then l else ah 0)/\bo (ah 1) (bf (cA k l))=(if k=1 then l else ah 1):=by have t:=uy (e8 (cA k l)) (iB h);exact⟨by rw[t.1,lN (by decide)];rfl,by rw[t.2.1,lN (by decide)];rfl⟩
theorem sY{k:Int}(h:l.length=9)(n:¬ k=4):bo (ah 4) (bf (cA k l))=ah 4/\bo e1 (bf (cA k l))=aA (-1) (if k=0 then l else ah 0) (ah 4):=by have t:=uy (e8 (cA k l)) (iB h);have u:=xW (e8 (cA k l)) (iB h);refine⟨by rw[t.2.2.1,lN (by decide),NR (by exact n)];rfl,?_⟩;show bo [0,1,0,0,0,-1,0,0,0] _=_;rw[u.1,lN (by decide),lN (by decide),NR (c:=k=((4:Nat):Int)) (by exact n)];rfl
theorem ku:bo (ah 4) (bf (bS 4 (ah g0) 5 (ah g1)))=ah g0/\bo (ah 5) (bf (bS 4 (ah g0) 5 (ah g1)))=ah g1/\bo (ah 6) (bf (bS 4 (ah g0) 5 (ah g1)))=ah 6/\bo (ah 7) (bf (bS 4 (ah g0) 5 (ah g1)))=ah 7/\bo [0,0,0,0,0,-1,0,1,0] (bf (bS 4 (ah g0) 5 (ah g1)))=aA 1 (aA (-1) [0,0,0,0,0,0,0,0,0] (ah g0)) (ah 6):=by
 have t:=uy (e8 (bS 4 (ah g0) 5 (ah g1))) (gP (bh _) (bh _));have u:=xW (e8 (bS 4 (ah g0) 5 (ah g1))) (gP (bh _) (bh _));nomatch ?_,?_,?_,?_
 ·rw[t.2.2.1,iC (by decide)];rfl
 ·rw[t.2.2.2.1,iC (by decide)];rfl
 ·rw[t.2.2.2.2.1,iC (by decide)];rfl
 ·rw[t.2.2.2.2.2,iC (by decide)];rfl
 ·rw[u.2,iC (by decide),iC (by decide)];rfl
theorem sX(n0:¬ t0=4)(n1:¬ t1=4):bo (ah 0) (bf (bS t0 (ah 6) t1 (ah 7)))=(if t1=0 then ah 7 else if t0=0 then ah 6 else ah 0)/\bo (ah 1) (bf (bS t0 (ah 6) t1 (ah 7)))=(if t1=1 then ah 7 else if t0=1 then ah 6 else ah 1)/\bo (ah 4) (bf (bS t0 (ah 6) t1 (ah 7)))=ah 4/\bo e1 (bf (bS t0 (ah 6) t1 (ah 7)))=aA (-1) (if t1=0 then ah 7 else if t0=0 then ah 6 else ah 0) (ah 4):=by
 have t:=uy (e8 (bS t0 (ah 6) t1 (ah 7))) (gP (bh _) (bh _));have u:=xW (e8 (bS t0 (ah 6) t1 (ah 7))) (gP (bh _) (bh _));nomatch ?_,?_,?_
 ·rw[t.1,iC (by decide)];rfl
 ·rw[t.2.1,iC (by decide)];rfl
 ·rw[t.2.2.1,iC (by decide),NR (by exact n1),NR (by exact n0)];rfl
 ·show bo [0,1,0,0,0,-1,0,0,0] _=_;rw[u.1,iC (by decide),iC (by decide),NR (c:=t1=((4:Nat):Int)) (by exact n1),NR (c:=t0=((4:Nat):Int)) (by exact n0)];rfl
theorem tq:bo (ah 0) (bf fc)=ah 4/\bo (ah 1) (bf fc)=ah 5/\bo (ah 4) (bf fc)=ah 4/\bo e1 (bf fc)=List.replicate 9 0:=by refine⟨by decide,by decide,by decide,by decide⟩
inductive cc (kd:Int->Int->Prop)(n:Int):Dd->Prop
 |set1 {m h:Int}(hm:0<=m) (hh:h=0\/h=1):cc kd n (.set h [m,1,1,0,0,0,0,0,0])|set2 {m h:Int}(hm:0<=m) (hh:h=0\/h=1):cc kd n (.set h [m,h,1 - h,0,0,0,0,0,0])|part {m h x b:Int}(hm:0<=m) (hh:h=0\/h=1) (hx:x=0\/x=1) (b1:1<=b) (b4:b<=4):cc kd n (.part h [m,1,x,0,0,0,0,0,0] b)|draw {h lo hi:Int}(hh:h=0\/h=1) (hl:0<=lo):cc kd n (.draw h lo hi)|hold {m x:Int}(hm:0<=m) (hx:x=0\/x=1):cc kd n (.hold [m,1,x,0,0,0,0,0,0])|call0 {m g0 g1 t0 t1:Int}(hk:kd m 0) (hg:g0=0\/g0=1) (hg1:g1=0\/g1=1) (a0:¬ t0=4) (a1:¬ t1=4):cc kd n (.call m g0 g1 t0 t1)|call1 {m g0 g1 t0 t1:Int}(hk:kd m 1) (hg:g0=0\/g0=1) (h0:t0=0\/t0=1) (h1:t1=2\/t1=3):cc kd n (.call m g0 g1 t0 t1)|turn {l:QS}{p:Int}(h9:l.length=9) (p0:0<=p) (pn:p<=n):cc kd n (.turn l p)|set3 {h:Int}{l:QS}(hh:h=2\/h=3) (h9:l.length=9):cc kd n (.set h l)|draw3 {h lo hi:Int}(hh:h=2\/h=3):cc kd n (.draw h lo hi)
noncomputable def cL (k:Int):QT×QT:=if k=0 then([ah 4,ah 5],[ah 6,ah 7])else([ah 4],[[0,0,0,0,0,-1,0,1,0],ah 6])
theorem mx(h:l.length=9):(cp l b).length=9/\(al l b).length=9/\(iI l).length=9:=by
 nomatch ?_,?_
 ·unfold cp;exact i5 λz hz=>by
   simp at hz;rcases hz with rfl|rfl
   ·exact h
   ·exact bh 6
 ·unfold al;exact i5 λz hz=>by
   simp at hz;rcases hz with rfl|rfl|rfl
   ·exact bh 6
   ·exact fM _
   ·exact h
 ·unfold iI;exact i5 λz hz=>by
   simp at hz;rcases hz with rfl|rfl
   ·exact h
   ·exact fM _
theorem lg:(cI lo).length=9/\(cJ hi).length=9:=by
 nomatch ?_
 ·unfold cI;exact i5 λz hz=>by
   simp at hz;rcases hz with rfl|rfl
   ·exact bh 6
   ·exact fM _
 ·unfold cJ;exact i5 λz hz=>by
   simp at hz;rcases hz with rfl|rfl
   ·exact fM _
   ·exact bh 6
theorem gU {ls:QT}(h:ls.all (λl=>l.length==9)=true):∀ l∈ls,l.length=9:=λl hl=>by have:=On.mp h l hl;simpa using this
theorem qL:∀ l∈[ah 0,ah 1],l.length=9:=gU (by decide)
variable {n:Int}{kd:Int->Int->Prop}{T:Int->QT}{oath:df}
theorem LX(hT:∀ p,0<=p->p<=n->T p=[ah 0,ah 1])(ho:∀ m k,kd m k->oath m=cL k)(h:cc kd n d):∀ g∈cz [ah 0,ah 1] [ah 0,ah 1] T oath d,found g:=by
 have s0:∀ ls:QT,(∀ l∈ls,l.length=9)->found (ah 0,[ah 0,ah 1]++ls):=λls h9=>((lh (i:=0) qL rfl).mores (bh _) qL ls h9).found;have s1:∀ ls:QT,(∀ l∈ls,l.length=9)->found (ah 1,[ah 0,ah 1]++ls):=λls h9=>((lh (i:=1) qL rfl).mores (bh _) qL ls h9).found;have s0n:found (ah 0,[ah 0,ah 1]):=by simpa using s0 [] (by simp)
 have s1n:found (ah 1,[ah 0,ah 1]):=by simpa using s1 [] (by simp)
 intro g hg;cases h with
 |@set1 m h hm hh=>
  have t:=iT (k:=h) (l:=[m,1,1,0,0,0,0,0,0]) rfl;simp only[cz,bw,Oh,t.1,t.2,NP,NT,Of]at hg;rcases hh with rfl|rfl
  ·rcases hg with rfl|rfl
   ·exact(wB hm).found
   ·exact s1n
  ·rcases hg with rfl|rfl
   ·exact s0n
   ·exact(wB hm).found
 |@set2 m h hm hh=>
  rcases hh with rfl|rfl
  ·have t:=iT (k:=0) (l:=[m,0,1 - 0,0,0,0,0,0,0]) rfl;simp only[cz,bw,Oh,t.1,t.2,NP,NT,Of]at hg;rcases hg with rfl|rfl
   ·exact(zv hm).found
   ·exact s1n
  ·have t:=iT (k:=1) (l:=[m,1,1 - 1,0,0,0,0,0,0]) rfl;simp only[cz,bw,Oh,t.1,t.2,NP,NT,Of]at hg;rcases hg with rfl|rfl
   ·exact s0n
   ·exact(qK hm).found
 |@part m h x b hm hh hx b1 b4=>
  have t:=iT (k:=h) (l:=ah 6) (bh 6);simp only[cz,bw,Oh,t.1,t.2,NP,NT,Of]at hg;have nl:=mx (l:=[m,1,x,0,0,0,0,0,0]) (b:=b) rfl;have n9:∀ l∈[cp [m,1,x,0,0,0,0,0,0] b,al [m,1,x,0,0,0,0,0,0] b],l.length=9:=λl hl=>by
   push_cast at hl;rcases hl with rfl|rfl
   ·exact nl.1
   ·exact nl.2.1
  have key:found (ah 6,[ah 0,ah 1]++[cp [m,1,x,0,0,0,0,0,0] b,al [m,1,x,0,0,0,0,0,0] b]):=by
   rcases hx with rfl|rfl
   ·exact(Jb hm b1 b4).found
   ·exact(Ja hm b1 b4).found
  rcases hh with rfl|rfl
  ·rcases hg with rfl|rfl
   ·exact key
   ·exact s1 _ n9
  ·rcases hg with rfl|rfl
   ·exact s0 _ n9
   ·exact key
 |@draw h lo hi hh hl=>
  have t:=iT (k:=h) (l:=ah 6) (bh 6);simp only[cz,bw,Oh,t.1,t.2,NP,NT,Of]at hg;have n9:∀ l∈[cI lo,cJ hi],l.length=9:=λl hl=>by
   push_cast at hl;rcases hl with rfl|rfl
   ·exact(lg (hi:=0)).1
   ·exact(lg (lo:=0)).2
  rcases hh with rfl|rfl
  ·rcases hg with rfl|rfl
   ·exact(Cj hl).found
   ·exact s1 _ n9
  ·rcases hg with rfl|rfl
   ·exact s0 _ n9
   ·exact(Cj hl).found
 |@hold m x hm hx=>
  simp only[cz,bw,Oh,NP,bC,NT,Of]at hg;have n9:∀ l∈[[m,1,x,0,0,0,0,0,0]],l.length=9:=λl hl=>by rw[bu.mp hl];rfl
  rcases hg with rfl|rfl|rfl
  ·rcases hx with rfl|rfl
   ·exact(qK hm).found
   ·exact(wB hm).found
  ·exact s0 _ n9
  ·exact s1 _ n9
 |@call0 m g0 g1 t0 t1 hk hg0 hg1 a0 a1=>
  have t:=sX a0 a1;have v:=ku (g0:=g0) (g1:=g1);simp only[cz,ho _ _ hk,cL,if_true,bw,Oh,t.1,t.2.1,v.1,v.2.1,v.2.2.1,v.2.2.2.1,NP,bC,NT,Of]at hg;have n9:∀ l∈[ah 6,ah 7],l.length=9:=gU (by decide);have a9:∀ l∈[ah 0,ah 1]++[ah 6,ah 7],l.length=9:=gU (by decide);have s6:found (ah 6,[ah 0,ah 1]++[ah 6,ah 7]):=(lh (i:=2) a9 rfl).found;have s7:found (ah 7,[ah 0,ah 1]++[ah 6,ah 7]):=(lh (i:=3) a9 rfl).found;rcases hg with(rfl|rfl)|rfl|rfl
  ·rcases hg0 with rfl|rfl
   ·exact s0n
   ·exact s1n
  ·rcases hg1 with rfl|rfl
   ·exact s0n
   ·exact s1n
  ·split
   ·exact s7
   split
   ·exact s6
   ·exact s0 _ n9
  ·split
   ·exact s7
   split
   ·exact s6
   ·exact s1 _ n9
 |@call1 m g0 g1 t0 t1 hk hg0 h0 h1=>
  have t:=sX (t0:=t0) (t1:=t1) (by omega) (by omega);have v:=ku (g0:=g0) (g1:=g1);simp only[cz,ho _ _ hk,cL,show((1:Int)=0)=False by simp,if_false,bw,Oh,t.1,t.2.1,v.1,v.2.2.1,v.2.2.2.2,NP,bC,NT,Of]at hg;have g9:(aA 1 (aA (-1) [0,0,0,0,0,0,0,0,0] (ah g0)) (ah 6)).length=9:=jP (jP rfl (bh _)) (bh _);have n9:∀ l∈[aA 1 (aA (-1) [0,0,0,0,0,0,0,0,0] (ah g0)) (ah 6),ah 6],l.length=9:=λl hl=>by
   push_cast at hl;rcases hl with rfl|rfl
   ·exact g9
   ·exact bh 6
  have a9:∀ l∈[ah 0,ah 1]++[aA 1 (aA (-1) [0,0,0,0,0,0,0,0,0] (ah g0)) (ah 6),ah 6],l.length=9:=λl hl=>by
   rcases bC.mp hl with z|z
   ·exact qL l z
   ·exact n9 l z
  have s6:found (ah 6,[ah 0,ah 1]++[aA 1 (aA (-1) [0,0,0,0,0,0,0,0,0] (ah g0)) (ah 6),ah 6]):=(lh (i:=3) a9 rfl).found;rcases hg with rfl|rfl|rfl
  ·rcases hg0 with rfl|rfl
   ·exact s0n
   ·exact s1n
  ·rcases h1 with rfl|rfl<;>rcases h0 with rfl|rfl<;>first|exact s6|exact s0 _ n9
  ·rcases h1 with rfl|rfl<;>rcases h0 with rfl|rfl<;>first|exact s6|exact s1 _ n9
 |@turn l0 p h9 p0 pn=>
  simp only[cz,hT _ p0 pn,bw,Oh,NP,bC,NT,Of]at hg;have n1:∀ l∈[l0],l.length=9:=λl hl=>by rw[bu.mp hl];exact h9
  have n2:∀ l∈[iI l0],l.length=9:=λl hl=>by rw[bu.mp hl];exact(mx (b:=0) h9).2.2
  rcases hg with(rfl|rfl)|rfl|rfl
  ·exact s0 _ n1
  ·exact s1 _ n1
  ·exact s0 _ n2
  ·exact s1 _ n2
 |@set3 h l hh h9=>have t:=iT (k:=h) h9;simp only[cz,bw,Oh,t.1,t.2,NP,NT,Of]at hg;rcases hh with rfl|rfl<;>(rcases hg with rfl|rfl;exact s0n;exact s1n)
 |@draw3 h lo hi hh=>
  have t:=iT (k:=h) (l:=ah 6) (bh 6);simp only[cz,bw,Oh,t.1,t.2,NP,NT,Of]at hg;have n9:∀ l∈[cI lo,cJ hi],l.length=9:=λl hl=>by
   push_cast at hl;rcases hl with rfl|rfl
   ·exact(lg (hi:=0)).1
   ·exact(lg (lo:=0)).2
  rcases hh with rfl|rfl<;>(rcases hg with rfl|rfl;exact s0 _ n9;exact s1 _ n9)
inductive bP (kd:Int->Int->Prop)(n:Int):Dd->Prop
 |set0 {m:Int}(hm:0<=m):bP kd n (.set 0 [m,1,0,0,0,0,0,0,0])|part {m:Int}(hm:0<=m):bP kd n (.part 0 [m,1,0,0,0,0,0,0,0] 1)|hold {m x:Int}(hm:0<=m) (hx:x=0\/x=1):bP kd n (.hold [m,1,0,0,0,-x,0,0,0])|set1 {h:Int}{l:QS}(hh:h=1\/h=2\/h=3) (h9:l.length=9):bP kd n (.set h l)|call0 {m t0:Int}(hk:kd m 0) (h0:t0=2\/t0=3):bP kd n (.call m 0 0 t0 1)|call1 {m g1 t0 t1:Int}(hk:kd m 1) (h0:t0=0\/t0=1) (h1:t1=2\/t1=3):bP kd n (.call m 0 g1 t0 t1)|turn {l:QS}{p:Int}(h9:l.length=9) (p0:0<=p) (pn:p<=n):bP kd n (.turn l p)|draw3 {h lo hi:Int}(hh:h=2\/h=3):bP kd n (.draw h lo hi)
theorem qM:∀ l∈[e1,ah 4],l.length=9:=gU (by decide)
variable {A:QT}
theorem Mc(hA:∀ x∈A,x=e1\/x=ah 4\/x=ah 0)(hT:∀ p,0<=p->p<=n->∀ x∈T p,x=e1\/x=ah 4\/x=ah 0)(ho:∀ m k,kd m k->oath m=cL k)(h:bP kd n d):∀ g∈cz [e1,ah 4] A T oath d,found g:=by
 have se:∀ ls:QT,(∀ l∈ls,l.length=9)->found (e1,[e1,ah 4]++ls):=λls h9=>((lh (i:=0) qM rfl).mores rfl qM ls h9).found;have s4:∀ ls:QT,(∀ l∈ls,l.length=9)->found (ah 4,[e1,ah 4]++ls):=λls h9=>((lh (i:=1) qM rfl).mores (bh _) qM ls h9).found;have s0:∀ ls:QT,(∀ l∈ls,l.length=9)->found (ah 0,[e1,ah 4]++ls):=λls h9=>(qJ.mores (bh _) qM ls h9).found;have any:∀ x,(x=e1\/x=ah 4\/x=ah 0)->∀ ls:QT,(∀ l∈ls,l.length=9)->found (x,[e1,ah 4]++ls):=λx hx ls h9=>by
  rcases hx with rfl|rfl|rfl
  ·exact se ls h9
  ·exact s4 ls h9
  ·exact s0 ls h9
 have anyn:∀ x,(x=e1\/x=ah 4\/x=ah 0)->found (x,[e1,ah 4]):=λx hx=>by simpa using any x hx [] (by simp)
 have keep:aA (-1) (ah 0) (ah 4)=e1:=by decide
 intro g hg;cases h with
 |@set0 m hm=>
  have t:=iT (k:=0) (l:=[m,1,0,0,0,0,0,0,0]) rfl;have u:=sY (k:=0) (l:=[m,1,0,0,0,0,0,0,0]) rfl (by decide);obtain⟨x,hx,rfl⟩:=bB.mp hg;rcases hA x hx with rfl|rfl|rfl
  ·rw[u.2];have e:aA (-1) (if(0:Int)=0 then[m,1,0,0,0,0,0,0,0]else ah 0) (ah 4)=[m,1,0,0,0,-1,0,0,0]:=by simp[aA,dN]
   rw[e];exact(qH hm).found
  ·rw[u.1];exact anyn _ (.inr (.inl rfl))
  ·rw[t.1];exact(qG hm).found
 |@part m hm=>
  have t:=iT (k:=0) (l:=ah 6) (bh 6);have u:=sY (k:=0) (l:=ah 6) (bh 6) (by decide);have nl:=mx (l:=[m,1,0,0,0,0,0,0,0]) (b:=1) rfl;have n9:∀ l∈[cp [m,1,0,0,0,0,0,0,0] 1,al [m,1,0,0,0,0,0,0,0] 1],l.length=9:=λl hl=>by
   push_cast at hl;rcases hl with rfl|rfl
   ·exact nl.1
   ·exact nl.2.1
  obtain⟨x,hx,rfl⟩:=bB.mp hg;rcases hA x hx with rfl|rfl|rfl
  ·rw[u.2];have e:aA (-1) (if(0:Int)=0 then ah 6 else ah 0) (ah 4)=[0,0,0,0,0,-1,0,1,0]:=by decide
   rw[e];exact(qD hm).found
  ·rw[u.1];exact s4 _ n9
  ·rw[t.1];exact(qF hm).found
 |@hold m x hm hx=>
  have n9:∀ l∈[[m,1,0,0,0,-x,0,0,0]],l.length=9:=λl hl=>by rw[bu.mp hl];rfl
  rcases bC.mp hg with z|z
  ·rw[bu.mp z];rcases hx with rfl|rfl
   ·exact(qG hm).found
   ·exact(qH hm).found
  ·obtain⟨y,hy,rfl⟩:=bB.mp z;exact any y (hA y hy) _ n9
 |@set1 h l hh h9=>
  have t:=iT (k:=h) h9;have u:=sY (k:=h) h9 (by omega);obtain⟨x,hx,rfl⟩:=bB.mp hg;rcases hA x hx with rfl|rfl|rfl
  ·rw[u.2,NR (by omega),keep];exact anyn _ (.inl rfl)
  ·rw[u.1];exact anyn _ (.inr (.inl rfl))
  ·rw[t.1,NR (by omega)];exact anyn _ (.inr (.inr rfl))
 |@call0 m t0 hk h0=>
  have t:=sX (t0:=t0) (t1:=1) (by omega) (by decide);have v:=ku (g0:=0) (g1:=0);have n9:∀ l∈[ah 6,ah 7],l.length=9:=gU (by decide);simp only[cz,ho _ _ hk,cL,if_true,bw,Oh,v.1,v.2.1,v.2.2.1,v.2.2.2.1]at hg;rcases bC.mp hg with z|z
  ·push_cast at z;rcases z with rfl|rfl<;>exact anyn _ (.inr (.inr rfl))
  ·obtain⟨x,hx,rfl⟩:=bB.mp z;rcases hA x hx with rfl|rfl|rfl
   ·rw[t.2.2.2,NR (by decide),NR (by omega),keep];exact se _ n9
   ·rw[t.2.2.1];exact s4 _ n9
   ·rw[t.1,NR (by decide),NR (by omega)];exact s0 _ n9
 |@call1 m g1 t0 t1 hk h0 h1=>
  have t:=sX (t0:=t0) (t1:=t1) (by omega) (by omega);have v:=ku (g0:=0) (g1:=g1);have e6:aA 1 (aA (-1) [0,0,0,0,0,0,0,0,0] (ah 0)) (ah 6)=[0,-1,0,0,0,0,0,1,0]:=by decide
  have n9:∀ l∈[[0,-1,0,0,0,0,0,1,0],ah 6],l.length=9:=gU (by decide);have a9:∀ l∈[e1,ah 4]++[[0,-1,0,0,0,0,0,1,0],ah 6],l.length=9:=gU (by decide);simp only[cz,ho _ _ hk,cL,show((1:Int)=0)=False by simp,if_false,bw,Oh,v.1,v.2.2.1,v.2.2.2.2,e6]at hg;rcases bC.mp hg with z|z
  ·push_cast at z;rw[z];exact anyn _ (.inr (.inr rfl))
  ·obtain⟨x,hx,rfl⟩:=bB.mp z;rcases hA x hx with rfl|rfl|rfl
   ·rw[t.2.2.2,NR (by omega)];rcases h0 with rfl|rfl
    ·have e:aA (-1) (if(0:Int)=0 then ah 6 else ah 0) (ah 4)=[0,0,0,0,0,-1,0,1,0]:=by decide
     rw[e];exact qI.found
    ·rw[NR (by decide),keep];exact se _ n9
   ·rw[t.2.2.1];exact s4 _ n9
   ·rw[t.1,NR (by omega)];rcases h0 with rfl|rfl
    ·exact(lh (i:=3) a9 rfl).found
    ·rw[NR (by decide)];exact s0 _ n9
 |@turn l p h9 p0 pn=>
  have n1:∀ x∈[l],x.length=9:=λx hl=>by rw[bu.mp hl];exact h9
  have n2:∀ x∈[iI l],x.length=9:=λx hl=>by rw[bu.mp hl];exact(mx (b:=0) h9).2.2
  rcases bC.mp hg with z|z
  ·obtain⟨x,hx,rfl⟩:=bB.mp z;exact any x (hT p p0 pn x hx) _ n1
  ·obtain⟨x,hx,rfl⟩:=bB.mp z;exact any x (hA x hx) _ n2
 |@draw3 h lo hi hh=>
  have t:=iT (k:=h) (l:=ah 6) (bh 6);have u:=sY (k:=h) (l:=ah 6) (bh 6) (by omega);have n9:∀ l∈[cI lo,cJ hi],l.length=9:=λl hl=>by
   push_cast at hl;rcases hl with rfl|rfl
   ·exact(lg (hi:=0)).1
   ·exact(lg (lo:=0)).2
  obtain⟨x,hx,rfl⟩:=bB.mp hg;rcases hA x hx with rfl|rfl|rfl
  ·rw[u.2,NR (by omega),keep];exact se _ n9
  ·rw[u.1];exact s4 _ n9
  ·rw[t.1,NR (by omega)];exact s0 _ n9
def cY (c:Int):Int:=if c/8%3=0 then 0 else if c/8%3=1 then 1 else c/48%1000000001
def j0 (c:Int):QS:=((List.range 7).map λ(k:Nat)=>aT c (5*(0+(k:Int))))++[0,0]
def h_ (c count:Int):Dd:=
 if c%3=0 then .turn (j0 (c/7)) (eE c 30 (count+1))
 else if c%3=1 then .set (2+c/3%2) (j0 (c/7))
 else .draw (2+c/3%2) (aT (c/5) 31) (if aT (c/7) 32>aT (c/5) 31 then aT (c/7) 32 else aT (c/5) 31)
def fB (c:Int)(Pz:QS):Nat:=(c/48%(Pz.length:Int)).toNat
def iH (c count:Int)(Pz PK:QS):Dd:=
 if c%8=0 then .set (c/24%2) [cY c,1,1,0,0,0,0,0,0]
 else if c%8=1 then .set (c/24%2) [cY c,c/24%2,1 - c/24%2,0,0,0,0,0,0]
 else if c%8=2 then .part (c/24%2) [cY c,1,c/48%2,0,0,0,0,0,0] (1+c/96%4)
 else if c%8=3 then .draw (c/24%2) (c/48%3) (if cY c>2 then cY c else 2)
 else if c%8=4 then .hold [cY c,1,c/24%2,0,0,0,0,0,0]
 else if c%8=5 then(if PK.getD (fB c Pz) 0=0 then .call (Pz.getD (fB c Pz) 0) (c/24%2) (c/96%2) (c/192%4) ((c/192%4+1+c/768%3)%4)else .call (Pz.getD (fB c Pz) 0) (c/24%2) (c/96%4) (c/384%2) (2+c/768%2))
 else h_ (c/8) count
def iM (c count:Int)(Pz PK:QS):Dd:=
 if c%8=0\/c%8=1 then .set 0 [cY c,1,0,0,0,0,0,0,0]
 else if c%8=2 then .part 0 [cY c,1,0,0,0,0,0,0,0] 1
 else if c%8=3 then .hold [cY c,1,0,0,0,-(c/24%2),0,0,0]
 else if c%8=4 then .set 1 (j0 (c/24))
 else if c%8=5 then(if PK.getD (fB c Pz) 0=0 then .call (Pz.getD (fB c Pz) 0) 0 0 (2+c/96%2) 1 else .call (Pz.getD (fB c Pz) 0) 0 (c/96%4) (c/384%2) (2+c/768%2))
 else h_ (c/8) count
theorem uA (c:Int):0<=cY c/\cY c<=1000000000:=by
 unfold cY;split
 ·omega
 split<;>omega
theorem lE (c:Int):(j0 c).length=9:=by simp[j0]
def tp (Pz PK:QS)(m k:Int):Prop:=∃ i:Nat,Pz[i]?=some m/\PK[i]?=some k
variable {Pz:QS}
theorem Ci{PK:QS}{c:Int}(h:Pz.length=PK.length)(h1:0<Pz.length):tp Pz PK (Pz.getD (fB c Pz) 0) (PK.getD (fB c Pz) 0):=by
 have a1:=Oq (c/48) (show(Pz.length:Int)≠0 by omega);have a2:=Ot (c/48) (show 0<(Pz.length:Int)by omega);have hl:fB c Pz<Pz.length:=by unfold fB;omega
 nomatch fB c Pz,?_
 ·rw[N2,NQ hl];rfl
 ·rw[N2,NQ (by omega)];rfl
theorem LW{c:Int}(hn:0<=n):cc kd n (h_ c n):=by
 have m1:=ki (c:=c) (k:=30) (m:=n+1) (by omega);have m2:=j4 (c:=c) (k:=30) (m:=n+1) (by omega);unfold h_;split
 ·exact .turn (lE _) m1 (by omega)
 split
 ·exact .set3 (by omega) (lE _)
 ·exact .draw3 (by omega)
theorem Mb{c:Int}(hn:0<=n):bP kd n (h_ c n):=by
 have m1:=ki (c:=c) (k:=30) (m:=n+1) (by omega);have m2:=j4 (c:=c) (k:=30) (m:=n+1) (by omega);unfold h_;split
 ·exact .turn (lE _) m1 (by omega)
 split
 ·exact .set1 (by omega) (lE _)
 ·exact .draw3 (by omega)
theorem I_{PK:QS}{c:Int}(hn:0<=n)(h:Pz.length=PK.length)(h1:0<Pz.length)(hk:∀ k∈PK,k=0\/k=1):cc (tp Pz PK) n (iH c n Pz PK):=by
 have m:=(uA c).1;have ka:=Ci (c:=c) h h1;unfold iH;split
 ·exact .set1 m (by omega)
 split
 ·exact .set2 m (by omega)
 split
 ·exact .part m (by omega) (by omega) (by omega) (by omega)
 split
 ·exact .draw (by omega) (by omega)
 split
 ·exact .hold m (by omega)
 split
 ·split
  ·rename_i z;rw[z]at ka;exact .call0 ka (by omega) (by omega) (by omega) (by omega)
  ·rename_i z;obtain⟨i,e1,e2⟩:=id ka;have:=hk _ (bT e2);rw[show PK.getD (fB c Pz) 0=1 by omega]at ka;exact .call1 ka (by omega) (by omega) (by omega)
 ·exact LW hn
theorem JE{PK:QS}{c:Int}(hn:0<=n)(h:Pz.length=PK.length)(h1:0<Pz.length)(hk:∀ k∈PK,k=0\/k=1):bP (tp Pz PK) n (iM c n Pz PK):=by
 have m:=(uA c).1;have ka:=Ci (c:=c) h h1;unfold iM;split
 ·exact .set0 m
 split
 ·exact .part m
 split
 ·exact .hold m (by omega)
 split
 ·exact .set1 (.inl rfl) (lE _)
 split
 ·split
  ·rename_i z;rw[z]at ka;exact .call0 ka (by omega)
  ·rename_i z;obtain⟨i,e1,e2⟩:=id ka;have:=hk _ (bT e2);rw[show PK.getD (fB c Pz) 0=1 by omega]at ka;exact .call1 ka (by omega) (by omega)
 ·exact Mb hn
variable {h:Int}
section
variable {t g u:Addr}
theorem pd(l0:H la=none)(l1:H1 la=some (.lst (l.map V.int)))(ht:H1 t=none):ao H (upd H1 t (.tup [.str "set",.int h,.ref la])) (dv (.set h l)) (.ref t):=
 ao.tup (fp:=[la]) (ak.cstr (ak.cint (ak.cany (f:=[la]) (ai.line (aB ht _ _ _ l1)) ak.nil))) (by simp) (λb m=>by rw[bu.mp m];exact l0) aw
theorem Dc(l0:H la=none)(l1:H1 la=some (.lst (l.map V.int)))(ht:H1 t=none):ao H (upd H1 t (.tup [.str "part",.int h,.ref la,.int b])) (dv (.part h l b)) (.ref t):=
 ao.tup (fp:=[la]) (ak.cstr (ak.cint (ak.cany (f:=[la]) (ai.line (aB ht _ _ _ l1)) (ak.cint ak.nil)))) (by simp) (λb m=>by rw[bu.mp m];exact l0) aw
theorem C_(ht:H1 t=none):ao H (upd H1 t (.tup [.str "draw",.int h,.int lo,.int hi])) (dv (.draw h lo hi)) (.ref t):=
 ao.tup (fp:=[]) (ak.cstr (ak.cint (ak.cint (ak.cint ak.nil)))) (by simp) (λb m=>by cases m) aw
theorem I9 {p:Int}(l0:H la=none)(l1:H1 la=some (.lst (l.map V.int)))(ht:H1 t=none):ao H (upd H1 t (.tup [.str "turn",.ref la,.int p])) (dv (.turn l p)) (.ref t):=
 ao.tup (fp:=[la]) (ak.cstr (ak.cany (f:=[la]) (ai.line (aB ht _ _ _ l1)) (ak.cint ak.nil))) (by simp) (λb m=>by rw[bu.mp m];exact l0) aw
theorem C9 (l0:H la=none)(l1:H1 la=some (.lst (l.map V.int)))(ht:H1 t=none):ao H (upd H1 t (.tup [.str "hold",.ref la])) (dv (.hold l)) (.ref t):=
 ao.tup (fp:=[la]) (ak.cstr (ak.cany (f:=[la]) (ai.line (aB ht _ _ _ l1)) ak.nil)) (by simp) (λb m=>by rw[bu.mp m];exact l0) aw
theorem tU{m:Int}(hg:H1 g=some (.tup [.int g0,.int g1]))(hu:H1 u=some (.tup [.int t0,.int t1]))(ht:H1 t=none):ao H (upd H1 t (.tup [.str "call",.int m,.ref g,.ref u])) (dv (.call m g0 g1 t0 t1)) (.ref t):=
 ao.tup (fp:=[]) (ak.cstr (ak.cint (ak.cany (f:=[]) (ai.pair (aB ht _ _ _ hg)) (ak.cany (f:=[]) (ai.pair (aB ht _ _ _ hu)) ak.nil)))) (by simp) (λb m=>by cases m) aw
end
theorem pc{va vb:V}{la lb:QS}(s1:ae H H1)(n1:ao H H1 (nums la) va)(s2:ae H1 H2)(n2:ao H1 H2 (nums lb) vb)(hp:H2 p=none):ao H (upd H2 p (.lst [va,vb])) (bx [la,lb]) (.ref p):=
 ((bD.nil.snoc (H1:=H) (ae.refl H) s1 n1).snoc s1 s2 n2).lst (s1.trans s2) hp
theorem HE{va:V}{la:QS}(s1:ae H H1)(n1:ao H H1 (nums la) va)(hp:H1 p=none):ao H (upd H1 p (.lst [va])) (bx [la]) (.ref p):=
 (bD.nil.snoc (H1:=H) (ae.refl H) s1 n1).lst s1 hp
variable {d1 d2 d3 d4:D}{v1 v2 v3 v4:V}
theorem ak.out4(h:ak H [d1,d2,d3,d4] [v1,v2,v3,v4] fp):∃ f1 f2 f3 f4,fp=f1++(f2++(f3++f4))/\ai H d1 v1 f1/\ai H d2 v2 f2/\ai H d3 v3 f3/\ai H d4 v4 f4:=by unfold ak at h;obtain⟨_,_,f1,g1,e,rfl,h1,h⟩:=h;cases e;unfold ak at h;obtain⟨_,_,f2,g2,e,rfl,h2,h⟩:=h;cases e;unfold ak at h;obtain⟨_,_,f3,g3,e,rfl,h3,h⟩:=h;cases e;unfold ak at h;obtain⟨_,_,f4,g4,e,rfl,h4,h⟩:=h;cases e;unfold ak at h;obtain⟨_,rfl⟩:=h;exact⟨f1,f2,f3,f4,by simp,h1,h2,h3,h4⟩
theorem ak.in4{f1 f2 f3 f4:QW}(h1:ai H d1 v1 f1)(h2:ai H d2 v2 f2)(h3:ai H d3 v3 f3)(h4:ai H d4 v4 f4):ak H [d1,d2,d3,d4] [v1,v2,v3,v4] (f1++(f2++(f3++f4))):=by have:=ak.cany h1 (ak.cany h2 (ak.cany h3 (ak.cany h4 (ak.nil (H:=H)))));simpa using this
theorem bD.perm4(h:bD H H' [d3,d1,d4,d2] [v3,v1,v4,v2]):bD H H' [d1,d2,d3,d4] [v1,v2,v3,v4]:=by
 obtain⟨fp,h1,h2,h3⟩:=h;obtain⟨f3,f1,f4,f2,rfl,k3,k1,k4,k2⟩:=ak.out4 h1;have pm:(f1++(f2++(f3++f4))).Perm (f3++(f1++(f4++f2))):=List.perm_iff_count.mpr λa=>by simp only[List.count_append];omega
 exact⟨_,ak.in4 k1 k2 k3 k4,pm.nodup_iff.mpr h2,λa ha=>h3 a (pm.mem_iff.mp ha)⟩
theorem bD.perm4'(h:bD H H' [d3,d4,d1,d2] [v3,v4,v1,v2]):bD H H' [d1,d2,d3,d4] [v1,v2,v3,v4]:=by
 obtain⟨fp,h1,h2,h3⟩:=h;obtain⟨f3,f4,f1,f2,rfl,k3,k4,k1,k2⟩:=ak.out4 h1;have pm:(f1++(f2++(f3++f4))).Perm (f3++(f4++(f1++f2))):=List.perm_iff_count.mpr λa=>by simp only[List.count_append];omega
 exact⟨_,ak.in4 k1 k2 k3 k4,pm.nodup_iff.mpr h2,λa ha=>h3 a (pm.mem_iff.mp ha)⟩
def jA (k:Int):QT:=if k=0 then[ah 0,ah 1]else[e1,ah 4]
def jZ (k c count:Int)(Pz PK:QS):Dd:=if k=0 then iH c count Pz PK else iM c count Pz PK
def uQ (k:Int)(cells Pz PK:QS):Cr:=⟨(cL k).1,(cL k).2,cells.map λc=>jZ k c cells.length Pz PK,cells.map λ_=>jA k⟩
def lM (c:Cr):D:=.lst [bx c.PJ,bx c.PB,.lst (c.PD.map dv),.lst (c.PF.map bx)]
theorem nZ:∀{l m:QS},l.Nodup->(∀ x∈l,x∈m)->l.length<=m.length
 |[],m,_,_=>OF _|x::l,m,nd,h=>by obtain⟨n1,n2⟩:=Og.mp nd;have hx:=h x NW;have ih:=nZ (l:=l) (m:=m.erase x) n2 λy hy=>(List.mem_erase_of_ne (λz=>n1 (by rw[<-z];exact hy))).mpr (h y (NZ _ hy));rw[List.length_erase_of_mem hx]at ih;have:0<m.length:=List.length_pos_of_mem hx;rw[N_];omega
def lD (s:Int)(j:Nat):QS:=(List.range j).map λ(i:Nat)=>(s+(i:Int))%100
theorem LV{j:Nat}(h:j<=100):(lD s j).Nodup:=by unfold lD List.Nodup;rw[List.pairwise_map];refine List.Pairwise.imp_of_mem (λ{a b} ha hb hab=>?_) List.pairwise_lt_range;have:=List.mem_range.mp hb;omega
theorem JD{j:Nat}(h:j<=100)(hm:∀ x∈lD s j,x∈Pz):j<=Pz.length:=by have:=nZ (LV h) hm;simpa[lD]using this
def de (v1 v2 v3 v4:V):List (Str×V):=au "notes" v4 (au "deeds" v3 (au "leaves" v2 (au "needs" v1 [])))
theorem jM (v1 v2 v3 v4:V):(de v1 v2 v3 v4).lookup ("needs":Str)=some v1:=by unfold de;rw[fW,NR (by decide+kernel),fW,NR (by decide+kernel),fW,NR (by decide+kernel),fW,NU rfl]
theorem j9 (v1 v2 v3 v4:V):(de v1 v2 v3 v4).lookup ("leaves":Str)=some v2:=by unfold de;rw[fW,NR (by decide+kernel),fW,NR (by decide+kernel),fW,NU rfl]
theorem ip (v1 v2 v3 v4:V):(de v1 v2 v3 v4).lookup ("deeds":Str)=some v3:=by unfold de;rw[fW,NR (by decide+kernel),fW,NU rfl]
theorem lC (v1 v2 v3 v4:V):(de v1 v2 v3 v4).lookup ("notes":Str)=some v4:=by unfold de;rw[fW,NU rfl]
theorem eN{f:Str}{fs:List (Str×V)}{n:Nat}(h:fs.length<n):(au f v fs).length<n+1:=O6 (x_ f v fs) (by omega)
def Cg (PJ PB:QT)(PD:List D)(PF:QU):List D:=[bx PJ,bx PB,.lst PD,.lst (PF.map bx)]
def fh (K:Fg)(cC:Addr)(H:Hp)(p:Addr)(PJ PB:QT)(PD:List D)(PF:QU):Prop:=
 ∃ dx w1 w2 w3 w4,H p=some (.ins cC dx (de w1 w2 w3 w4))/\aq K H (bx PJ) w1/\aq K H (bx PB) w2/\aq K H (.lst PD) w3/\aq K H (.lst (PF.map bx)) w4
variable {K:Fg}
theorem qi{w1 w2 w3 w4:V}(h:av K H [d1,d2,d3,d4] [w1,w2,w3,w4]):aq K H d1 w1/\aq K H d2 w2/\aq K H d3 w3/\aq K H d4 w4:=by unfold av at h;obtain⟨_,_,e,h1,h⟩:=h;cases e;unfold av at h;obtain⟨_,_,e,h2,h⟩:=h;cases e;unfold av at h;obtain⟨_,_,e,h3,h⟩:=h;cases e;unfold av at h;obtain⟨_,_,e,h4,h⟩:=h;cases e;exact⟨h1,h2,h3,h4⟩
variable {cC:Addr}
theorem fh.same{PD:List D}(e:ae H H')(h:fh K cC H p PJ PB PD PF):fh K cC H' p PJ PB PD PF:=by obtain⟨dx,w1,w2,w3,w4,h0,h1,h2,h3,h4⟩:=h;exact⟨dx,w1,w2,w3,w4,e _ _ h0,aq.same e _ h1,aq.same e _ h2,aq.same e _ h3,aq.same e _ h4⟩
def iV (K:Fg)(cC:Addr)(H:Hp)(p:Addr)(PJ PB:QT)(PD:List Dd)(PF:QU):Prop:=
 fh K cC H p PJ PB (PD.map dv) PF/\∃ dx w1 w2 b3 w4 P9,H p=some (.ins cC dx (de w1 w2 (.ref b3) w4))/\H b3=some (.lst P9)/\lj H PD P9
theorem iV.same(e:ae H H')(h:iV K cC H p PJ PB PD PF):iV K cC H' p PJ PB PD PF:=by obtain⟨h0,dx,w1,w2,b3,w4,P9,h1,h2,h3⟩:=h;exact⟨h0.same e,dx,w1,w2,b3,w4,P9,e _ _ h1,e _ _ h2,h3.same e⟩
def calls (K:Fg)(cC:Addr)(H:Hp)(kvs:List (bp×V))(oath:df):Dd->Prop
 |.call m _ _ _ _=>∃ o PD ns,aI kvs (.inl m)=some (.ref o)/\fh K cC H o (oath m).1 (oath m).2 PD ns/\fY (oath m).1 (oath m).2 PD.length ns|_=>True
theorem calls.same(h:calls K cC H kvs oath d)(e:ae H H'):calls K cC H' kvs oath d:=by
 cases d with
 |call m g0 g1 t0 t1=>obtain⟨o,ds,ns,h1,h2,h3⟩:=h;exact⟨o,ds,ns,h1,h2.same e,h3⟩
 |_=>trivial
theorem fh.nod{PD:List D}(e:gE H H')(h:fh K cC H p PJ PB PD PF):fh K cC H' p PJ PB PD PF:=by obtain⟨dx,w1,w2,w3,w4,h0,h1,h2,h3,h4⟩:=h;exact⟨dx,w1,w2,w3,w4,e _ _ h0 (λ_ z=>by cases z),aq.sq e.sq _ h1,aq.sq e.sq _ h2,aq.sq e.sq _ h3,aq.sq e.sq _ h4⟩
def sW (ls:QT)(ws:QS):Prop:=∀(i:Nat) (l:QS) (w:Int),ls[i]?=some l->ws[i]?=some w->∀ n∈l,gb n w
theorem kc {n:Nat}(h:n<=1000):n<sizeLine:=O6 h (by decide)
structure Cr.Nine (c:Cr):Prop where
 n9:∀ l∈c.PJ,l.length=9
 l9:∀ l∈c.PB,l.length=9
 d9:∀ d∈c.PD,gc d
 o9:∀ ls∈c.PF,ls.length<=100/\∀ l∈ls,l.length=9
 n:c.PJ.length<=100
 l:c.PB.length<=100
 d:c.PD.length<=100
 o:c.PF.length<=100
def Cr.right (c:Cr):Bool:=gm c.PJ c.PB c.PD c.PF
structure Cr.Rt (c:Cr):Prop where
 nine:c.Nine
 r:c.right=true
variable {c:Cr}
theorem Cr.Rt.parts(h:c.Rt):c.PJ.length<=2/\c.PB.length<=2/\(1<=c.PD.length/\c.PD.length<=8)/\c.PF.length=c.PD.length/\(∀ ls∈c.PF,ls.length<=2)/\∀ d∈c.PD,b_ (c.PD.length:Int) d=true:=by have r:gm c.PJ c.PB c.PD c.PF=true:=h.r;simp only[gm,j3,mz,my,iN,cD,NS,NY,ON,On,OM,id_eq]at r;obtain⟨⟨⟨a1,_⟩,a2,_⟩,⟨⟨b1,b2⟩,b3⟩,c1,c2⟩:=r;exact⟨by omega,by omega,⟨by omega,by omega⟩,by omega,λls hl=>by have:=(c2 ls hl).1;omega,b3⟩
theorem kQ{spots:List Nat}(h:eB spots l=true):Sm l:=λn hn=>by simp only[eB,iJ,cD,NS,NY,ON,On,OM,id_eq]at h;have:=h.1 n hn;constructor<;>omega
theorem Fu{n:Nat}(h9:gc d)(h:b_ (n:Int) d=true):oE n d:=by
 cases d with
 |set hd l=>simp only[b_,NS]at h;exact⟨h9,kQ h.2⟩
 |part hd l b=>simp only[b_,cD,NS,NY]at h;exact⟨h9,by omega,by omega⟩
 |draw hd lo hi=>trivial
 |turn l p=>simp only[b_,cD,NS,NY]at h;exact⟨h9,h.2.1,h.2.2⟩
 |hold l=>exact h9
 |call m g0 g1 t0 t1=>trivial
theorem Cr.Rt.dok(h:c.Rt):∀ d∈c.PD,oE c.PD.length d:=λd hd=>Fu (h.nine.d9 d hd) (h.parts.2.2.2.2.2 d hd)
theorem Cr.Rt.called(h:c.Rt){m:Int}(hm:m∈dB c.PD):0<=m/\m<=99:=by
 obtain⟨d,hd,e⟩:=Ej hm;have k:=h.parts.2.2.2.2.2 d hd;cases d with
 |call n g0 g1 t0 t1=>
  have e:n=m:=by injection e
  subst e;simp only[b_,cD,NS,NY]at k;exact k.2.1
 |_=>cases e
theorem Cr.Rt.calledMost(h:c.Rt):∀ m∈dB c.PD,m.natAbs<fL:=λm hm=>by have:=h.called hm;unfold fL;omega
theorem Cr.Rt.good(h:c.Rt):fY c.PJ c.PB c.PD.length c.PF where
 dn:=h.parts.2.2.2.1.symm
 d:=h.nine.d
 n:=h.nine.n
 l:=h.nine.l
 n9:=h.nine.n9
 l9:=h.nine.l9
 o:=h.nine.o9
def kY (cr:Int->Cr):df:=λm=>((cr m).PJ,(cr m).PB)
def Cr.gs (c:Cr)(cr:Int->Cr):List Du:=li c.PJ c.PB c.PD c.PF (kY cr)
def nL (g:Du):Prop:=g.1.length=9/\g.2.length<=4/\∀ l∈g.2,l.length=9
theorem mv(h:∀ x∈E,x.length=9):(bo l E).length=9:=by
 unfold bo;have:=i5 (ls:=E) (ws:=l.tail) h;cases e:bZ E l.tail with
 |nil=>rw[e]at this;simp at this
 |cons x r=>rw[e]at this;simpa[og]using this
theorem LU{N:QT}{n:Nat}(hN:N.length<=2/\∀ l∈N,l.length=9)(hA:A.length<=2/\∀ l∈A,l.length=9)(hT:∀ p,(T p).length<=2/\∀ l∈T p,l.length=9)(ok:oE n d)(ho:∀ m,ic d=some m->(oath m).1.length<=2/\(oath m).2.length<=2):
  (cz N A T oath d).length<=4/\∀ g∈cz N A T oath d,nL g:=by
 have two:∀{x y:QS}{g:QS},g.length=9->x.length=9->y.length=9->nL (g,N++[x,y]):=λ{x y g} hg hx hy=>⟨hg,by simp;omega,λl hl=>by
  simp only[bC,NP,NT,Of]at hl;rcases hl with z|z|z
  ·exact hN.2 l z
  ·rw[z];exact hx
  ·rw[z];exact hy⟩
 have one:∀{x:QS}{g:QS},g.length=9->x.length=9->nL (g,N++[x]):=λ{x g} hg hx=>⟨hg,by simp;omega,λl hl=>by
  simp only[bC,NP,NT,Of]at hl;rcases hl with z|z
  ·exact hN.2 l z
  ·rw[z];exact hx⟩
 have nil:∀{g:QS},g.length=9->nL (g,N):=λhg=>⟨hg,by show N.length<=4;omega,hN.2⟩;have b6:=bh 6;have b7:=bh 7;cases d with
 |set h l=>refine⟨by simp only[cz,aV];omega,λg hg=>?_⟩;obtain⟨x,hx,rfl⟩:=bB.mp hg;exact nil (mv (iB ok.1))
 |part h l b=>refine⟨by simp only[cz,aV];omega,λg hg=>?_⟩;obtain⟨x,hx,rfl⟩:=bB.mp hg;exact two (mv (iB b6)) (mx ok.1).1 (mx ok.1).2.1
 |draw h lo hi=>refine⟨by simp only[cz,aV];omega,λg hg=>?_⟩;obtain⟨x,hx,rfl⟩:=bB.mp hg;exact two (mv (iB b6)) (lg (hi:=hi)).1 (lg (lo:=lo)).2
 |turn l p=>
  refine⟨by have:=(hT p).1;simp only[cz,N4,aV];omega,λg hg=>?_⟩;rcases bC.mp hg with hg|hg
  ·obtain⟨x,hx,rfl⟩:=bB.mp hg;exact one ((hT p).2 x hx) ok.1
  ·obtain⟨x,hx,rfl⟩:=bB.mp hg;exact one (hA.2 x hx) (mx (b:=0) ok.1).2.2
 |hold l=>
  refine⟨by simp only[cz,N4,aV,N_,List.length_nil];omega,λg hg=>?_⟩;rcases bC.mp hg with hg|hg
  ·rw[bu.mp hg];exact nil ok
  ·obtain⟨x,hx,rfl⟩:=bB.mp hg;exact one (hA.2 x hx) ok
 |call m g0 g1 t0 t1=>
  have o2:=ho m rfl;refine⟨by simp only[cz,N4,aV];omega,λg hg=>?_⟩;rcases bC.mp hg with hg|hg
  ·obtain⟨x,hx,rfl⟩:=bB.mp hg;exact nil (mv (gP (bh g0) (bh g1)))
  ·obtain⟨x,hx,rfl⟩:=bB.mp hg;refine⟨mv (gP b6 b7),?_,λl hl=>?_⟩
   ·simp only[N4,aV];omega
   ·rcases bC.mp hl with z|z
    ·exact hN.2 l z
    ·obtain⟨y,_,rfl⟩:=bB.mp z;exact mv (gP (bh g0) (bh g1))
theorem Ey{n:Nat}(hD:∀ p,(aG PB PF p).length<=2/\∀ l∈aG PB PF p,l.length=9):∀(ds:List Dd) (p:Nat),(∀ d∈ds,oE n d)->(∀ d∈ds,∀ m,ic d=some m->(oath m).1.length<=2/\(oath m).2.length<=2)->(fR PB PF oath ds p).length<=4*ds.length/\∀ g∈fR PB PF oath ds p,nL g
 |[],_,_,_=>⟨NV _,λg hg=>by cases hg⟩|d::ds,p,h,ho=>by
  have ih:=Ey hD ds (p+1) (λe he=>h e (NZ _ he)) λe he=>ho e (NZ _ he);have h1:=LU (d:=d) (hD p) (hD ((p:Int)+1)) hD (h d NW) (ho d NW);refine⟨?_,λg hg=>?_⟩
  ·show(cz _ _ _ _ d++fR PB PF oath ds (p+1)).length<=_;rw[N4,N_];omega
  ·rcases bC.mp (show g∈cz _ _ _ _ d++fR PB PF oath ds (p+1)from hg)with z|z
   ·exact h1.2 g z
   ·exact ih.2 g z
variable {cr:Int->Cr}
theorem Cr.Rt.gs(h:c.Rt)(ho:∀ m∈dB c.PD,(cr m).Rt):(c.gs cr).length<=34/\∀ g∈c.gs cr,nL g:=by
 have hD:∀ p,(aG c.PB c.PF p).length<=2/\∀ l∈aG c.PB c.PF p,l.length=9:=λp=>⟨HF h.parts.2.1 h.parts.2.2.2.2.1 p,(h.good.due p).2⟩;have k:=Ey (oath:=kY cr) hD c.PD 0 h.dok λd hd m e=>by have:=ho m (OI.mpr ⟨d,hd,e⟩);exact⟨this.parts.1,this.parts.2.1⟩
 have d8:=h.parts.2.2.1.2;have h0:=(hD 0).1;unfold Cr.gs li k_;refine⟨by rw[N4,aV];omega,λg hg=>?_⟩;rcases bC.mp hg with z|z
 ·obtain⟨x,_,rfl⟩:=bB.mp z;exact⟨mv zR,by show c.PJ.length<=4;have:=h.parts.1;omega,h.nine.n9⟩
 ·exact k.2 g z
def dI (cC:Addr)(H:Hp)(p:Addr)(c:Cr)(fp:QW):Prop:=∃ dx w1 w2 w3 w4 f,fp=p::f/\H p=some (.ins cC dx (de w1 w2 w3 w4))/\ak H (Cg c.PJ c.PB (c.PD.map dv) c.PF) [w1,w2,w3,w4] f
theorem dI.at(h:dI cC H p c fp):fh K cC H p c.PJ c.PB (c.PD.map dv) c.PF:=by obtain⟨dx,w1,w2,w3,w4,f,rfl,hp,r⟩:=h;obtain⟨h1,h2,h3,h4⟩:=qi (ak.reps (K:=K) _ r);exact⟨dx,w1,w2,w3,w4,hp,h1,h2,h3,h4⟩
theorem dI.t(h9:∀ d∈c.PD,gc d)(h:dI cC H p c fp):iV K cC H p c.PJ c.PB c.PD c.PF:=by nomatch h.at;obtain⟨dx,w1,w2,w3,w4,f,rfl,hp,r⟩:=h;obtain⟨x1,x2,x3,x4,f1,f2,f3,f4,e,g1,g2,g3,g4⟩:=vH r;cases e;obtain⟨b3,dvs',r3,rfl,h3',z3⟩:=ai.lso g3;refine⟨dx,w1,w2,b3,w4,dvs',hp,h3',by simpa using z3.length,λi d x q1 q2=>?_⟩;obtain⟨f,hf⟩:=ak.item z3 i (dv d) x (by rw[aR,q1];rfl) q2;exact wl (wX (h9 d (bT q1))) hf
theorem dI.has(h:dI cC H p c fp):∀ b∈fp,∃ o,H b=some o:=λb hb=>by
 obtain⟨dx,w1,w2,w3,w4,f,rfl,hp,r⟩:=h;rcases NP.mp hb with rfl|hb
 ·exact⟨_,hp⟩
 ·exact ak.has _ r b hb
theorem dI.hasN(h:dI cC H p c fp):∀ b∈fp,∃ o,H b=some o/\∀ kvs,o≠HO.dK kvs:=λb hb=>by
 obtain⟨dx,w1,w2,w3,w4,f,rfl,hp,r⟩:=h;rcases NP.mp hb with rfl|hb
 ·exact⟨_,hp,λ_ z=>by cases z⟩
 ·obtain⟨xs,e⟩:=ak.hasL _ r b hb;exact⟨_,e,λ_ z=>by cases z⟩
theorem dI.frame(tk:cv H H')(k:∀ b∈fp,∀ o,H b=some o->H' b=some o)(h:dI cC H p c fp):dI cC H' p c fp:=by obtain⟨dx,w1,w2,w3,w4,f,rfl,hp,r⟩:=h;refine⟨dx,w1,w2,w3,w4,f,rfl,k p NW _ hp,ak.frame tk _ (λb hb=>?_) r⟩;obtain⟨o,ho⟩:=ak.has _ r b hb;rw[ho];exact k b (NZ _ hb) o ho
theorem dI.same(e:ae H H')(h:dI cC H p c fp):dI cC H' p c fp:=h.frame e.tups λb _ o ho=>e b o ho
theorem dI.nod(e:gE H H')(h:dI cC H p c fp):dI cC H' p c fp:=by obtain⟨dx,w1,w2,w3,w4,f,rfl,hp,r⟩:=h;exact⟨dx,w1,w2,w3,w4,f,rfl,e _ _ hp (λ_ z=>by cases z),ak.sq e.sq _ r⟩
def ni (cC:Addr)(H:Hp)(cr:Int->Cr)(fp:QW)(m:Int)(v:V):Prop:=∃ p f,v=.ref p/\dI cC H p (cr m) f/\∀ b∈f,b∈fp
structure cn (cH cC:Addr)(H:Hp)(h la va:Addr)(ks:QS)(cr:Int->Cr)(vs:QS)(fp:QW):Prop where
 ins:∃ dx,H h=some (.ins cH dx (iz la va))
 laid:∃ kvs,H la=some (.dK kvs)/\dk (ni cC H cr fp) kvs ks
 vou:∃ kvs,H va=some (.dK kvs)/\dk (λ_ v=>v=.bl true) kvs vs
 ne:la≠va
 rt:∀ m∈ks,(cr m).Rt
 few:ks.length<=60
 sub:∀ m∈vs,m∈ks
 has:∀ b∈fp,∃ o,H b=some o/\∀ kvs,o≠HO.dK kvs
variable {cH:Addr}{vs:QS}
section
variable {h:Addr}
theorem cn.frame (A:cn cH cC H h la va ks cr vs fp)(tk:cv H H')(k:∀ b,b∈h::la::va::fp->∀ o,H b=some o->H' b=some o):cn cH cC H' h la va ks cr vs fp where
 ins:=by obtain⟨dx,e⟩:=A.ins;exact⟨dx,k _ (by simp) _ e⟩
 laid:=by
  obtain⟨kvs,e,q⟩:=A.laid
  exact⟨kvs,k _ (by simp) _ e,q.mono λm v ⟨p,f,e1,e2,e3⟩=>⟨p,f,e1,e2.frame tk λb hb o ho=>k b (by simp[e3 b hb]) o ho,e3⟩⟩
 vou:=by obtain⟨kvs,e,q⟩:=A.vou;exact⟨kvs,k _ (by simp) _ e,q⟩
 ne:=A.ne
 rt:=A.rt
 few:=A.few
 sub:=A.sub
 has:=λb hb=>by obtain⟨o,e,n⟩:=A.has b hb;exact⟨o,k b (by simp[hb]) o e,n⟩
theorem cn.same (A:cn cH cC H h la va ks cr vs fp)(e:ae H H'):cn cH cC H' h la va ks cr vs fp:=A.frame e.tups λb _ o ho=>e b o ho
theorem cn.putV{vs':QS}(A:cn cH cC H h la va ks cr vs fp)(q:dk (λ_ v=>v=.bl true) kvs vs')(s:∀ m∈vs',m∈ks):cn cH cC (upd H va (.dK kvs)) h la va ks cr vs' fp where
 ins:=by
  obtain⟨dx,z⟩:=A.ins
  obtain⟨kv0,hv,_⟩:=A.vou
  exact⟨dx,by rw[aE (tf z hv (by intro w;cases w))];exact z⟩
 laid:=by
  obtain⟨kv0,hv,_⟩:=A.vou
  obtain⟨kl,z,q⟩:=A.laid
  exact⟨kl,by rw[aE A.ne];exact z,q.mono λm v ⟨p,f,e1,e2,e3⟩=>⟨p,f,e1,e2.nod (pz hv),e3⟩⟩
 vou:=⟨kvs,aw,q⟩
 ne:=A.ne
 rt:=A.rt
 few:=A.few
 sub:=s
 has:=λb hb=>by
  obtain⟨kv0,hv,_⟩:=A.vou
  obtain⟨o,z,n⟩:=A.has b hb
  exact⟨o,pz hv b o z n,n⟩
theorem cn.nd (A:cn cH cC H h la va ks cr vs fp):ks.Nodup:=by obtain⟨_,_,q⟩:=A.laid;exact q.2.1
theorem cn.vfew (A:cn cH cC H h la va ks cr vs fp):vs.length<=60:=by obtain⟨_,_,q⟩:=A.vou;have:=nZ q.2.1 A.sub;have:=A.few;omega
end
theorem bc.putDict(e:bc S H H'){T:QW}(h:∀ b∈S,b∈T):bc T H H':=λb o n z=>e b o (λw=>n (h b w)) z
variable {dx:Addr}
theorem cn.start{h:Addr}(h1:H h=some (.ins cH dx (iz la va)))(h2:H la=some (.dK []))(h3:H va=some (.dK []))(ne:la≠va):cn cH cC H h la va [] cr [] [] where
 ins:=⟨dx,h1⟩
 laid:=⟨[],h2,dk.nil⟩
 vou:=⟨[],h3,dk.nil⟩
 ne:=ne
 rt:=λm hm=>by cases hm
 few:=OF _
 sub:=λm hm=>by cases hm
 has:=λm hm=>by cases hm
variable {ha:Addr}
theorem JC{u x:HO}(ha0:H ha=none)(dx0:H dx=none)(o1:bc [ha] (upd (upd H dx u) ha x) H1):ae H H1:=λb o e=>o1 b o (by simp[bX e ha0]) (by rw[aE (bX e ha0),aE (bX e dx0)];exact e)
theorem cn.congr{h:Addr}{cr':Int->Cr}(A:cn cH cC H h la va ks cr vs fp)(e:∀ m∈ks,cr m=cr' m):cn cH cC H h la va ks cr' vs fp where
 ins:=A.ins
 laid:=by
  obtain⟨kvs,h1,q⟩:=A.laid
  refine⟨kvs,h1,q.1,q.2.1,λm hm=>?_⟩
  obtain⟨v,e1,p,f,e2,e3,e4⟩:=q.2.2 m hm
  exact⟨v,e1,p,f,e2,by rw[<-e m hm];exact e3,e4⟩
 vou:=A.vou
 ne:=A.ne
 rt:=λm hm=>by rw[<-e m hm];exact A.rt m hm
 few:=A.few
 sub:=A.sub
 has:=A.has
def fK (ks:QS)(cr:Int->Cr)(n:Int):QS:=if n∈ks then dB (cr n).PD else[]
def iu (cr:Int->Cr)(n:Int)(c:Cr):Int->Cr:=λm=>if m=n then c else cr m
theorem Ex:∀{a b:QT},dm (a.map nums) (b.map nums)=decide (a=b)
 |[],[]=>by unfold List.map dm;rfl|[],_::_=>by rw[bw];unfold List.map dm;simp|_::_,[]=>by rw[bw];unfold List.map dm;simp|m::ms,n::ns=>by rw[bw,bw];unfold dm nums aF;rw[Ex,xM,OJ];simp
theorem Ei {a b:QT}:aF (bx a) (bx b)=decide (a=b):=by unfold bx aF;exact Ex
noncomputable def fm:Option (Int×QS)->D
 |none=>.non|some (w,ws)=>.tup [.int w,nums ws]
variable {a:Addr}{Q:VK}
theorem Bm(h:ar K H a (l.map V.int))(q:Q (.bl (decide (n∈l))) H):uN K false (.int n) (.ref a) H Q:=zJ (.inl h) rfl (Lg _) (by rw[Dh];exact q)
theorem Ew{m:Int}(nd:l.Nodup)(e:l[i]?=some m):m∉l.take i:=by obtain⟨hi,rfl⟩:=dF.mp e;intro z;rw[<-List.take_append_drop i l,O0 hi]at nd;exact(Oz.mp nd).2.2 _ z _ NW rfl
theorem v6{a c d e f g:Int}(h:∀ x∈[a,b,c,d,e,f,g],-1000000000<=x/\x<=1000000000):eB [7,8] [a,b,c,d,e,f,g,0,0]=true:=by simp only[NP,NT,Of,forall_eq_or_imp,forall_eq]at h;simp[eB,iJ,cD];omega
theorem v5 (c:Int):eB [7,8] (j0 c)=true:=by refine v6 (a:=aT c (5*(0+((0:Nat):Int)))) (b:=aT c (5*(0+((1:Nat):Int)))) (c:=aT c (5*(0+((2:Nat):Int)))) (d:=aT c (5*(0+((3:Nat):Int)))) (e:=aT c (5*(0+((4:Nat):Int)))) (f:=aT c (5*(0+((5:Nat):Int)))) (g:=aT c (5*(0+((6:Nat):Int)))) λx hx=>?_;push_cast at hx;rcases hx with rfl|rfl|rfl|rfl|rfl|rfl|rfl<;>exact xv _ _
theorem tT{c:Int}(hn:0<=n):b_ n (h_ c n)=true/\gc (h_ c n):=by
 unfold h_;split
 ·have k1:=ki (c:=c) (k:=30) (m:=n+1) (by omega);have k2:=j4 (c:=c) (k:=30) (m:=n+1) (by omega);refine⟨?_,lE _⟩;simp only[b_,v5,cD,Oi,NS,NY];omega
 split
 ·refine⟨?_,lE _⟩;simp only[b_,ci,v5,cD,OD,NS,NY];omega
 ·have k1:=xv (c/5) 31;have k2:=xv (c/7) 32;refine⟨?_,trivial⟩;simp only[b_,ci,iJ,cD,NS,NY];split<;>omega
theorem vZ(h:i<l.length):l.getD i 0∈l:=by rw[N2,NQ h];exact Om h
theorem B7{c:Int}(h:0<Pz.length):fB c Pz<Pz.length:=by have a1:=Oq (c/48) (show((Pz.length:Nat):Int)≠0 by omega);have a2:=Ot (c/48) (show(0:Int)<(Pz.length:Int)by omega);unfold fB;omega
theorem Lu{c:Int}{PK:QS}(hn:0<=n)(h0:0<Pz.length)(nb:∀ m∈Pz,0<=m/\m<100):b_ n (iH c n Pz PK)=true/\gc (iH c n Pz PK)/\∀ m,ic (iH c n Pz PK)=some m->m∈Pz:=by
 have hm:=uA c;have hl:∀{x y:Int},0<=x/\x<=1->0<=y/\y<=1->eB [7,8] [cY c,x,y,0,0,0,0,0,0]=true:=λ{x y} hx hy=>v6 λz hz=>by push_cast at hz;rcases hz with rfl|rfl|rfl|rfl|rfl|rfl|rfl<;>omega
 have mm:=vZ (B7 (c:=c) h0);have mb:=nb _ mm;unfold iH;split
 ·refine⟨?_,rfl,λm e=>by cases e⟩;simp only[b_,ci,cD,hl (x:=1) (y:=1) (by omega) (by omega),OD,NS,NY];omega
 split
 ·refine⟨?_,rfl,λm e=>by cases e⟩;simp only[b_,ci,cD,hl (x:=c/24%2) (y:=1 - c/24%2) (by omega) (by omega),OD,NS,NY];omega
 split
 ·refine⟨?_,rfl,λm e=>by cases e⟩;simp only[b_,ci,cD,hl (x:=1) (y:=c/48%2) (by omega) (by omega),Oi,NS,NY];omega
 split
 ·refine⟨?_,trivial,λm e=>by cases e⟩;simp only[b_,ci,iJ,cD,NS,NY];split<;>omega
 split
 ·refine⟨?_,rfl,λm e=>by cases e⟩;simp only[b_,hl (x:=1) (y:=c/24%2) (by omega) (by omega)]
 split
 ·split
  ·refine⟨?_,trivial,λm e=>by injection e with e;rw[<-e];exact mm⟩;simp only[b_,ci,cD,OO,O4,id,OD,NS,Bool.not_eq_true',NY,decide_eq_false_iff_not];omega
  ·refine⟨?_,trivial,λm e=>by injection e with e;rw[<-e];exact mm⟩;simp only[b_,ci,cD,OO,O4,id,OD,NS,Bool.not_eq_true',NY,decide_eq_false_iff_not];omega
 ·refine⟨(tT hn).1,(tT hn).2,λm e=>?_⟩;unfold h_ at e;split at e
  ·cases e
  split at e<;>cases e
theorem Ma{c:Int}{PK:QS}(hn:0<=n)(h0:0<Pz.length)(nb:∀ m∈Pz,0<=m/\m<100):b_ n (iM c n Pz PK)=true/\gc (iM c n Pz PK)/\∀ m,ic (iM c n Pz PK)=some m->m∈Pz:=by
 have hm:=uA c;have hl:∀{x:Int},-1<=x/\x<=1->eB [7,8] [cY c,1,0,0,0,x,0,0,0]=true:=λ{x} hx=>v6 λz hz=>by push_cast at hz;rcases hz with rfl|rfl|rfl|rfl|rfl|rfl|rfl<;>omega
 have mm:=vZ (B7 (c:=c) h0);have mb:=nb _ mm;unfold iM;split
 ·refine⟨?_,rfl,λm e=>by cases e⟩;simp only[b_,ci,cD,hl (x:=0) (by omega),OD,NS,NY];omega
 split
 ·refine⟨?_,rfl,λm e=>by cases e⟩;simp only[b_,ci,cD,hl (x:=0) (by omega),Oi,NS,NY];omega
 split
 ·refine⟨?_,rfl,λm e=>by cases e⟩;simp only[b_,hl (x:=-(c/24%2)) (by omega)]
 split
 ·refine⟨?_,lE _,λm e=>by cases e⟩;simp only[b_,ci,cD,v5,OD,NS,NY];omega
 split
 ·split
  ·refine⟨?_,trivial,λm e=>by injection e with e;rw[<-e];exact mm⟩;simp only[b_,ci,cD,OO,O4,id,OD,NS,Bool.not_eq_true',NY,decide_eq_false_iff_not];omega
  ·refine⟨?_,trivial,λm e=>by injection e with e;rw[<-e];exact mm⟩;simp only[b_,ci,cD,OO,O4,id,OD,NS,Bool.not_eq_true',NY,decide_eq_false_iff_not];omega
 ·refine⟨(tT hn).1,(tT hn).2,λm e=>?_⟩;unfold h_ at e;split at e
  ·cases e
  split at e<;>cases e
theorem Eu{k c:Int}{PK:QS}(hn:0<=n)(h0:0<Pz.length)(nb:∀ m∈Pz,0<=m/\m<100):b_ n (jZ k c n Pz PK)=true/\gc (jZ k c n Pz PK)/\∀ m,ic (jZ k c n Pz PK)=some m->m∈Pz:=by
 unfold jZ;split
 ·exact Lu hn h0 nb
 ·exact Ma hn h0 nb
structure jV (many size:Int)(Pz PK:QS)(cells:Nat->QS):Prop where
 n:Pz.length=many.toNat
 k:PK.length=many.toNat
 nd:Pz.Nodup
 nb:∀ n∈Pz,0<=n/\n<100
 kb:∀ k∈PK,k=0\/k=1
 c:∀ i,1<=(cells i).length/\(cells i).length<=size.toNat
def gQ (Pz PK:QS)(cells:Nat->QS)(k:Nat):Cr:=uQ (PK.getD k 0) (cells k) Pz PK
theorem pb (k:Int):j3 (cL k).1 (cL k).2=true/\(∀ l∈(cL k).1,l.length=9)/\(∀ l∈(cL k).2,l.length=9)/\(cL k).1.length<=2/\(cL k).2.length<=2:=by unfold cL;split<;>decide
theorem xf (k:Int):iN [7,8] (jA k)=true/\(∀ l∈jA k,l.length=9)/\(jA k).length<=2:=by unfold jA;split<;>decide
theorem qh{k:Int}{no:QU}(h1:1<=ds.length)(h8:ds.length<=8)(hd:∀ d∈ds,b_ (ds.length:Int) d=true/\gc d)(hn:no.length=ds.length)(ho:∀ ls∈no,ls=jA k):Cr.Rt ⟨(cL k).1,(cL k).2,ds,no⟩ where
 nine:=⟨(pb k).2.1,(pb k).2.2.1,λd m=>(hd d m).2,λls m=>by rw[ho ls m];exact⟨by have:=(xf k).2.2;omega,(xf k).2.1⟩,by have:=(pb k).2.2.2.1;show(cL k).1.length<=100;omega,by have:=(pb k).2.2.2.2;show(cL k).2.length<=100;omega,by show ds.length<=100;omega,by show no.length<=100;omega⟩
 r:=by
  show gm (cL k).1 (cL k).2 ds no=true
  unfold gm
  rw[(pb k).1,Oi]
  unfold mz my cD
  simp only[NS,NY,ON,On,OM,id_eq]
  refine⟨⟨⟨by omega,by omega⟩,λd m=>(hd d m).1⟩,by omega,λls m=>?_⟩
  rw[ho ls m]
  exact(xf k).1
variable {many size:Int}
theorem jV.rt{PK:QS}{cells:Nat->QS}(h:jV many size Pz PK cells)(hm:1<=many)(hs:size<=8)(k:Nat):(gQ Pz PK cells k).Rt:=by
 have hc:=h.c k;have hn:=h.n;refine qh (by simp[hc.1]) (by simp;omega) (λd m=>?_) (by simp) (λls m=>?_)
 ·obtain⟨c,_,rfl⟩:=bB.mp m;rw[aV];have:=Eu (k:=PK.getD k 0) (c:=c) (n:=(cells k).length) (PK:=PK) (by omega) (show 0<Pz.length by omega) h.nb;exact⟨this.1,this.2.1⟩
 ·obtain⟨c,_,rfl⟩:=bB.mp m;rfl
theorem jV.calls{PK:QS}{cells:Nat->QS}(h:jV many size Pz PK cells)(hm:1<=many)(k:Nat):∀ m∈dB (gQ Pz PK cells k).PD,m∈Pz:=λm mm=>by have hn:=h.n;obtain⟨d,hd,e⟩:=Ej mm;obtain⟨c,_,rfl⟩:=bB.mp hd;exact(Eu (k:=PK.getD k 0) (c:=c) (n:=(cells k).length) (PK:=PK) (by omega) (show 0<Pz.length by omega) h.nb).2.2 m e
theorem kA (n:Nat)(p:Int)(p0:0<=p)(pn:p<=(n:Int)):aG [ah 6,ah 7] (List.replicate n [ah 0,ah 1]) p=[ah 0,ah 1]:=by
 unfold aG;rw[O5];split
 ·decide
 ·rw[N2,O3,NU (by omega)];rfl
theorem mZ (n:Nat)(p:Int)(p0:0<=p)(pn:p<=(n:Int)):aG [[0,0,0,0,0,-1,0,1,0],ah 6] (List.replicate n [e1,ah 4]) p=if p=(n:Int)then[e1,ah 0]else[e1,ah 4]:=by
 unfold aG;rw[O5];split
 ·decide
 ·rw[N2,O3,NU (by omega)];rfl
variable {N:Nat}
theorem B6(ho:∀ m k,kd m k->oath m=cL k):∀(ds:List Dd) (p:Nat),p+ds.length<=N->(∀ d∈ds,cc kd (N:Int) d)->∀ g∈fR [ah 6,ah 7] (List.replicate N [ah 0,ah 1]) oath ds p,found g
 |[],_,_,_=>λg hg=>by cases hg|d::ds,p,hp,h=>λg hg=>by
  rw[N_]at hp;rcases bC.mp (show g∈cz _ _ _ _ d++fR _ _ oath ds (p+1)from hg)with z|z
  ·rw[kA N p (by omega) (by omega),kA N ((p:Int)+1) (by omega) (by omega)]at z;exact LX (kd:=kd) (n:=(N:Int)) (λq q0 qn=>kA N q q0 qn) ho (h d NW) g z
  ·exact B6 ho ds (p+1) (by omega) (λe he=>h e (NZ _ he)) g z
theorem B5(ho:∀ m k,kd m k->oath m=cL k):∀(ds:List Dd) (p:Nat),p+ds.length<=N->(∀ d∈ds,bP kd (N:Int) d)->∀ g∈fR [[0,0,0,0,0,-1,0,1,0],ah 6] (List.replicate N [e1,ah 4]) oath ds p,found g
 |[],_,_,_=>λg hg=>by cases hg|d::ds,p,hp,h=>λg hg=>by
  rw[N_]at hp;have three:∀ q:Int,0<=q->q<=(N:Int)->∀ x∈aG [[0,0,0,0,0,-1,0,1,0],ah 6] (List.replicate N [e1,ah 4]) q,x=e1\/x=ah 4\/x=ah 0:=λq q0 qn x hx=>by
   rw[mZ N q q0 qn]at hx;split at hx
   ·push_cast at hx;rcases hx with z|z
    ·exact .inl z
    ·exact .inr (.inr z)
   ·push_cast at hx;rcases hx with z|z
    ·exact .inl z
    ·exact .inr (.inl z)
  rcases bC.mp (show g∈cz _ _ _ _ d++fR _ _ oath ds (p+1)from hg)with z|z
  ·have e:=mZ N p (by omega) (by omega);rw[NR (by omega)]at e;rw[e]at z;exact Mc (kd:=kd) (n:=(N:Int)) (three ((p:Int)+1) (by omega) (by omega)) three ho (h d NW) g z
  ·exact B5 ho ds (p+1) (by omega) (λe he=>h e (NZ _ he)) g z
theorem JB(l:List α)(b:β):(l.map λ_=>b)=List.replicate l.length b:=by
 induction l with
 |nil=>rfl
 |cons a l ih=>rw[bw,ih,N_,Oy]
def ke (gs:List Du):Prop:=∀ g∈gs,found g
theorem JY(ho:∀ m k,kd m k->oath m=cL k)(hN:ds.length=N)(h:∀ d∈ds,cc kd (N:Int) d):ke (li [ah 4,ah 5] [ah 6,ah 7] ds (List.replicate N [ah 0,ah 1]) oath):=λg hg=>by
 rcases bC.mp (show g∈k_ _ _ _++fR _ _ _ _ _ from hg)with z|z
 ·unfold k_ at z;rw[kA N 0 (by omega) (by omega)]at z;simp only[bw,Oh,NP,NT,Of]at z;rcases z with rfl|rfl
  ·rw[tq.1];exact xK (i:=0) (by decide) rfl
  ·rw[tq.2.1];exact xK (i:=1) (by decide) rfl
 ·exact B6 ho ds 0 (by omega) h g z
theorem JX(ho:∀ m k,kd m k->oath m=cL k)(hN:ds.length=N)(h1:1<=N)(h:∀ d∈ds,bP kd (N:Int) d):ke (li [ah 4] [[0,0,0,0,0,-1,0,1,0],ah 6] ds (List.replicate N [e1,ah 4]) oath):=λg hg=>by
 rcases bC.mp (show g∈k_ _ _ _++fR _ _ _ _ _ from hg)with z|z
 ·unfold k_ at z;rw[mZ N 0 (by omega) (by omega),NR (by omega)]at z;simp only[bw,Oh,NP,NT,Of]at z;rcases z with rfl|rfl
  ·rw[tq.2.2.2];exact(JF (bh 4)).found
  ·rw[tq.2.2.1];exact xK (i:=0) (by decide) rfl
 ·exact B5 ho ds 0 (by omega) h g z
theorem jV.found{PK:QS}{cells:Nat->QS}(h:jV many size Pz PK cells)(hm:1<=many){k:Nat}(hk:k<many.toNat)(ho:∀(i:Nat) m c,Pz[i]?=some m->PK[i]?=some c->kY cr m=cL c):ke ((gQ Pz PK cells k).gs cr):=by
 have hc:=h.c k;have hn:=h.n;have hkk:=h.k;have kk:=h.kb (PK.getD k 0) (vZ (by omega));have ho':∀ m c,tp Pz PK m c->kY cr m=cL c:=λm c ⟨i,e1,e2⟩=>ho i m c e1 e2;unfold Cr.gs gQ uQ;dsimp only;rw[JB];rcases kk with z|z
 ·rw[z];refine JY ho' (by rw[aV]) λd hd=>?_;obtain⟨c,_,rfl⟩:=bB.mp hd;exact I_ (by omega) (by omega) (by omega) h.kb
 ·rw[z];refine JX ho' (by rw[aV]) hc.1 λd hd=>?_;obtain⟨c,_,rfl⟩:=bB.mp hd;exact JE (by omega) (by omega) (by omega) h.kb
theorem oW.nod(e:gE H H')(h:oW H v PJ PB PD PF):oW H' v PJ PB PD PF:=by obtain⟨pa,y1,y2,a3,a4,P9,Qo,rfl,h1,h2,h3,h4,h5,h6,h7⟩:=h;have el:∀{b xs},H b=some (.lst xs)->H' b=some (.lst xs):=λz=>e _ _ z (λ_ w=>by cases w);exact⟨pa,y1,y2,a3,a4,P9,Qo,rfl,el h1,h2.nod e,h3.nod e,el h4,el h5,R2.mono h6 λ_ _ z=>z.sq e.sq,h7.mono λ_ _ ⟨b,e1,e2⟩=>⟨b,e1,e2.nod e⟩⟩
def Cr.at (c:Cr)(H:Hp)(v:V):Prop:=oW H v c.PJ c.PB c.PD c.PF
def I8 (H:Hp)(pl:Addr)(ps:List (Int×Cr)):Prop:=∃ vs,H pl=some (.lst vs)/\R2 (λp v=>∃ T w,v=.ref T/\H T=some (.tup [.int p.1,w])/\p.2.at H w) ps vs
theorem JW{f:QW}(h9:∀ d∈c.PD,gc d)(h:ai H (lM c) v f):c.at H v:=by
 unfold lM ai at h;obtain⟨pa,pvs,fp,rfl,rfl,pa1,pr⟩:=h;obtain⟨x1,x2,x3,x4,f1,f2,f3,f4,rfl,g1,g2,g3,g4⟩:=vH pr;obtain⟨y1,rfl,hy1⟩:=ai.ls g1;obtain⟨y2,rfl,hy2⟩:=ai.ls g2;obtain⟨b3,P9,r3,rfl,h3,z3⟩:=ai.lso g3;obtain⟨b4,Qo,r4,rfl,h4,z4⟩:=ai.lso g4;refine⟨pa,y1,y2,b3,b4,P9,Qo,rfl,pa1,hy1,hy2,h3,h4,⟨by simpa using z3.length,λi d x e1 e2=>?_⟩,⟨by simpa using z4.length,λi ls x e1 e2=>?_⟩⟩
 ·obtain⟨f,hf⟩:=ak.item z3 i (dv d) x (by rw[aR,e1];rfl) e2;exact wl (wX (h9 d (bT e1))) hf
 ·obtain⟨f,hf⟩:=ak.item z4 i (bx ls) x (by rw[aR,e1];rfl) e2;exact ai.ls hf
def l_ (p:Int×Cr):D:=.tup [.int p.1,lM p.2]
theorem I0{p:Int×Cr}{f:QW}(h:ai H (l_ p) v f):∃ T w,v=.ref T/\H T=some (.tup [.int p.1,w])/\ai H (lM p.2) w f:=by unfold l_ ai at h;obtain⟨T,xs,rfl,hT,hx⟩:=h;unfold ak at hx;obtain⟨x1,r1,f1,g1,rfl,rfl,h1,hx⟩:=hx;unfold ak at hx;obtain⟨x2,r2,f2,g2,rfl,rfl,h2,hx⟩:=hx;unfold ak at hx;obtain⟨rfl,rfl⟩:=hx;unfold ai at h1;obtain⟨rfl,rfl⟩:=h1;exact⟨T,x2,rfl,hT,by simpa using h2⟩
theorem Lr{ps:List (Int×Cr)}{vs:QV}(h9:∀ p∈ps,∀ d∈p.2.PD,gc d)(h:ak H (ps.map l_) vs fp):R2 (λp v=>∃ T w,v=.ref T/\H T=some (.tup [.int p.1,w])/\p.2.at H w) ps vs:=⟨by simpa using h.length,λi p v e1 e2=>by obtain⟨f,hf⟩:=ak.item h i (l_ p) v (by rw[aR,e1];rfl) e2;obtain⟨T,w,a1,a2,a3⟩:=I0 hf;exact⟨T,w,a1,a2,JW (h9 p (bT e1)) a3⟩⟩
theorem JV{H0:Hp}{ps:List (Int×Cr)}(h9:∀ p∈ps,∀ d∈p.2.PD,gc d)(n:ao H0 H (.lst (ps.map l_)) v):∃ pl,v=.ref pl/\H0 pl=none/\I8 H pl ps:=by obtain⟨pl,vs,fp,rfl,p0,p1,pr,_⟩:=ao.lso n;exact⟨pl,rfl,p0,vs,p1,Lr h9 pr⟩
def bb (ps:List (Int×Cr))(m:Int):Cr:=(ps.lookup m).getD ⟨[],[],[],[]⟩
theorem CD:∀{ps:List (Int×Cr)}{i:Nat}{n:Int}{c:Cr},(ps.map (·.1)).Nodup->ps[i]?=some (n,c)->bb ps n=c
 |[],i,n,c,_,e=>by simp at e|(m,d)::ps,0,n,c,_,e=>by simp only[List.getElem?_cons_zero,Option.some.injEq,Prod.mk.injEq]at e;obtain⟨rfl,rfl⟩:=e;simp[bb,List.lookup]|(m,d)::ps,i+1,n,c,nd,e=>by
  have e':ps[i]?=some (n,c):=by simpa using e
  have nd':=Og.mp (show(m::ps.map (·.1)).Nodup from nd);have ne:¬ n=m:=λz=>nd'.1 (by rw[<-z];exact bB.mpr ⟨(n,c),bT e',rfl⟩);have ih:=CD nd'.2 e';unfold bb at ih ⊢;rw[OS,show(n==m)=false by simpa using ne];exact ih
def iL (Pz PK:QS)(cells:Nat->QS)(many:Nat):List (Int×Cr):=(List.range many).map λk=>(Pz.getD k 0,gQ Pz PK cells k)
theorem L_ (Pz PK:QS)(cells:Nat->QS)(many:Nat):(iL Pz PK cells many).map l_=(List.range many).map λk=>D.tup [.int (Pz.getD k 0),lM (gQ Pz PK cells k)]:=by unfold iL;rw[Ox];rfl
theorem Lf:(List.range l.length).map (λk=>l.getD k 0)=l:=by refine List.ext_getElem (by simp) λi h1 h2=>?_;simp[List.getD,h2]
structure fC (Pz PK:QS)(ps:List (Int×Cr)):Prop where
 nums:ps.map (·.1)=Pz
 nd:Pz.Nodup
 nb:∀ n∈Pz,0<=n/\n<100
 rt:∀ p∈ps,p.2.Rt
 calls:∀ p∈ps,∀ m∈dB p.2.PD,m∈Pz
 kl:PK.length=Pz.length
 oath:∀(i:Nat) p,ps[i]?=some p->p.2.PJ=(cL (PK.getD i 0)).1/\p.2.PB=(cL (PK.getD i 0)).2
theorem fC.len{PK:QS}{ps:List (Int×Cr)}(h:fC Pz PK ps):ps.length=Pz.length:=by rw[<-h.nums,aV]
theorem fC.ndp{PK:QS}{ps:List (Int×Cr)}(h:fC Pz PK ps):(ps.map (·.1)).Nodup:=by rw[h.nums];exact h.nd
theorem fC.get{PK:QS}{ps:List (Int×Cr)}(h:fC Pz PK ps){p:Int×Cr}(e:ps[i]?=some p):Pz[i]?=some p.1/\bb ps p.1=p.2:=by refine⟨by rw[<-h.nums,aR,e];rfl,CD (i:=i) h.ndp (by rw[e])⟩
theorem fC.ho{PK:QS}{ps:List (Int×Cr)}(h:fC Pz PK ps):∀(i:Nat) m c,Pz[i]?=some m->PK[i]?=some c->kY (bb ps) m=cL c:=λi m c e1 e2=>by
 have hi:i<ps.length:=by rw[h.len];exact(dF.mp e1).1
 have ep:ps[i]?=some ps[i]:=NQ hi;obtain⟨g1,g2⟩:=h.get ep;rw[e1]at g1;injection g1 with g1;obtain⟨o1,o2⟩:=h.oath i _ ep;have ek:PK.getD i 0=c:=by rw[N2,e2];rfl
 unfold kY;rw[g1,g2,o1,o2,ek]
theorem jV.ps{PK:QS}{cells:Nat->QS}(h:jV many size Pz PK cells)(hm:1<=many)(hs:size<=8):fC Pz PK (iL Pz PK cells many.toNat) where
 nums:=by
  unfold iL
  rw[Ox,<-h.n]
  exact Lf
 nd:=h.nd
 nb:=h.nb
 rt:=λp hp=>by
  obtain⟨k,_,rfl⟩:=bB.mp hp
  exact h.rt hm hs k
 calls:=λp hp=>by
  obtain⟨k,_,rfl⟩:=bB.mp hp
  exact h.calls hm k
 kl:=by rw[h.k,h.n]
 oath:=λi p e=>by
  unfold iL at e
  rw[aR]at e
  obtain⟨k,hk,rfl⟩:=ce.mp e
  have:k=i:=by
   rw[OL (by have:=(dF.mp hk).1;simpa using this)]at hk
   exact(Oj hk).symm
  subst this
  exact⟨rfl,rfl⟩
structure Fm where
 n:Int
 p:Int
 PL:QS
 asked:QS
def cP (f:Fm):QS:=f.PL++f.asked++f.PL.take 2
def cQ (ls:QT)(ns:QS):Option Nat:=ls.findIdx? λl=>decide (aP l ns<0)
abbrev lS:=Option QV
def brk (w:Str)(f:Fm)(i:Nat):QV:=[.str "broken",.str w,.int f.n,.int f.p,.int (i:Int)]
def hZ (c:Cr)(p:Int):Option Dd:=c.PD[p.toNat]?
def vY:Option Dd->Int×Int
 |some (.call _ _ _ t0 t1)=>(t0,t1)|_=>(0,1)
noncomputable def gY (cr:Int->Cr) (g:Fm) (l0 l1:Int):Fm:={g with PL:=(g.PL.set (vY (hZ (cr g.n) g.p)).1.toNat l0).set (vY (hZ (cr g.n) g.p)).2.toNat l1,p:=g.p+1}
def oJ (f:Fm):QV:=[.str "done",.int (f.PL.getD 0 0),.int (f.PL.getD 1 0)]
def lB (cr:Int->Cr)(f:Fm):lS:=(cQ ((cr f.n).PF.getD f.p.toNat []) (cP f)).map (brk "notes" f)
def cb (cr:Int->Cr):Fm->List Fm->List Fm×lS
 |f,[]=>if f.p=((cr f.n).PD.length:Int)then(match cQ (cr f.n).PB (cP f)with
   |some i=>([f],some (brk "leaves" f i))|none=>([],some (oJ f)))else([f],lB cr f)
 |f,g::st=>if f.p=((cr f.n).PD.length:Int)then(match cQ (cr f.n).PB (cP f)with
   |some i=>(f::g::st,some (brk "leaves" f i))|none=>cb cr (gY cr g (f.PL.getD 0 0) (f.PL.getD 1 0)) st)else(f::g::st,lB cr f)
structure Rs where
 st:List Fm
 ins:QS
 k:Int
 en:lS
def dH (cr:Int->Cr)(s:Rs)(f:Fm)(st:List Fm):Rs:={s with st:=(cb cr f st).1,en:=(cb cr f st).2}
def ft (cr:Int->Cr)(s:Rs)(f:Fm)(st:List Fm)(h x:Int):Rs:=dH cr s {f with PL:=f.PL.set h.toNat x,p:=f.p+1} st
def eY (a0 a1:Int):QS:=[0,0,0,0,a0,a1,0,0]
def fQ (n a0 a1:Int):Fm:=⟨n,0,[a0,a1,0,0],[a0,a1]⟩
def dA (cr:Int->Cr)(ks:QS)(s:Rs)(f:Fm)(st:List Fm):Dd->Rs
 |.set h l=>ft cr s f st h (aP l (cP f))|.part h l b=>ft cr s f st h (aP l (cP f)/b)|.draw h lo hi=>match s.ins with
  |[]=>{s with en:=some [.str "dry"]}
  |x::r=>if lo<=x/\x<=hi then ft cr {s with ins:=r} f st h x else {s with ins:=r,en:=some [.str "stray"]}
 |.turn l q=>dH cr s {f with p:=if 0<=aP l (cP f)then q else f.p+1} st
 |.hold l=>match cQ [l] (cP f)with
  |some i=>{s with en:=some (brk "hold" f i)}
  |none=>dH cr s {f with p:=f.p+1} st
 |.call m g0 g1 _ _=>if m∉ks then {s with en:=some [.str "lost"]}else if 20<=(f::st).length then {s with en:=some [.str "deep"]}else
   match cQ (cr m).PJ (eY (f.PL.getD g0.toNat 0) (f.PL.getD g1.toNat 0))with
   |some i=>{s with en:=some (brk "needs" f i)}
   |none=>dH cr s (fQ m (f.PL.getD g0.toNat 0) (f.PL.getD g1.toNat 0)) (f::st)
def gX (cr:Int->Cr)(ks:QS)(s:Rs):Rs:=match s.st with
 |[]=>s|f::st=>match hZ (cr f.n) f.p with
  |none=>s|some d=>dA cr ks {s with k:=s.k+1} f st d
def eF (cr:Int->Cr)(ks:QS):Nat->Rs->Rs
 |0,s=>s|n+1,s=>if s.en=none then eF cr ks n (gX cr ks s)else s
structure kC (ks:QS)(cr:Int->Cr)(f:Fm):Prop where
 m:f.n∈ks
 p0:0<=f.p
 pn:f.p<=((cr f.n).PD.length:Int)
 h4:f.PL.length=4
 a2:f.asked.length=2
def nK (cr:Int->Cr)(f:Fm):Prop:=∃ m g0 g1 t0 t1,hZ (cr f.n) f.p=some (.call m g0 g1 t0 t1)
def Wf (ks:QS)(cr:Int->Cr)(st:List Fm):Prop:=(∀ f∈st,kC ks cr f)/\∀ f∈st.tail,nK cr f
variable {st:List Fm}
theorem Wf.tail{f:Fm}(h:Wf ks cr (f::st)):Wf ks cr st:=⟨λg hg=>h.1 g (NZ _ hg),λg hg=>h.2 g (List.mem_of_mem_tail hg)⟩
theorem nK.lt{f:Fm}(h:nK cr f):f.p.toNat<(cr f.n).PD.length:=by obtain⟨m,g0,g1,t0,t1,e⟩:=h;exact(dF.mp e).1
theorem C8{g:Fm}{l0 l1:Int}(h:kC ks cr g)(c:nK cr g):kC ks cr (gY cr g l0 l1) where
 m:=h.m
 p0:=by have:=h.p0;show 0<=g.p+1;omega
 pn:=by have:=c.lt;have:=h.p0;show g.p+1<=((cr g.n).PD.length:Int);omega
 h4:=by unfold gY;simp[h.h4]
 a2:=h.a2
theorem vX:∀{f:Fm}{st:List Fm},Wf ks cr (f::st)->Wf ks cr (cb cr f st).1/\((cb cr f st).2=none->∃ g r,(cb cr f st).1=g::r/\g.p<((cr g.n).PD.length:Int))
 |f,[],h=>by
  unfold cb;split
  ·split
   ·exact⟨h,λz=>by cases z⟩
   ·exact⟨⟨λg hg=>(by cases hg),λg hg=>(by cases hg)⟩,λz=>(by cases z)⟩
  ·rename_i ne;exact⟨h,λ_=>⟨f,[],rfl,by have:=(h.1 f NW).pn;omega⟩⟩
 |f,g::st,h=>by
  unfold cb;split
  ·split
   ·exact⟨h,λz=>by cases z⟩
   ·refine vX ⟨λk hk=>?_,λk hk=>h.tail.2 k hk⟩;rcases NP.mp hk with rfl|hk
    ·exact C8 (h.tail.1 g NW) (h.2 g NW)
    ·exact h.tail.1 k (NZ _ hk)
  ·rename_i ne;exact⟨h,λ_=>⟨f,g::st,rfl,by have:=(h.1 f NW).pn;omega⟩⟩
structure iS (ks:QS)(cr:Int->Cr)(s:Rs):Prop where
 w:Wf ks cr s.st
 on:s.en=none->∃ f st,s.st=f::st/\f.p<((cr f.n).PD.length:Int)
variable {s:Rs}
theorem mH{f:Fm}(h:Wf ks cr (f::st)):iS ks cr (dH cr s f st):=⟨(vX h).1,(vX h).2⟩
theorem Wf.top{f g:Fm}(h:Wf ks cr (f::st))(w:kC ks cr g):Wf ks cr (g::st):=⟨λk hk=>by
 rcases NP.mp hk with rfl|hk
 ·exact w
 ·exact h.1 k (NZ _ hk),h.2⟩
theorem ur{m:Int}(h:b_ n (.call m g0 g1 t0 t1)=true):(0<=g0/\g0<=3)/\(0<=g1/\g1<=3)/\(0<=t0/\t0<=3)/\(0<=t1/\t1<=3)/\0<=m/\m<=99:=by simp only[b_,ci,cD,OO,O4,id,OD,NS,NY]at h;omega
theorem JA(hrt:∀ m∈ks,(cr m).Rt)(h:iS ks cr s)(he:s.en=none):iS ks cr (gX cr ks s):=by
 obtain⟨f,st,e,hp⟩:=h.on he;have hw:=h.w;rw[e]at hw;have wf:=hw.1 f NW;have hlt:f.p.toNat<(cr f.n).PD.length:=by have:=wf.p0;omega
 have ok:=(hrt f.n wf.m).parts.2.2.2.2.2;unfold gX;rw[e];dsimp only;unfold hZ;rw[NQ hlt];dsimp only;have hok:=ok _ (Om hlt);have hd:hZ (cr f.n) f.p=some (cr f.n).PD[f.p.toNat]:=NQ hlt;generalize (cr f.n).PD[f.p.toNat]=d at*;have up:∀ x,kC ks cr {f with PL:=x,p:=f.p+1}↔x.length=4:=λx=>⟨λz=>z.h4,λz=>⟨wf.m,by have:=wf.p0;show 0<=f.p+1;omega,by show f.p+1<=((cr f.n).PD.length:Int);omega,z,wf.a2⟩⟩;have same:∀(x:QS) (y:Int) (z:QV),iS ks cr ({st:=f::st,ins:=x,k:=y,en:=some z}:Rs):=λx y z=>⟨hw,λw=>by cases w⟩;cases d with
 |set hd l=>exact mH (hw.top ((up _).mpr (by simp[wf.h4])))
 |part hd l b=>exact mH (hw.top ((up _).mpr (by simp[wf.h4])))
 |draw hd lo hi=>
  unfold dA;dsimp only;split
  ·exact same _ _ _
  ·split
   ·exact mH (hw.top ((up _).mpr (by simp[wf.h4])))
   ·exact same _ _ _
 |turn l q=>
  simp only[b_,cD,NS,NY]at hok;refine mH (hw.top ⟨wf.m,?_,?_,wf.h4,wf.a2⟩)
  ·dsimp only;have:=wf.p0;split<;>omega
  ·dsimp only;split<;>omega
 |hold l=>
  unfold dA;dsimp only;split
  ·exact same _ _ _
  ·exact mH (hw.top ((up f.PL).mpr wf.h4))
 |call m g0 g1 t0 t1=>
  unfold dA;dsimp only;split
  ·exact same _ _ _
  ·rename_i mk;split
   ·exact same _ _ _
   ·split
    ·exact same _ _ _
    ·refine mH ⟨λk hk=>?_,λk hk=>?_⟩
     ·rcases NP.mp hk with rfl|hk
      ·exact⟨O1 λz=>mk z,by show(0:Int)<=0;omega,by show(0:Int)<=_;omega,rfl,rfl⟩
      ·exact hw.1 k hk
     ·rcases NP.mp (show k∈f::st from hk)with rfl|hk
      ·exact⟨m,g0,g1,t0,t1,hd⟩
      ·exact hw.2 k hk
theorem HD(h:s.en≠none):∀ n,eF cr ks n s=s
 |0=>rfl|n+1=>by unfold eF;rw[NR h]
variable {r:List (Str×V)}
theorem eh{k x:Str}(h:(k==x)=false):List.lookup k ((x,v)::r)=List.lookup k r:=by simp[List.lookup,h]
theorem jY{k:Str}:List.lookup k ((k,v)::r)=some v:=by simp[List.lookup]
theorem jr{k x:Str}{w:V}(h:¬ x=k):au k v ((x,w)::r)=(x,w)::au k v r:=by show(if x=k then _ else _)=_;rw[NR h]
theorem vo{k:Str}{w:V}:au k v ((k,w)::r)=(k,v)::r:=by show(if k=k then _ else _)=_;rw[NU rfl]
theorem B4{k:Str}:au k v []=[(k,v)]:=rfl
noncomputable def eI (n p:Int) (ha aa:Addr):List (Str×V):=[("number",.int n),("place",.int p),("hands",.ref ha),("asked",.ref aa)]
theorem Ed (n p:Int)(ha aa:Addr):(eI n p ha aa).lookup ("number":Str)=some (.int n):=jY
theorem kh (n p:Int)(ha aa:Addr):(eI n p ha aa).lookup ("place":Str)=some (.int p):=by unfold eI;rw[eh (by decide+kernel)];exact jY
theorem iY (n p:Int)(ha aa:Addr):(eI n p ha aa).lookup ("hands":Str)=some (.ref ha):=by unfold eI;rw[eh (by decide+kernel),eh (by decide+kernel)];exact jY
theorem Jz (n p:Int)(ha aa:Addr):(eI n p ha aa).lookup ("asked":Str)=some (.ref aa):=by unfold eI;rw[eh (by decide+kernel),eh (by decide+kernel),eh (by decide+kernel)];exact jY
variable {aa:Addr}
theorem nH{p:Int}{m:Str}(h: ~~~((m =="number" ||(m =="place" ||(m =="hands" ||m =="asked")))=false)):(eI n p ha aa).lookup m=none:=by simp only[Bool.or_eq_false_iff]at h;obtain⟨h1,h2,h3,h4⟩:=h;unfold eI;rw[eh h1,eh h2,eh h3,eh h4];rfl
variable {q:Int}
theorem B3{p:Int}:au "place" (.int q) (eI n p ha aa)=eI n q ha aa:=by unfold eI;rw[jr (by decide+kernel),vo]
theorem HC{p:Int}:au "asked" (.ref aa) (au "hands" (.ref ha) (au "place" (.int p) (au "number" (.int n) [])))=eI n p ha aa:=by
 repeat (first|rw[B4]|rw[jr (by decide+kernel)])
 rfl
noncomputable def bO (ka ia sa:Addr) (k:Int) (ev:V):List (Str×V):=[("known",.ref ka),("inputs_left",.ref ia),("stack",.ref sa),("steps_done",.int k),("ending",ev)]
variable {ia sa:Addr}
section
variable {k:Int}{ev ew:V}
theorem pG:(bO ka ia sa k ev).lookup ("known":Str)=some (.ref ka):=jY
theorem Ec:(bO ka ia sa k ev).lookup ("inputs_left":Str)=some (.ref ia):=by unfold bO;rw[eh (by decide+kernel)];exact jY
theorem io:(bO ka ia sa k ev).lookup ("stack":Str)=some (.ref sa):=by unfold bO;rw[eh (by decide+kernel),eh (by decide+kernel)];exact jY
theorem Jy:(bO ka ia sa k ev).lookup ("steps_done":Str)=some (.int k):=by unfold bO;rw[eh (by decide+kernel),eh (by decide+kernel),eh (by decide+kernel)];exact jY
theorem pM:(bO ka ia sa k ev).lookup ("ending":Str)=some ev:=by unfold bO;rw[eh (by decide+kernel),eh (by decide+kernel),eh (by decide+kernel),eh (by decide+kernel)];exact jY
theorem dG {m:Str}(h: ~~~((m =="known" ||(m =="inputs_left" ||(m =="stack" ||(m =="steps_done" ||m =="ending"))))=false)):(bO ka ia sa k ev).lookup m=none:=by simp only[Bool.or_eq_false_iff]at h;obtain⟨h1,h2,h3,h4,h5⟩:=h;unfold bO;rw[eh h1,eh h2,eh h3,eh h4,eh h5];rfl
theorem Jx:au "steps_done" (.int j) (bO ka ia sa k ev)=bO ka ia sa j ev:=by unfold bO;rw[jr (by decide+kernel),jr (by decide+kernel),jr (by decide+kernel),vo]
theorem mJ:au "ending" ew (bO ka ia sa k ev)=bO ka ia sa k ew:=by unfold bO;rw[jr (by decide+kernel),jr (by decide+kernel),jr (by decide+kernel),jr (by decide+kernel),vo]
theorem HB:au "ending" ev (au "steps_done" (.int k) (au "stack" (.ref sa) (au "inputs_left" (.ref ia) (au "known" (.ref ka) []))))=bO ka ia sa k ev:=by
 repeat (first|rw[B4]|rw[jr (by decide+kernel)])
 rfl
end
def lU (H:Hp):lS->V->Prop
 |none,v=>v=.non|some xs,v=>∃ T,v=.ref T/\H T=some (.tup xs)
variable {en:lS}
theorem lU.tups(t:cv H H')(h:lU H en v):lU H' en v:=by
 cases en with
 |none=>exact h
 |some xs=>obtain⟨T,e,z⟩:=h;exact⟨T,e,t _ _ z⟩
theorem lU.none_iff(h:lU H en v):decide (v=V.non)=en.isNone:=by
 cases en with
 |none=>rw[show v=.non from h];rfl
 |some xs=>obtain⟨T,e,z⟩:=h;rw[e,wd];rfl
structure bz (cC:Addr)(H:Hp)(ka:Addr)(ks:QS)(cr:Int->Cr)(P2:QW):Prop where
 d:∃ kvs,H ka=some (.dK kvs)/\dk (ni cC H cr P2) kvs ks
 rt:∀ m∈ks,(cr m).Rt
 has:∀ b∈P2,∃ o,H b=some o
variable {P2:QW}
section
theorem bz.frame (A:bz cC H ka ks cr P2)(tk:cv H H')(k:∀ b∈P2,∀ o,H b=some o->H' b=some o)(k2:∀ kvs,H ka=some (.dK kvs)->H' ka=some (.dK kvs)):bz cC H' ka ks cr P2 where
 d:=by
  obtain⟨kvs,e,q⟩:=A.d
  exact⟨kvs,k2 _ e,q.mono λm v ⟨p,f,e1,e2,e3⟩=>⟨p,f,e1,e2.frame tk λb hb o ho=>k b (e3 b hb) o ho,e3⟩⟩
 rt:=A.rt
 has:=λb hb=>by obtain⟨o,e⟩:=A.has b hb;exact⟨o,k b hb o e⟩
theorem bz.upd{b:Addr}{u:HO}(A:bz cC H ka ks cr P2)(hb:b∉P2)(h:H b=some u)(n1:∀ xs,u≠.tup xs)(n2:∀ kvs,u≠.dK kvs):bz cC (L2.upd H b o) ka ks cr P2:=
 A.frame (ub λxs z=>n1 xs (by rw[h]at z;exact Oj z)) (λc hc o' ho=>by rw[aE (λz=>hb (by rw[<-z];exact hc))];exact ho) λkvs z=>by rw[aE (tf z h (λw=>n2 kvs w.symm))];exact z
end
abbrev Fa:=Addr×Addr×Addr
def iG (cF:Addr)(H:Hp):List Fm->List Fa->Prop
 |[],[]=>True|f::st,(p,ha,aa)::r=>(∃ dx,H p=some (.ins cF dx (eI f.n f.p ha aa)))/\H ha=some (.lst (f.PL.map V.int))/\H aa=some (.lst (f.asked.map V.int))/\iG cF H st r|_,_=>False
def cB (PN:List Fa):QW:=PN.flatMap λt=>[t.1,t.2.1,t.2.2]
theorem fV (t:Fa)(PN:List Fa):cB (t::PN)=t.1::t.2.1::t.2.2::cB PN:=by unfold cB;simp
variable {cF:Addr}
theorem iG.frame:∀{st:List Fm}{PN:List Fa},(∀ b∈cB PN,∀ o,H b=some o->H' b=some o)->iG cF H st PN->iG cF H' st PN
 |[],[],_,_=>trivial|f::st,(p,ha,aa)::r,k,h=>by obtain⟨⟨dx,h1⟩,h2,h3,h4⟩:=h;rw[fV]at k;exact⟨⟨dx,k _ (by simp) _ h1⟩,k _ (by simp) _ h2,k _ (by simp) _ h3,iG.frame (λb hb=>k b (by simp[hb])) h4⟩|[],_::_,_,h=>h.elim|_::_,[],_,h=>h.elim
theorem iG.len:∀{st:List Fm}{PN:List Fa},iG cF H st PN->st.length=PN.length
 |[],[],_=>rfl|f::st,t::r,h=>by rw[N_,N_,iG.len h.2.2.2]|[],_::_,h=>h.elim|_::_,[],h=>h.elim
theorem iG.has:∀{st:List Fm}{PN:List Fa},iG cF H st PN->∀ b∈cB PN,∃ o,H b=some o/\(∀ xs,o≠.tup xs)/\∀ kvs,o≠.dK kvs
 |[],[],_,b,hb=>by simp[cB]at hb|f::st,(p,ha,aa)::r,h,b,hb=>by
  obtain⟨⟨dx,h1⟩,h2,h3,h4⟩:=h;rw[fV]at hb;simp only[NP]at hb;rcases hb with rfl|rfl|rfl|hb
  ·exact⟨_,h1,λ_ z=>(by cases z),λ_ z=>(by cases z)⟩
  ·exact⟨_,h2,λ_ z=>(by cases z),λ_ z=>(by cases z)⟩
  ·exact⟨_,h3,λ_ z=>(by cases z),λ_ z=>(by cases z)⟩
  ·exact iG.has h4 b hb
 |[],_::_,h,_,_=>h.elim|_::_,[],h,_,_=>h.elim
def aL (r ia sa:Addr)(PN:List Fa):QW:=r::ia::sa::cB PN
structure aD (cR cF cC:Addr)(H:Hp)(r ka ia sa:Addr)(ks:QS)(cr:Int->Cr)(PN:List Fa)(s:Rs)(P2:QW):Prop where
 ins:∃ dx ev,H r=some (.ins cR dx (bO ka ia sa s.k ev))/\lU H s.en ev
 kn:bz cC H ka ks cr P2
 inp:H ia=some (.lst (s.ins.map V.int))
 sta:H sa=some (.lst (PN.reverse.map λt=>V.ref t.1))
 fr:iG cF H s.st PN
 nd:(aL r ia sa PN).Nodup
 off:∀ b∈aL r ia sa PN,b∉P2
variable {PN:List Fa}
section
variable {cR r:Addr}
theorem aD.has (A:aD cR cF cC H r ka ia sa ks cr PN s P2):∀ b∈aL r ia sa PN,∃ o,H b=some o/\(∀ xs,o≠.tup xs)/\∀ kvs,o≠.dK kvs:=λb hb=>by
 unfold aL at hb;simp only[NP]at hb;rcases hb with rfl|rfl|rfl|hb
 ·obtain⟨dx,ev,e,_⟩:=A.ins;exact⟨_,e,λ_ z=>(by cases z),λ_ z=>(by cases z)⟩
 ·exact⟨_,A.inp,λ_ z=>(by cases z),λ_ z=>(by cases z)⟩
 ·exact⟨_,A.sta,λ_ z=>(by cases z),λ_ z=>(by cases z)⟩
 ·exact A.fr.has b hb
theorem aD.frame (A:aD cR cF cC H r ka ia sa ks cr PN s P2)(tk:cv H H')(k:∀ b,b∈aL r ia sa PN\/b∈P2->∀ o,H b=some o->H' b=some o)(k2:∀ kvs,H ka=some (.dK kvs)->H' ka=some (.dK kvs)):aD cR cF cC H' r ka ia sa ks cr PN s P2 where
 ins:=by obtain⟨dx,ev,e,z⟩:=A.ins;exact⟨dx,ev,k _ (.inl (by simp[aL])) _ e,z.tups tk⟩
 kn:=A.kn.frame tk (λb hb=>k b (.inr hb)) k2
 inp:=k _ (.inl (by simp[aL])) _ A.inp
 sta:=k _ (.inl (by simp[aL])) _ A.sta
 fr:=A.fr.frame λb hb=>k b (.inl (by simp[aL,hb]))
 nd:=A.nd
 off:=A.off
theorem aD.same (A:aD cR cF cC H r ka ia sa ks cr PN s P2)(e:ae H H'):aD cR cF cC H' r ka ia sa ks cr PN s P2:=A.frame e.tups (λb _ o ho=>e b o ho) λkvs z=>e _ _ z
theorem aD.ndr (A:aD cR cF cC H r ka ia sa ks cr PN s P2):r≠ia/\r≠sa/\r∉cB PN/\ia≠sa/\ia∉cB PN/\sa∉cB PN/\(cB PN).Nodup:=by have h:=A.nd;unfold aL at h;simp only[Og,NP,OZ]at h;obtain⟨⟨a1,a2,a3⟩,⟨b1,b2⟩,c1,d1⟩:=h;exact⟨a1,a2,a3,b1,b2,c1,d1⟩
theorem aD.setR{k':Int}{ev ew:V}{en':lS}(A:aD cR cF cC H r ka ia sa ks cr PN s P2)(h:H r=some (.ins cR dx (bO ka ia sa s.k ev)))(he:lU H en' ew):aD cR cF cC (upd H r (.ins cR dx (bO ka ia sa k' ew))) r ka ia sa ks cr PN {s with k:=k',en:=en'} P2 where
 ins:=⟨dx,ew,aw,he.tups (ub λxs z=>by rw[h]at z;cases z)⟩
 kn:=A.kn.upd (A.off r (by simp[aL])) h (λ_ z=>by cases z) (λ_ z=>by cases z)
 inp:=by rw[aE A.ndr.1.symm];exact A.inp
 sta:=by rw[aE A.ndr.2.1.symm];exact A.sta
 fr:=A.fr.frame λb hb o ho=>by rw[aE (λz=>A.ndr.2.2.1 (by rw[<-z];exact hb))];exact ho
 nd:=A.nd
 off:=A.off
variable {xs:QS}
theorem aD.setIn(A:aD cR cF cC H r ka ia sa ks cr PN s P2):aD cR cF cC (upd H ia (.lst (xs.map V.int))) r ka ia sa ks cr PN {s with ins:=xs} P2 where
 ins:=by obtain⟨dx,ev,e,z⟩:=A.ins;exact⟨dx,ev,by rw[aE A.ndr.1];exact e,z.tups (kg A.inp)⟩
 kn:=A.kn.upd (A.off ia (by simp[aL])) A.inp (λ_ z=>by cases z) (λ_ z=>by cases z)
 inp:=aw
 sta:=by rw[aE A.ndr.2.2.2.1.symm];exact A.sta
 fr:=A.fr.frame λb hb o ho=>by rw[aE (λz=>A.ndr.2.2.2.2.1 (by rw[<-z];exact hb))];exact ho
 nd:=A.nd
 off:=A.off
variable {f:Fm}
theorem B2{t:Fa}(h:(cB (t::PN)).Nodup):t.1≠t.2.1/\t.1≠t.2.2/\t.1∉cB PN/\t.2.1≠t.2.2/\t.2.1∉cB PN/\t.2.2∉cB PN:=by rw[fV]at h;simp only[Og,NP,OZ]at h;obtain⟨⟨a1,a2,a3⟩,⟨b1,b2⟩,c1,d1⟩:=h;exact⟨a1,a2,a3,b1,b2,c1⟩
theorem aD.setP(A:aD cR cF cC H r ka ia sa ks cr ((p,ha,aa)::PN) s P2)(hs:s.st=f::st)(h:H p=some (.ins cF dx (eI f.n f.p ha aa))):aD cR cF cC (upd H p (.ins cF dx (eI f.n q ha aa))) r ka ia sa ks cr ((p,ha,aa)::PN) {s with st:={f with p:=q}::st} P2:=by
 obtain⟨r1,r2,r3,i1,i2,s1,fn⟩:=A.ndr;obtain⟨n1,n2,n3,n4,n5,n6⟩:=B2 fn;rw[fV]at r3 i2 s1;simp only[NP,OZ]at r3 i2 s1;have fr:=A.fr;rw[hs]at fr;obtain⟨⟨dx',f1⟩,f2,f3,f4⟩:=fr;have nt:cv H (upd H p (.ins cF dx (eI f.n q ha aa))):=ub λxs z=>by rw[h]at z;cases z
 refine⟨?_,A.kn.upd (A.off p (by simp[aL,fV])) h (λ_ z=>by cases z) (λ_ z=>by cases z),?_,?_,⟨⟨dx,aw⟩,?_,?_,f4.frame λb hb o ho=>?_⟩,A.nd,A.off⟩
 ·obtain⟨dx',ev,e,z⟩:=A.ins;exact⟨dx',ev,by rw[aE r3.1];exact e,z.tups nt⟩
 ·rw[aE i2.1];exact A.inp
 ·rw[aE s1.1];exact A.sta
 ·rw[aE (Ne.symm n1)];exact f2
 ·rw[aE (Ne.symm n2)];exact f3
 ·rw[aE (λz=>n3 (by rw[<-z];exact hb))];exact ho
theorem aD.setH(A:aD cR cF cC H r ka ia sa ks cr ((p,ha,aa)::PN) s P2)(hs:s.st=f::st):aD cR cF cC (upd H ha (.lst (xs.map V.int))) r ka ia sa ks cr ((p,ha,aa)::PN) {s with st:={f with PL:=xs}::st} P2:=by
 obtain⟨r1,r2,r3,i1,i2,s1,fn⟩:=A.ndr;obtain⟨n1,n2,n3,n4,n5,n6⟩:=B2 fn;rw[fV]at r3 i2 s1;simp only[NP,OZ]at r3 i2 s1;have fr:=A.fr;rw[hs]at fr;obtain⟨⟨dx',f1⟩,f2,f3,f4⟩:=fr;have nt:cv H (upd H ha (.lst (xs.map V.int))):=kg f2;refine⟨?_,A.kn.upd (A.off ha (by simp[aL,fV])) f2 (λ_ z=>by cases z) (λ_ z=>by cases z),?_,?_,⟨⟨dx',?_⟩,aw,?_,f4.frame λb hb o ho=>?_⟩,A.nd,A.off⟩
 ·obtain⟨dx',ev,e,z⟩:=A.ins;exact⟨dx',ev,by rw[aE r3.2.1];exact e,z.tups nt⟩
 ·rw[aE i2.2.1];exact A.inp
 ·rw[aE s1.2.1];exact A.sta
 ·rw[aE n1];exact f1
 ·rw[aE (Ne.symm n4)];exact f3
 ·rw[aE (λz=>n5 (by rw[<-z];exact hb))];exact ho
theorem aD.pop {t:Fa}(A:aD cR cF cC H r ka ia sa ks cr (t::PN) s P2)(hs:s.st=f::st):aD cR cF cC (upd H sa (.lst (PN.reverse.map λt=>V.ref t.1))) r ka ia sa ks cr PN {s with st:=st} P2:=by
 obtain⟨r1,r2,r3,i1,i2,s1,fn⟩:=A.ndr;have fr:=A.fr;rw[hs]at fr;obtain⟨p,ha,aa⟩:=t;obtain⟨⟨dx',f1⟩,f2,f3,f4⟩:=fr;rw[fV]at r3 i2 s1 fn;simp only[NP,OZ]at r3 i2 s1;refine⟨?_,A.kn.upd (A.off sa (by simp[aL])) A.sta (λ_ z=>by cases z) (λ_ z=>by cases z),?_,aw,f4.frame λb hb o ho=>?_,?_,λb hb=>A.off b ?_⟩
 ·obtain⟨dx',ev,e,z⟩:=A.ins;exact⟨dx',ev,by rw[aE r2];exact e,z.tups (kg A.sta)⟩
 ·rw[aE i1];exact A.inp
 ·rw[aE (λz=>s1.2.2.2 (by rw[<-z];exact hb))];exact ho
 ·have:=A.nd;unfold aL at this ⊢;rw[fV]at this;simp only[Og,NP,OZ]at this ⊢;exact⟨⟨this.1.1,this.1.2.1,this.1.2.2.2.2.2⟩,⟨this.2.1.1,this.2.1.2.2.2.2⟩,this.2.2.1.2.2.2,this.2.2.2.2.2.2⟩
 ·unfold aL at hb ⊢;rw[fV];simp only[NP]at hb ⊢;rcases hb with z|z|z|z
  ·exact .inl z
  ·exact .inr (.inl z)
  ·exact .inr (.inr (.inl z))
  ·exact .inr (.inr (.inr (.inr (.inr (.inr z)))))
theorem aD.push(A:aD cR cF cC H r ka ia sa ks cr PN s P2)(e:ae H H')(p0:H p=none)(h0:H ha=none)(a0:H aa=none)(n1:p≠ha)(n2:p≠aa)(n3:ha≠aa)(hk:∀ b∈P2,∃ o,H b=some o)(h1:H' p=some (.ins cF dx (eI f.n f.p ha aa)))(h2:H' ha=some (.lst (f.PL.map V.int)))(h3:H' aa=some (.lst (f.asked.map V.int))):
  aD cR cF cC (upd H' sa (.lst ((PN.reverse.map λt=>V.ref t.1)++[.ref p]))) r ka ia sa ks cr ((p,ha,aa)::PN) {s with st:=f::s.st} P2:=by
 have A':=A.same e;obtain⟨r1,r2,r3,i1,i2,s1,fn⟩:=A.ndr;have ow:∀ b∈aL r ia sa PN,b≠p/\b≠ha/\b≠aa:=λb hb=>by obtain⟨o,ho,_⟩:=A.has b hb;exact⟨bX ho p0,bX ho h0,bX ho a0⟩
 have os:=ow sa (by simp[aL]);refine⟨?_,A'.kn.upd (A.off sa (by simp[aL])) A'.sta (λ_ z=>by cases z) (λ_ z=>by cases z),?_,by rw[aw];simp,⟨⟨dx,?_⟩,?_,?_,A'.fr.frame λb hb o ho=>?_⟩,?_,λb hb=>?_⟩
 ·obtain⟨dx',ev,e,z⟩:=A'.ins;exact⟨dx',ev,by rw[aE r2];exact e,z.tups (kg A'.sta)⟩
 ·rw[aE i1];exact A'.inp
 ·rw[aE os.1.symm];exact h1
 ·rw[aE os.2.1.symm];exact h2
 ·rw[aE os.2.2.symm];exact h3
 ·rw[aE (λz=>s1 (by rw[<-z];exact hb))];exact ho
 ·have nd:=A.nd;have o1:=ow r (by simp[aL]);have o2:=ow ia (by simp[aL]);have of':∀ b∈cB PN,b≠p/\b≠ha/\b≠aa:=λb hb=>ow b (by simp[aL,hb]);unfold aL at nd ⊢;rw[fV];simp only[Og,NP,OZ]at nd ⊢;exact⟨⟨nd.1.1,nd.1.2.1,o1.1,o1.2.1,o1.2.2,nd.1.2.2⟩,⟨nd.2.1.1,o2.1,o2.2.1,o2.2.2,nd.2.1.2⟩,⟨os.1,os.2.1,os.2.2,nd.2.2.1⟩,⟨n1,n2,λz=>(of' p z).1 rfl⟩,⟨n3,λz=>(of' ha z).2.1 rfl⟩,λz=>(of' aa z).2.2 rfl,nd.2.2.2⟩
 ·have kn:∀ b∈P2,b≠p/\b≠ha/\b≠aa:=λb hb=>by obtain⟨o,ho⟩:=hk b hb;exact⟨bX ho p0,bX ho h0,bX ho a0⟩
  unfold aL at hb;rw[fV]at hb;simp only[NP]at hb;rcases hb with rfl|rfl|rfl|rfl|rfl|rfl|hb
  ·exact A.off b (by simp[aL])
  ·exact A.off b (by simp[aL])
  ·exact A.off b (by simp[aL])
  ·exact λz=>(kn _ z).1 rfl
  ·exact λz=>(kn _ z).2.1 rfl
  ·exact λz=>(kn _ z).2.2 rfl
  ·exact A.off b (by simp[aL,hb])
end
theorem HA{xs:List α}{v:α}:fe (xs++[v]) (-1)=some v:=by unfold fe ix;rw[NR (by omega),NU (by simp;omega),show((-1:Int)+((xs++[v]).length:Nat)).toNat=xs.length by simp;omega];simp
theorem j5{t:Fa}:fe ((t::PN).reverse.map λt=>V.ref t.1) (-1)=some (.ref t.1):=by rw[List.reverse_cons,Oe];exact HA
theorem tm {c:Int}{fs ns:QS}(h:Sm (c::fs)):∀(i:Nat) (f n:Int),fs[i]?=some f->ns[i]?=some n->gb f n:=λi f n e _=>.inl (h f (NZ _ (bT e)))
theorem oq{f:Fm}(h:kC ks cr f):(cP f).length=8:=by unfold cP;simp[h.h4,h.a2]
theorem bz.craft(A:bz cC H ka ks cr P2){m:Int}(hm:m∈ks):∃ kvs p f,H ka=some (.dK kvs)/\aI kvs (.inl m)=some (.ref p)/\dI cC H p (cr m) f:=by obtain⟨kvs,e,q⟩:=A.d;obtain⟨v,e1,p,f,rfl,e3,_⟩:=q.2.2 m hm;exact⟨kvs,p,f,e,e1,e3⟩
theorem bz.no(A:bz cC H ka ks cr P2){m:Int}(hm:m∉ks):∃ kvs,H ka=some (.dK kvs)/\aI kvs (.inl m)=none:=by obtain⟨kvs,e,q⟩:=A.d;exact⟨kvs,e,q.no hm⟩
def jH (K:Fg)(H:Hp)(a:Addr)(ls:QT):Prop:=∃ xs,H a=some (.lst xs)/\av K H (ls.map nums) xs
theorem jH.same{ls:QT}(e:ae H H')(h:jH K H a ls):jH K H' a ls:=by obtain⟨xs,h1,h2⟩:=h;exact⟨xs,e _ _ h1,av.same e _ h2⟩
theorem wW{ls:QT}{f:QW}(h:ai H (bx ls) v f):∃ a,v=.ref a/\jH K H a ls:=by unfold bx ai at h;obtain⟨a,xs,r,rfl,rfl,h1,h2⟩:=h;exact⟨a,rfl,xs,h1,ak.reps (K:=K) _ h2⟩
theorem dI.out(h9:∀ d∈c.PD,gc d)(h:dI cC H p c fp):∃ dx y1 y2 b3 b4 P9 Qo,H p=some (.ins cC dx (de (.ref y1) (.ref y2) (.ref b3) (.ref b4)))/\jH K H y1 c.PJ/\jH K H y2 c.PB/\H b3=some (.lst P9)/\lj H c.PD P9/\H b4=some (.lst Qo)/\R2 (λls x=>∃ a,x=.ref a/\jH K H a ls) c.PF Qo:=by
 obtain⟨dx,w1,w2,w3,w4,f,rfl,hp,r⟩:=h;obtain⟨x1,x2,x3,x4,f1,f2,f3,f4,e,g1,g2,g3,g4⟩:=vH r;cases e;obtain⟨y1,rfl,hy1⟩:=wW (K:=K) g1;obtain⟨y2,rfl,hy2⟩:=wW (K:=K) g2;obtain⟨b3,P9,r3,rfl,h3,z3⟩:=ai.lso g3;obtain⟨b4,Qo,r4,rfl,h4,z4⟩:=ai.lso g4;refine⟨dx,y1,y2,b3,b4,P9,Qo,hp,hy1,hy2,h3,⟨by simpa using z3.length,λi d x e1 e2=>?_⟩,h4,⟨by simpa using z4.length,λi ls x e1 e2=>?_⟩⟩
 ·obtain⟨f,hf⟩:=ak.item z3 i (dv d) x (by rw[aR,e1];rfl) e2;exact wl (wX (h9 d (bT e1))) hf
 ·obtain⟨f,hf⟩:=ak.item z4 i (bx ls) x (by rw[aR,e1];rfl) e2;exact wW hf
theorem Cr.Rt.sm(h:c.Rt):(∀ l∈c.PJ,l.length=9/\Sm l)/\(∀ l∈c.PB,l.length=9/\Sm l)/\(∀ ls∈c.PF,∀ l∈ls,l.length=9/\Sm l):=by have r:gm c.PJ c.PB c.PD c.PF=true:=h.r;simp only[gm,j3,mz,my,iN,NS,NY,ON,On,OM,id_eq]at r;obtain⟨⟨⟨_,a1⟩,_,a2⟩,_,_,c2⟩:=r;exact⟨λl hl=>⟨h.nine.n9 l hl,kQ (a1 l hl)⟩,λl hl=>⟨h.nine.l9 l hl,kQ (a2 l hl)⟩,λls hls l hl=>⟨(h.nine.o9 ls hls).2 l hl,kQ ((c2 ls hls).2 l hl)⟩⟩
def sx:Option Nat->V
 |some i=>.int (i:Int)|none=>.non
theorem JU{ls:QT}{P:QS->Bool}(h:(ls.take i).findIdx? P=none)(e:ls[i]?=some l):ls.findIdx? P=if P l=true then some i else(ls.drop (i+1)).findIdx? P |>.map (·+(i+1)):=by
 obtain⟨hi,rfl⟩:=dF.mp e;have s:ls=ls.take i++ls[i]::ls.drop (i+1):=by rw[List.getElem_cons_drop,List.take_append_drop]
 have l':(ls.take i).length=i:=by rw[OB];omega
 conv=>lhs;rw[s]
 rw[List.findIdx?_append,h,List.findIdx?_cons];simp only[Option.none_or,l'];split
 ·simp
 ·simp only[Option.map_map];congr 1;funext x;simp;omega
variable {y:V}
theorem vW{g:Addr}(h:ar K H g [x,y]\/aH K H g [x,y])(q:Q x H):mQ K (.ref g) (.int 0) H Q:=by
 rcases h with h|h
 ·exact bW h dU q
 ·exact aZ h dU q
theorem vV{g:Addr}(h:ar K H g [x,y]\/aH K H g [x,y])(q:Q y H):mQ K (.ref g) (.int 1) H Q:=by
 rcases h with h|h
 ·exact bW h (bJ (j:=1) rfl) q
 ·exact aZ h (bJ (j:=1) rfl) q
end My
namespace L2
open PySem PySem.Spec PySem.Calls PyProof.Rows PySem.W
theorem rL {K:Fg}{σ:St}{H:Hp}{Q:VK}{T:String}{r:V->QV->Hp->VK->Prop}{to:TE}(h:to σ H λx H1=>oC K T x H1/\r x [] H1 Q):qb K T r to σ H Q:=h
section
variable {X:Cx}{CX:jX}{C:Addr}{ps:List Str}{j k:Nat}{sp:Sp}{E:XK}{x m:Str}{o e:Expr}{es:List Expr}{ta te:TE}{t:TA}{p pos apos:Pos}
end
end L2
namespace My
open PySem L2 PyProof.Rows
def a_ (S:QW)(H:Hp)(T:QW)(H':Hp):Prop:=bc S H H'/\(∀ b∈T,b∈S\/H b=none)/\cO H H'
variable {S:QW}{H:Hp}
theorem a_.refl:a_ S H S H:=⟨λ_ _ _ h=>h,λ_ h=>.inl h,λ_ h=>h⟩
variable {T:QW}{H1:Hp}
theorem a_.trans{U:QW}{H2:Hp}(a:a_ S H T H1)(b:a_ T H1 U H2):a_ S H U H2:=by
 have k:∀ c∈T,c∈S\/H c=none:=a.2.1;refine⟨λc o n e=>b.1 c o (λz=>?_) (a.1 c o n e),λc hc=>?_,λc hc=>a.2.2 c (b.2.2 c hc)⟩
 ·rcases k c z with w|w
  ·exact n w
  ·rw[w]at e;cases e
 ·rcases b.2.1 c hc with z|z
  ·exact k c z
  ·exact .inr (a.2.2 c z)
variable {H':Hp}
theorem a_.same(e:ae H H'):a_ S H S H':=⟨e.offA,λ_ h=>.inl h,e.fr⟩
theorem C7(e:bc S H H')(h:∀ b∈S,∃ o,H' b=some o):cO H H':=λb hb=>by
 cases eb:H b with
 |none=>rfl
 |some o=>
  by_cases w:b∈S
  ·obtain⟨u,hu⟩:=h b w;rw[hu]at hb;cases hb
  ·rw[e b o w eb]at hb;cases hb
variable {p:Addr}{o:HO}
theorem a_.upd(h:p∈S):a_ S H S (upd H p o):=⟨ii h,λ_ h=>.inl h,jN⟩
theorem a_.less(h:∀ b∈T,b∈S):a_ S H T H:=⟨λ_ _ _ h=>h,λb z=>.inl (h b z),λ_ h=>h⟩
variable {cR cF cC r ka ia sa:Addr}{ks:QS}{cr:Int->Cr}{PN:List Fa}{s:Rs}{P2:QW}
theorem a_.offR(e:bc [r] H H')(A:aD cR cF cC H' r ka ia sa ks cr PN s P2):a_ (aL r ia sa PN) H (aL r ia sa PN) H':=
 ⟨λb o n=>e b o λz=>n (by rw[bu.mp z];simp[aL]),λ_ h=>.inl h,C7 e λb hb=>by
  rw[bu.mp hb]
  obtain⟨dx,ev,z,_⟩:=A.ins
  exact⟨_,z⟩⟩
def o8 (cr:Int->Cr)(s:Rs)(f:Fm)(st:List Fm):Rs:=match cQ (cr f.n).PB (cP f)with
 |some i=>{s with en:=some (brk "leaves" f i)}
 |none=>match st with
  |[]=>{s with st:=[],en:=some (oJ f)}
  |g::r=>{s with st:=gY cr g (f.PL.getD 0 0) (f.PL.getD 1 0)::r}
variable {st:List Fm}
theorem C6{f:Fm}(h:¬ f.p=((cr f.n).PD.length:Int)):cb cr f st=(f::st,lB cr f):=by cases st<;>(unfold cb;rw[NR h])
theorem CC{f:Fm}(h:f.p=((cr f.n).PD.length:Int)):cb cr f st=match cQ (cr f.n).PB (cP f)with
  |some i=>(f::st,some (brk "leaves" f i))
  |none=>match st with
   |[]=>([],some (oJ f))
   |g::r=>cb cr (gY cr g (f.PL.getD 0 0) (f.PL.getD 1 0)) r:=by
 cases st with
 |nil=>
  unfold cb
  rw[NU h]
  all_goals (cases cQ (cr f.n).PB (cP f)<;>rfl)
 |cons g r=>
  conv=>lhs;unfold cb
  rw[NU h]
  all_goals (cases cQ (cr f.n).PB (cP f)<;>rfl)
theorem Wf.take{f g:Fm}{r:List Fm}{l0 l1:Int}(h:Wf ks cr (f::g::r)):Wf ks cr (gY cr g l0 l1::r):=⟨λk hk=>by
 rcases NP.mp hk with rfl|hk
 ·exact C8 (h.tail.1 g NW) (h.2 g NW)
 ·exact h.tail.1 k (NZ _ hk),λk hk=>h.tail.2 k hk⟩
def iF (ks:QS)(cr:Int->Cr)(s0:Rs)(f0:Fm)(st0:List Fm)(s:Rs):Prop:=s.k=s0.k/\s.ins=s0.ins/\((s.en=none/\∃ f st,s.st=f::st/\Wf ks cr (f::st)/\cb cr f st=cb cr f0 st0)\/∃ e,s.en=some e/\(s.st,some e)=cb cr f0 st0)
def iw (s:Rs):Nat:=2*s.st.length+if s.en.isNone=true then 1 else 0
variable {s0:Rs}{f0:Fm}{st0:List Fm}
theorem iF.leave{f:Fm}(h:iF ks cr s0 f0 st0 s)(he:s.en=none)(hs:s.st=f::st)(hp:f.p=((cr f.n).PD.length:Int)):iF ks cr s0 f0 st0 (o8 cr s f st)/\iw (o8 cr s f st)<iw s:=by
 obtain⟨k1,k2,h|⟨e,he',_⟩⟩:=h
 ·obtain⟨_,f',st',e1,w,ec⟩:=h;rw[hs]at e1;injection e1 with e1 e2;subst e1;subst e2;rw[CC hp]at ec;obtain⟨sst,sins,sk,sen⟩:=s;dsimp only at hs he k1 k2;subst hs;subst he;unfold o8 iw;cases hb:cQ (cr f.n).PB (cP f)with
  |some i=>rw[hb]at ec;exact⟨⟨k1,k2,.inr ⟨_,rfl,ec⟩⟩,by simp⟩
  |none=>
   rw[hb]at ec;cases st with
   |nil=>exact⟨⟨k1,k2,.inr ⟨_,rfl,ec⟩⟩,by simp⟩
   |cons g r=>exact⟨⟨k1,k2,.inl ⟨rfl,_,r,rfl,w.take,ec⟩⟩,by simp⟩
 ·rw[he]at he';cases he'
theorem iF.stay{f:Fm}(h:iF ks cr s0 f0 st0 s)(he:s.en=none)(hs:s.st=f::st)(hp:¬ f.p=((cr f.n).PD.length:Int)):({s with en:=lB cr f}:Rs)=dH cr s0 f0 st0:=by
 obtain⟨k1,k2,h|⟨e,he',_⟩⟩:=h
 ·obtain⟨_,f',st',e1,w,ec⟩:=h;rw[hs]at e1;injection e1 with e1 e2;subst e1;subst e2;rw[C6 hp]at ec;unfold dH;rw[<-ec,<-k1,<-k2,<-hs]
 ·rw[he]at he';cases he'
theorem iF.ended(h:iF ks cr s0 f0 st0 s)(he:¬ s.en=none):s=dH cr s0 f0 st0:=by
 obtain⟨k1,k2,h|⟨e,he',ec⟩⟩:=h
 ·exact Oa h.1 he
 ·unfold dH;rw[<-ec,<-k1,<-k2,<-he']
theorem iF.top(h:iF ks cr s0 f0 st0 s)(he:s.en=none):∃ f st,s.st=f::st/\Wf ks cr (f::st):=by
 obtain⟨_,_,h|⟨e,he',_⟩⟩:=h
 ·obtain⟨_,f,st,e1,w,_⟩:=h;exact⟨f,st,e1,w⟩
 ·rw[he]at he';cases he'
variable {xs:QS}
theorem nY{k:Int}(h0:0<=k)(h:k<(xs.length:Int)):fe (xs.map V.int) k=some (.int (xs.getD k.toNat 0)):=by
 have hk:k.toNat<xs.length:=by omega
 exact o5 h0 (by rw[aR,NQ hk,N2,NQ hk];rfl)
variable {v:Int}
theorem wV{j:Nat}:(xs.map V.int).set j (.int v)=(xs.set j v).map V.int:=by rw[List.map_set]
theorem Hz{t:Fa}:((t::PN).reverse.map λt=>V.ref t.1).dropLast=PN.reverse.map λt=>V.ref t.1:=by rw[List.reverse_cons,Oe];exact List.dropLast_concat
theorem Hy{t:Fa}:((t::PN).reverse.map λt=>V.ref t.1)[((t::PN).reverse.map λt=>V.ref t.1).length - 1]?=some (.ref t.1):=by rw[List.reverse_cons,Oe];simp
theorem Rs.quiet(h:s.en=none):({s with en:=none}:Rs)=s:=by cases s;cases h;rfl
theorem Jw{t:Fa}:∀ b∈aL r ia sa PN,b∈aL r ia sa (t::PN):=λb h=>by
 unfold aL at h ⊢;rw[fV];simp only[NP]at h ⊢;rcases h with z|z|z|z
 ·exact .inl z
 ·exact .inr (.inl z)
 ·exact .inr (.inr (.inl z))
 ·exact .inr (.inr (.inr (.inr (.inr (.inr z)))))
variable {ha aa:Addr}
theorem Bk:p∈aL r ia sa ((p,ha,aa)::PN):=by simp[aL,fV]
theorem vn:ha∈aL r ia sa ((p,ha,aa)::PN):=by simp[aL,fV]
theorem vm:sa∈aL r ia sa PN:=by simp[aL]
theorem Bj:ia∈aL r ia sa PN:=by simp[aL]
theorem nJ:r∈aL r ia sa PN:=by simp[aL]
def vk (cr:Int->Cr)(ks:QS)(s:Rs)(f:Fm)(st:List Fm)(m a0 a1:Int):Rs:=if m∉ks then {s with en:=some [.str "lost"]}else if 20<=(f::st).length then {s with en:=some [.str "deep"]}else
   match cQ (cr m).PJ (eY a0 a1)with
   |some i=>{s with en:=some (brk "needs" f i)}
   |none=>dH cr s (fQ m a0 a1) (f::st)
variable {g0 g1 t0 t1:Int}
theorem Le{f:Fm}{m:Int}:dA cr ks s f st (.call m g0 g1 t0 t1)=vk cr ks s f st m (f.PL.getD g0.toNat 0) (f.PL.getD g1.toNat 0):=rfl
theorem a_.push{y:Addr}(e:ae H H1)(h1:H y=none)(h2:H ha=none)(h3:H aa=none):a_ (aL r ia sa PN) H (aL r ia sa ((y,ha,aa)::PN)) (L2.upd H1 sa o):=by
 refine⟨e.offA.trans (ii vm),λb hb=>?_,λb hb=>e.fr b (jN b hb)⟩;unfold aL at hb;rw[fV]at hb;simp only[NP]at hb;rcases hb with rfl|rfl|rfl|rfl|rfl|rfl|hb
 ·exact .inl nJ
 ·exact .inl Bj
 ·exact .inl vm
 ·exact .inr h1
 ·exact .inr h2
 ·exact .inr h3
 ·exact .inl (by simp[aL,hb])
theorem uh:∀{f:Fm}{st:List Fm},(cb cr f st).1.length<=(f::st).length
 |f,[]=>by
  unfold cb;split
  ·split<;>simp
  ·simp
 |f,g::st=>by
  unfold cb;split
  ·split
   ·simp
   ·exact Od uh (by simp)
  ·simp
theorem JT(h:s.st.length<=20):(gX cr ks s).st.length<=20:=by
 unfold gX;split
 ·exact h
 ·rename_i f st e;have cl:∀(t:Rs) (g:Fm),(dH cr t g st).st.length<=20:=λt g=>by have:=uh (cr:=cr) (f:=g) (st:=st);rw[e,N_]at h;rw[N_]at this;exact Od this h
  split
  ·exact h
  ·rename_i d _;cases d with
   |set hd l=>exact cl _ _
   |part hd l b=>exact cl _ _
   |draw hd lo hi=>
    unfold dA;dsimp only;split
    ·exact h
    ·split
     ·exact cl _ _
     ·exact h
   |turn l q=>exact cl _ _
   |hold l=>
    unfold dA;dsimp only;split
    ·exact h
    ·exact cl _ _
   |call m g0 g1 t0 t1=>
    unfold dA;dsimp only;split
    ·exact h
    ·split
     ·exact h
     ·rename_i l20;split
      ·exact h
      ·refine Od uh ?_;simp only[N_]at l20 ⊢;omega
variable {d:Dd}
theorem C5{f:Fm}(hst:s.st=f::st)(hd:hZ (cr f.n) f.p=some d):gX cr ks s=dA cr ks {s with k:=s.k+1,en:=s.en} f st d:=by obtain⟨a,b,c,e⟩:=s;dsimp only at hst;subst hst;unfold gX;dsimp only;rw[hd]
theorem Hw:decide (("part":Str)="set")=false:=by decide+kernel
theorem CA:decide (("draw":Str)="set")=false/\decide (("draw":Str)="part")=false:=by decide+kernel
theorem vU:decide (("turn":Str)="set")=false/\decide (("turn":Str)="part")=false/\decide (("turn":Str)="draw")=false:=by decide+kernel
theorem tJ:decide (("hold":Str)="set")=false/\decide (("hold":Str)="part")=false/\decide (("hold":Str)="draw")=false/\decide (("hold":Str)="turn")=false:=by decide+kernel
theorem o_:decide (("call":Str)="set")=false/\decide (("call":Str)="part")=false/\decide (("call":Str)="draw")=false/\decide (("call":Str)="turn")=false/\decide (("call":Str)="hold")=false:=by decide+kernel
def FW (H:Hp)(en:lS)(v:V):Prop:=∃ T,v=.ref T/\H T=some (.tup (en.getD [.str "cut"]))
variable {c:Cr}
theorem Cr.Rt.zero(h:c.Rt):(∀ l∈c.PB,eB [1,2,3,4] l=true)/\(∀ ls∈c.PF,∀ l∈ls,eB [7,8] l=true):=by have r:gm c.PJ c.PB c.PD c.PF=true:=h.r;simp only[gm,j3,mz,my,iN,NS,NY,ON,On,OM,id_eq]at r;obtain⟨⟨⟨_,a1⟩,_,a2⟩,_,_,c2⟩:=r;exact⟨λl hl=>a2 l hl,λls hls l hl=>(c2 ls hls).2 l hl⟩
variable {da ra sk:Addr}{lfp:QW}
section
variable {ins:QS}{f:Fm}
end
variable {a0 a1:Int}
theorem JS{k:Int}(h0:0<=a0)(h1:0<=a1):cQ (cL k).1 (eY a0 a1)=none:=by
 have e4:aP (ah 4) (eY a0 a1)=a0:=by simp[aP,ah,eY,bQ,OG]
 have e5:aP (ah 5) (eY a0 a1)=a1:=by simp[aP,ah,eY,bQ,OG]
 have n0:¬ a0<0:=by omega
 have n1:¬ a1<0:=by omega
 unfold cL cQ;split<;>simp[List.findIdx?_cons,e4,e5,n0,n1]
section
variable {H0:Hp}
end
def nG (r:Int×QS):D:=.tup [.int r.1,nums r.2]
def Bs (gs:List Du):List (Int×QS):=gs.map λg=>(eX g.1 g.2).getD (0,[])
theorem Hv {gs:List Du}(h:∀ g∈gs,found g):(gs.map λg=>fm (eX g.1 g.2))=(Bs gs).map nG:=by
 unfold Bs;rw[Ox];refine List.map_congr_left λg hg=>?_;have:=h g hg;unfold found at this;cases e:eX g.1 g.2 with
 |none=>rw[e]at this;cases this
 |some r=>obtain⟨w,ws⟩:=r;show fm (some (w,ws))=nG ((eX g.1 g.2).getD (0,[]));rw[e];rfl
section
variable {nn:QS}{fasR fasR' cB fasL':List Fa}{fa:Addr}{fv:QV}{sR sR' sL sL':Rs}
end
section
variable {pa b3:Addr}{v1 v2 v4:V}{P9:QV}{f1 f2 f3 f4:QW}
end
variable {n:Int}
section
variable {pl T:Addr}{u:V}{r:QV}
end
theorem Br:∀(i k:Nat) (ns:QS),bQ (List.replicate i 0++1::List.replicate k 0) ns=ns.getD i 0
 |0,k,[]=>rfl|0,k,n::ns=>by show 1*n+bQ (List.replicate k 0) ns=n;rw[uv,Int.one_mul,Int.add_zero]|i+1,k,[]=>rfl|i+1,k,n::ns=>by show 0*n+bQ (List.replicate i 0++1::List.replicate k 0) ns=ns.getD i 0;rw[Br,Int.zero_mul,Int.zero_add]
theorem FV:∀ i:Nat,i<8->ah (i:Int)=0::(List.replicate i 0++1::List.replicate (7 - i) 0):=by decide+kernel
variable {i:Nat}{ns:QS}
theorem lG(hi:i<8)(hl:ns.length=8):aP (ah (i:Int)) ns=ns.getD i 0:=by rw[FV i hi];show 0+bQ _ ns=_;rw[Int.zero_add];exact Br _ _ _
def jR (ch:Nat->Option QS)(ns:QS):QS:=(List.range 8).map λi=>((ch i).map λl=>aP l ns).getD (ns.getD i 0)
variable {ch:Nat->Option QS}
theorem mG{x:QS}(hl:ns.length=8)(h9:∀ i l,ch i=some l->l.length=9):aP (bo x (bf ch)) ns=aP x (jR ch ns):=by
 rw[EQ ns λl hl'=>?_]
 ·congr 1;unfold bf jR;rw[Ox];refine List.map_congr_left λi hi=>?_;have hi:=List.mem_range.mp hi;show aP ((ch i).getD (ah (0+(i:Int)))) ns=_;cases ch i with
  |none=>rw[Int.zero_add];exact lG hi hl
  |some l=>rfl
 ·obtain⟨i,_,rfl⟩:=bB.mp hl';cases e:ch i with
  |none=>exact bh _
  |some l=>exact h9 i l e
variable {l:QS}
theorem vj{h:Int}(h9:l.length=9):∀ i m,cA h l i=some m->m.length=9:=λi m e=>by
 unfold cA at e;split at e
 ·cases e;exact h9
 ·cases e
theorem vi {h0 h1:Int}{l0 l1:QS}(h9:l0.length=9)(k9:l1.length=9):∀ i m,bS h0 l0 h1 l1 i=some m->m.length=9:=λi m e=>by
 unfold bS at e;split at e
 ·cases e;exact k9
 ·split at e
  ·cases e;exact h9
  ·cases e
theorem sg:∀ i m,fc i=some m->m.length=9:=λi m e=>by unfold fc at e;repeat (first|(split at e)|(cases e;exact bh _)|(cases e;exact fM _)|cases e)
def v8 (h a:QS)(x y:Int):QS:=h++a++[x,y]
variable {y x w k0 k1 u:Int}{h a:QS}
section
theorem iK (h4:h.length=4)(a2:a.length=2):(v8 h a x y).length=8:=by unfold v8;simp[h4,a2]
theorem gR(h4:h.length=4)(a2:a.length=2):aP (ah 6) (v8 h a x y)=x:=by
 have:=lG (i:=6) (by decide) (iK (x:=x) (y:=y) h4 a2);rw[show(((6:Nat):Int))=6 from rfl]at this;rw[this];obtain⟨h0,h1,h2,h3,rfl⟩:=eO h4;match a,a2 with
 |[a0,a1],_=>rfl
theorem zT(h4:h.length=4)(a2:a.length=2):aP (ah 7) (v8 h a x y)=y:=by
 have:=lG (i:=7) (by decide) (iK (x:=x) (y:=y) h4 a2);rw[show(((7:Nat):Int))=7 from rfl]at this;rw[this];obtain⟨h0,h1,h2,h3,rfl⟩:=eO h4;match a,a2 with
 |[a0,a1],_=>rfl
theorem Cz{ms:QS}(l:ms.length=8)(h:∀ i,i<8->((ch i).map λl=>aP l ns).getD (ns.getD i 0)=ms.getD i 0):jR ch ns=ms:=by
 refine List.ext_getElem? λi=>?_;unfold jR;rw[aR];by_cases hi:i<8
 ·rw[OL hi];show some (((ch i).map λl=>aP l ns).getD (ns.getD i 0))=_;rw[h i hi,N2,NQ (by omega)];rfl
 ·rw[List.getElem?_eq_none (by rw[OU];omega),List.getElem?_eq_none (by omega)];rfl
theorem wU{k:Nat}(hk:k<ns.length):(ns.set k w).getD i 0=if k=i then w else ns.getD i 0:=by
 rw[N2,List.getElem?_set];by_cases e:k=i
 ·rw[NU e,NU e,NU hk];rfl
 ·rw[NR e,NR e,<-N2]
theorem vJ{k:Nat}(hk:k<h.length):(v8 h a x y).set k w=v8 (h.set k w) a x y:=by unfold v8;rw[Ow,List.set_append_left _ _ hk,Ow]
theorem rV {k:Int}(k0:0<=k)(k3:k<=3)(h4:h.length=4)(a2:a.length=2):jR (cA k l) (v8 h a x y)=v8 (h.set k.toNat (aP l (v8 h a x y))) a x y:=by
 have q:=iK (x:=x) (y:=y) h4 a2;rw[<-vJ (by omega)];refine Cz (by rw[Ou];exact q) λi hi=>?_;rw[wU (by omega)];unfold cA;by_cases e:k=0+(i:Int)
 ·rw[NU e,NU (by omega)];rfl
 ·rw[NR e,NR (by omega)];rfl
theorem lL(b0:0<=k0)(b0':k0<=3)(b1:0<=k1)(b1':k1<=3)(h4:h.length=4)(a2:a.length=2):jR (bS k0 (ah 6) k1 (ah 7)) (v8 h a x y)=v8 ((h.set k0.toNat x).set k1.toNat y) a x y:=by
 have q:=iK (x:=x) (y:=y) h4 a2;rw[<-vJ (by rw[Ou];omega),<-vJ (by omega)];refine Cz (by rw[Ou,Ou];exact q) λi hi=>?_;rw[wU (by rw[Ou];omega),wU (by omega)];unfold bS;by_cases e:k1=0+(i:Int)
 ·rw[NU e,NU (by omega)];exact zT h4 a2
 ·rw[NR e,NR (show ¬k1.toNat=i by omega)];by_cases e':k0=0+(i:Int)
  ·rw[NU e',NU (by omega)];exact gR h4 a2
  ·rw[NR e',NR (by omega)];rfl
theorem rT(b0:0<=k0)(b0':k0<=3)(b1:0<=k1)(b1':k1<=3)(h4:h.length=4)(a2:a.length=2):jR (bS 4 (ah k0) 5 (ah k1)) (v8 h a x y)=v8 h [h.getD k0.toNat 0,h.getD k1.toNat 0] x y:=by
 have e0:aP (ah k0) (v8 h a x y)=h.getD k0.toNat 0:=by have:=lG (i:=k0.toNat) (by omega) (iK (x:=x) (y:=y) h4 a2);rw[show((k0.toNat:Nat):Int)=k0 by omega]at this;rw[this];unfold v8;rw[Ow,N2,OT (by omega),<-N2]
 have e1:aP (ah k1) (v8 h a x y)=h.getD k1.toNat 0:=by have:=lG (i:=k1.toNat) (by omega) (iK (x:=x) (y:=y) h4 a2);rw[show((k1.toNat:Nat):Int)=k1 by omega]at this;rw[this];unfold v8;rw[Ow,N2,OT (by omega),<-N2]
 generalize h.getD k0.toNat 0=w0 at*;generalize h.getD k1.toNat 0=w1 at*;obtain⟨h0,h1,h2,h3,rfl⟩:=eO h4;match a,a2 with
 |[a0,a1],_=>
 simp[jR,bS,OG,e0,e1];simp[v8]
theorem NK(h4:h.length=4):jR fc (v8 h [a0,a1] x y)=v8 [a0,a1,0,0] [a0,a1] x y:=by obtain⟨h0,h1,h2,h3,rfl⟩:=eO h4;have e4:aP (ah 4) (v8 [h0,h1,h2,h3] [a0,a1] x y)=a0:=lG (i:=4) (by decide) rfl;have e5:aP (ah 5) (v8 [h0,h1,h2,h3] [a0,a1] x y)=a1:=lG (i:=5) (by decide) rfl;have e0:aP (kL 0) (v8 [h0,h1,h2,h3] [a0,a1] x y)=0:=xY _;simp[jR,fc,OG,e4,e5,e0];simp[v8]
theorem Cy(h9:l.length=9)(hz:eB [7,8] l=true)(h4:h.length=4)(a2:a.length=2):aP l (v8 h a x y)=aP l (v8 h a u v):=by
 obtain⟨c,f0,f1,f2,f3,f4,f5,f6,f7,rfl⟩:=nine h9;obtain⟨h0,h1,h2,h3,rfl⟩:=eO h4;match a,a2 with
 |[a0,a1],_=>
 simp[eB]at hz;obtain⟨_,rfl,rfl⟩:=hz;simp[aP,bQ,v8]
variable {g:QS}
theorem Eb(h9:l.length=9)(hz:eB [1,2,3,4] l=true)(h4:h.length=4)(g4:g.length=4):aP l (v8 h a x y)=aP l (v8 g a x y):=by obtain⟨c,f0,f1,f2,f3,f4,f5,f6,f7,rfl⟩:=nine h9;obtain⟨h0,h1,h2,h3,rfl⟩:=eO h4;obtain⟨g0,g1,g2,g3,rfl⟩:=eO g4;simp[eB]at hz;obtain⟨_,rfl,rfl,rfl,rfl⟩:=hz;simp[aP,bQ,v8]
theorem DL(h9:l.length=9)(hz:eB [1,2,3,4,7,8] l=true)(h4:h.length=4)(g4:g.length=4)(a2:a.length=2):aP l (v8 h a x y)=aP l (v8 g a u v):=by
 obtain⟨c,f0,f1,f2,f3,f4,f5,f6,f7,rfl⟩:=nine h9;obtain⟨h0,h1,h2,h3,rfl⟩:=eO h4;obtain⟨g0,g1,g2,g3,rfl⟩:=eO g4;match a,a2 with
 |[a0,a1],_=>
 simp[eB]at hz;obtain⟨_,rfl,rfl,rfl,rfl,rfl,rfl⟩:=hz;simp[aP,bQ,v8]
theorem vT (h4:h.length=4)(a2:a.length=2):aP (bo l gq) (v8 h a x y)=aP l (h++a++h.take 2):=by
 rw[EQ _ (λm hm=>by obtain⟨i,_,rfl⟩:=bB.mp hm;exact bh _)];obtain⟨h0,h1,h2,h3,rfl⟩:=eO h4;match a,a2 with
 |[a0,a1],_=>
 congr 1;have e:∀ i:Nat,i<8->aP (ah (i:Int)) (v8 [h0,h1,h2,h3] [a0,a1] x y)=(v8 [h0,h1,h2,h3] [a0,a1] x y).getD i 0:=λi hi=>lG hi rfl;have e0:=e 0 (by decide);have e1:=e 1 (by decide);have e2:=e 2 (by decide);have e3:=e 3 (by decide);have e4:=e 4 (by decide);have e5:=e 5 (by decide);unfold gq oY;simp[v8]at*;exact⟨e0,e1,e2,e3,e4,e5,e0,e1⟩
end
def sQ (cr:Int->Cr)(f:Fm):Prop:=∀ l∈aG (cr f.n).PB (cr f.n).PF f.p,∀ x y,0<=aP l (v8 f.PL f.asked x y)
theorem Cw(rt:c.Rt){p:Int}(hl:l∈aG c.PB c.PF p)(h4:h.length=4)(a2:a.length=2):aP l (v8 h a x y)=aP l (v8 h a u v):=by
 unfold aG at hl;split at hl
 ·obtain⟨m,_,rfl⟩:=bB.mp hl;rw[vT h4 a2,vT h4 a2]
 ·have:∃ ls∈c.PF,l∈ls:=by
   rw[N2]at hl;cases e:c.PF[p.toNat]? with
   |none=>rw[e]at hl;cases hl
   |some ls=>rw[e]at hl;exact⟨ls,bT e,hl⟩
  obtain⟨ls,m,hl⟩:=this;exact Cy ((rt.nine.o9 ls m).2 l hl) (rt.zero.2 ls m l hl) h4 a2
theorem uL{ls:QT}(h:∀ l∈ls,0<=aP l ns):cQ ls ns=none:=by unfold cQ;rw[List.findIdx?_eq_none_iff];intro l hl;have:=h l hl;exact N7 (by omega)
theorem wR (f:Fm)(h4:f.PL.length=4):cP f=v8 f.PL f.asked (f.PL.getD 0 0) (f.PL.getD 1 0):=by
 unfold cP v8;obtain⟨n,p,PL,asked⟩:=f;match PL,h4 with
 |[h0,h1,h2,h3],_=>rfl
structure lP (G:Int->Prop)(ks:QS)(cr:Int->Cr):Prop where
 ks:∀ m,G m->m∈ks
 rt:∀ m,G m->(cr m).Rt
 fd:∀ m,G m->∀ g∈(cr m).gs cr,found g
 cl:∀ m,G m->∀ k∈dB (cr m).PD,G k
variable {g:Du}{G:Int->Prop}
theorem lP.snd(h:lP G ks cr){m:Int}(hm:G m)(hg:g∈(cr m).gs cr)(hh:∀ l∈g.2,0<=aP l ns):0<=aP g.1 ns:=by
 obtain⟨_,gf⟩:=(h.rt m hm).gs (cr:=cr) λk hk=>h.rt k (h.cl m hm k hk);obtain⟨g9,_,h9⟩:=gf g hg;have:=h.fd m hm g hg;unfold found at this;cases e:eX g.1 g.2 with
 |none=>rw[e]at this;cases this
 |some r=>obtain⟨w,ws⟩:=r;exact LY ns g9 h9 (KQ e).2.2 hh
theorem Eh{lv:QT}{nt:QU}{o:df}:∀{ds:List Dd}{i q:Nat},ds[i]?=some d->g∈cz (aG lv nt ((q+i:Nat):Int)) (aG lv nt (((q+i:Nat):Int)+1)) (aG lv nt) o d->g∈fR lv nt o ds q
 |[],i,q,e,_=>by simp at e|c::ds,0,q,e,h=>by simp at e;subst e;unfold fR;exact Ob _ h|c::ds,i+1,q,e,h=>by unfold fR;refine N3 _ (Eh (i:=i) (by simpa using e) ?_);rw[show q+1+i=q+(i+1)by omega];exact h
theorem j8{p:Int}(p0:0<=p)(e:hZ c p=some d)(h:g∈cz (aG c.PB c.PF p) (aG c.PB c.PF (p+1)) (aG c.PB c.PF) (kY cr) d):g∈c.gs cr:=by unfold Cr.gs li;refine N3 _ (Eh (i:=p.toNat) (q:=0) e ?_);rw[Nat.zero_add,show((p.toNat:Nat):Int)=p by omega];exact h
theorem Jv(h:l∈aG c.PB c.PF 0):(bo l (bf fc),c.PJ)∈c.gs cr:=by unfold Cr.gs li k_;exact Ob _ (bB.mpr ⟨l,h,rfl⟩)
theorem DK(h:lP G ks cr){m:Int}(hm:G m)(hn:∀ l∈(cr m).PJ,0<=aP l (eY a0 a1)):sQ cr (fQ m a0 a1):=λl hl x y=>by
 have rt:=h.rt m hm;have:=h.snd hm (Jv (cr:=cr) hl) (ns:=v8 [0,0,0,0] [a0,a1] x y) λk hk=>by have hk:k∈(cr m).PJ:=hk;obtain⟨k9,kz⟩:=(show(∀ l∈(cr m).PJ,l.length=9/\eB [1,2,3,4,7,8] l=true)from by have r:gm (cr m).PJ (cr m).PB (cr m).PD (cr m).PF=true:=rt.r;simp only[gm,j3,iN,NS,NY,ON,On,OM,id_eq]at r;exact λl hl=>⟨rt.nine.n9 l hl,r.1.1.2 l hl⟩) k hk;rw[DL (g:=[0,0,0,0]) (u:=0) (v:=0) k9 kz rfl rfl rfl];exact hn k hk
 rw[mG rfl sg,NK rfl]at this;exact this
theorem oP{ls:QT}{fs:QS}(h9:∀ l∈ls,l.length=9):aP (bZ ls fs) ns=bQ fs (ls.map λl=>aP l ns):=by unfold bZ;rw[uB ns ls fs _ (by simp) h9,xZ,Int.zero_add]
theorem kt:aP (kL n) ns=n:=xY _
def Lk (cr:Int->Cr)(f g:Fm):Prop:=∃ m g0 g1 t0 t1,hZ (cr g.n) g.p=some (.call m g0 g1 t0 t1)/\f.n=m/\f.asked=[g.PL.getD g0.toNat 0,g.PL.getD g1.toNat 0]
def Bq (cr:Int->Cr)(n0:Int)(a:QS)(f:Fm):List Fm->Prop
 |[]=>f.n=n0/\f.asked=a|g::_=>Lk cr f g
def jo (G:Int->Prop)(cr:Int->Cr)(n0:Int)(a:QS):List Fm->Prop
 |[]=>True|f::st=>G f.n/\sQ cr f/\f.PL.length=4/\f.asked.length=2/\0<=f.p/\f.p<=((cr f.n).PD.length:Int)/\Bq cr n0 a f st/\jo G cr n0 a st
def fZ (cr:Int->Cr)(n0:Int)(a:QS)(en:lS):Prop:=en=none\/en=some [.str "dry"]\/en=some [.str "stray"]\/en=some [.str "deep"]\/∃ r0 r1,en=some [.str "done",.int r0,.int r1]/\∀ l∈(cr n0).PB,0<=aP l (v8 [0,0,0,0] a r0 r1)
section
variable {n0:Int}
theorem Ju(h:lP G ks cr){g:Fm}{m r0 r1:Int}(hg:G g.n)(D:sQ cr g)(g4:g.PL.length=4)(g2:g.asked.length=2)(p0:0<=g.p)(e:hZ (cr g.n) g.p=some (.call m g0 g1 t0 t1))(hm:G m)(hl:∀ l∈(cr m).PB,0<=aP l (v8 [0,0,0,0] [g.PL.getD g0.toNat 0,g.PL.getD g1.toNat 0] r0 r1)):sQ cr (gY cr g r0 r1):=λl hdl x y=>by
 have rt:=h.rt g.n hg;have rm:=h.rt m hm;have ok:=rt.parts.2.2.2.2.2 _ (bT (show(cr g.n).PD[g.p.toNat]?=some _ from e));obtain⟨b0,b1,c0,c1,_⟩:=ur ok;have hdl:l∈aG (cr g.n).PB (cr g.n).PF (g.p+1):=hdl;have:=h.snd hg (j8 (cr:=cr) p0 e (g:=(bo l (bf (bS t0 (ah 6) t1 (ah 7))),aG (cr g.n).PB (cr g.n).PF g.p++(cr m).PB.map λx=>bo x (bf (bS 4 (ah g0) 5 (ah g1))))) (by
  unfold cz;exact N3 _ (bB.mpr ⟨l,hdl,rfl⟩))) (ns:=v8 g.PL g.asked r0 r1) λk hk=>by
  rcases bC.mp (show k∈aG (cr g.n).PB (cr g.n).PF g.p++(cr m).PB.map λx=>bo x (bf (bS 4 (ah g0) 5 (ah g1)))from hk)with z|z
  ·exact D k z _ _
  ·obtain⟨q,hq,rfl⟩:=bB.mp z;rw[mG (iK g4 g2) (vi (bh _) (bh _)),rT b0.1 b0.2 b1.1 b1.2 g4 g2,Eb (g:=[0,0,0,0]) (rm.nine.l9 q hq) (rm.zero.1 q hq) g4 rfl];exact hl q hq
 rw[mG (iK g4 g2) (vi (bh _) (bh _)),lL c0.1 c0.2 c1.1 c1.2 g4 g2]at this;have et:(gY cr g r0 r1).PL=(g.PL.set t0.toNat r0).set t1.toNat r1:=by unfold gY;rw[e];rfl
 rw[et,show(gY cr g r0 r1).asked=g.asked from rfl];rw[Cw rt hdl (by rw[Ou,Ou];exact g4) g2 (u:=r0) (v:=r1)];exact this
theorem uq (h:lP G ks cr):∀{st:List Fm}{f:Fm},jo G cr n0 a (f::st)->fZ cr n0 a (cb cr f st).2/\((cb cr f st).2=none->jo G cr n0 a (cb cr f st).1)
 |st,f,⟨hG,D,h4,a2,p0,pn,B,S⟩=>by
  have rt:=h.rt f.n hG;have ln:=rt.parts.2.2.2.1;by_cases hp:f.p=((cr f.n).PD.length:Int)
  ·have lv:∀ l∈(cr f.n).PB,0<=aP l (cP f):=λl hl=>by have:=D (bo l gq) (by unfold aG;rw[NU (by rw[hp,ln])];exact bB.mpr ⟨l,hl,rfl⟩) 0 0;rw[vT h4 a2]at this;exact this
   have lz:∀ l∈(cr f.n).PB,0<=aP l (v8 [0,0,0,0] f.asked (f.PL.getD 0 0) (f.PL.getD 1 0)):=λl hl=>by rw[Eb (g:=f.PL) (rt.nine.l9 l hl) (rt.zero.1 l hl) rfl h4,<-wR f h4];exact lv l hl
   rw[CC hp,uL lv];match st,B,S with
   |[],B,_=>refine⟨.inr (.inr (.inr (.inr ⟨_,_,rfl,?_⟩))),λz=>by cases z⟩;rw[<-B.1,<-B.2];exact lz|g::st,B,S=>
    obtain⟨m,g0,g1,t0,t1,e,rfl,ea⟩:=B;obtain⟨gG,gD,g4,g2,gp0,gpn,gB,gS⟩:=S;rw[ea]at lz;have lt:g.p.toNat<(cr g.n).PD.length:=(dF.mp (show(cr g.n).PD[g.p.toNat]?=some _ from e)).1;refine uq h (f:=gY cr g (f.PL.getD 0 0) (f.PL.getD 1 0)) ⟨gG,Ju h gG gD g4 g2 gp0 e hG lz,?_,g2,?_,?_,?_,gS⟩
    ·unfold gY;rw[Ou,Ou];exact g4
    ·show 0<=g.p+1;omega
    ·show g.p+1<=((cr g.n).PD.length:Int);omega
    ·match st,gB with
     |[],gB=>exact gB|k::_,gB=>exact gB
  ·rw[C6 hp];have nn:lB cr f=none:=by
    unfold lB;rw[uL λl hl=>?_]
    ·rfl
    ·have:=D l (by unfold aG;rw[NR (by rw[ln];exact hp)];exact hl) (f.PL.getD 0 0) (f.PL.getD 1 0);rw[wR f h4];exact this
   exact⟨.inl nn,λ_=>⟨hG,D,h4,a2,p0,pn,B,S⟩⟩
 termination_by st=>st.length
theorem Ld(h:lP G ks cr){f:Fm}(S:jo G cr n0 a (f::st))(hst:s.st=f::st)(e:hZ (cr f.n) f.p=some d):fZ cr n0 a (dA cr ks s f st d).en/\((dA cr ks s f st d).en=none->jo G cr n0 a (dA cr ks s f st d).st):=by
 obtain⟨hG,D,h4,a2,p0,pn,B,S'⟩:=S;have rt:=h.rt f.n hG;have hdm:=bT (show(cr f.n).PD[f.p.toNat]?=some d from e);have ok:=rt.parts.2.2.2.2.2 _ hdm;have l9:=rt.nine.d9 _ hdm;have lt:f.p.toNat<(cr f.n).PD.length:=(dF.mp (show(cr f.n).PD[f.p.toNat]?=some d from e)).1;have Bh:∀{g:Fm},g.n=f.n->g.asked=f.asked->Bq cr n0 a g st:=λ{g} e1 e2=>by
  match st,B with
  |[],B=>exact⟨e1.trans B.1,e2.trans B.2⟩
  |k::_,B=>obtain⟨m,g0,g1,t0,t1,q1,q2,q3⟩:=B;exact⟨m,g0,g1,t0,t1,q1,e1.trans q2,e2.trans q3⟩
 have go:∀{g:Fm}{s':Rs},g.n=f.n->g.asked=f.asked->g.PL.length=4->0<=g.p->g.p<=((cr f.n).PD.length:Int)->sQ cr g->fZ cr n0 a (dH cr s' g st).en/\((dH cr s' g st).en=none->jo G cr n0 a (dH cr s' g st).st):=λ{g s'} e1 e2 g4 gp gn gD=>
  uq h ⟨by rw[e1];exact hG,gD,g4,by rw[e2];exact a2,gp,by rw[e1];exact gn,Bh e1 e2,S'⟩
 have put:∀{k x:Int}{s':Rs}{N:QT},0<=k->k<=3->(∀ l∈aG (cr f.n).PB (cr f.n).PF (f.p+1),∃ y,0<=aP l (v8 (f.PL.set k.toNat x) f.asked y y))->fZ cr n0 a (ft cr s' f st k x).en/\((ft cr s' f st k x).en=none->jo G cr n0 a (ft cr s' f st k x).st):=λ{k x s' N} k0 k3 hh=>by refine go (g:={f with PL:=f.PL.set k.toNat x,p:=f.p+1}) rfl rfl (by show(f.PL.set k.toNat x).length=4;rw[Ou];exact h4) (by show 0<=f.p+1;omega) (by show f.p+1<=((cr f.n).PD.length:Int);omega) λl hl u v=>?_;have hl:l∈aG (cr f.n).PB (cr f.n).PF (f.p+1):=hl;obtain⟨y,hy⟩:=hh l hl;show 0<=aP l (v8 (f.PL.set k.toNat x) f.asked u v);rw[Cw rt hl (by rw[Ou];exact h4) a2 (u:=y) (v:=y)];exact hy
 have nums:∀{l:QS}{x y:Int},l.length=9->eB [7,8] l=true->aP l (v8 f.PL f.asked x y)=aP l (cP f):=λ{l x y} q1 q2=>by rw[wR f h4];exact Cy q1 q2 h4 a2
 cases d with
 |set k l=>simp only[b_,ci,cD,NS,NY]at ok;obtain⟨⟨k0,k3⟩,lz⟩:=ok;refine put (N:=[]) k0 k3 λx hx=>⟨0,?_⟩;have:=h.snd hG (j8 (cr:=cr) p0 e (g:=(bo x (bf (cA k l)),aG (cr f.n).PB (cr f.n).PF f.p)) (by unfold cz;exact bB.mpr ⟨x,hx,rfl⟩)) (ns:=v8 f.PL f.asked 0 0) λq hq=>D q hq 0 0;rw[mG (iK h4 a2) (vj l9),rV k0 k3 h4 a2,nums l9 lz]at this;exact this
 |part k l b=>
  simp only[b_,ci,cD,NS,NY]at ok;obtain⟨⟨k0,k3⟩,lz,b1,_⟩:=ok;have q1:=Int.emod_add_mul_ediv (aP l (cP f)) b;have q2:=Oq (aP l (cP f)) (show b≠0 by omega);have q3:=Ot (aP l (cP f)) (show 0<b by omega);rw[show dA cr ks s f st (.part k l b)=ft cr s f st k (aP l (cP f)/b)from rfl];generalize hq:aP l (cP f)/b=q at*;refine put (N:=[]) k0 k3 λx hx=>⟨q,?_⟩;have:=h.snd hG (j8 (cr:=cr) p0 e (g:=(bo x (bf (cA k (ah 6))),aG (cr f.n).PB (cr f.n).PF f.p++[cp l b,al l b])) (by unfold cz;exact bB.mpr ⟨x,hx,rfl⟩)) (ns:=v8 f.PL f.asked q q) λz hz=>by
   rcases bC.mp (show z∈aG (cr f.n).PB (cr f.n).PF f.p++[cp l b,al l b]from hz)with w|w
   ·exact D z w _ _
   ·push_cast at w;rcases w with rfl|rfl
    ·unfold cp;rw[oP (λm hm=>by simp at hm;rcases hm with rfl|rfl;exact l9;exact bh _)];simp only[bw,Oh,bQ,gR h4 a2,nums l9 lz];rw[Int.neg_mul];omega
    ·unfold al;rw[oP (λm hm=>by simp at hm;rcases hm with rfl|rfl|rfl;exact bh _;exact fM _;exact l9)];simp only[bw,Oh,bQ,gR h4 a2,kt,nums l9 lz];omega
  rw[mG (iK h4 a2) (vj (bh _)),rV k0 k3 h4 a2,gR h4 a2]at this;exact this
 |draw k lo hi=>
  simp only[b_,ci,cD,NS,NY]at ok;obtain⟨⟨k0,k3⟩,_⟩:=ok;cases hin:s.ins with
  |nil=>
   have:dA cr ks s f st (.draw k lo hi)={s with en:=some [.str "dry"]}:=by unfold dA;rw[hin]
   rw[this];exact⟨.inr (.inl rfl),λz=>by cases z⟩
  |cons q r=>
   by_cases hq:lo<=q/\q<=hi
   ·have:dA cr ks s f st (.draw k lo hi)=ft cr {s with ins:=r} f st k q:=by unfold dA;rw[hin];dsimp only;rw[NU hq]
    rw[this];refine put (N:=[]) k0 k3 λx hx=>⟨q,?_⟩;have:=h.snd hG (j8 (cr:=cr) p0 e (g:=(bo x (bf (cA k (ah 6))),aG (cr f.n).PB (cr f.n).PF f.p++[cI lo,cJ hi])) (by unfold cz;exact bB.mpr ⟨x,hx,rfl⟩)) (ns:=v8 f.PL f.asked q q) λz hz=>by
     rcases bC.mp (show z∈aG (cr f.n).PB (cr f.n).PF f.p++[cI lo,cJ hi]from hz)with w|w
     ·exact D z w _ _
     ·push_cast at w;rcases w with rfl|rfl
      ·unfold cI;rw[oP (λm hm=>by simp at hm;rcases hm with rfl|rfl;exact bh _;exact fM _)];simp only[bw,Oh,bQ,gR h4 a2,kt];omega
      ·unfold cJ;rw[oP (λm hm=>by simp at hm;rcases hm with rfl|rfl;exact fM _;exact bh _)];simp only[bw,Oh,bQ,gR h4 a2,kt];omega
    rw[mG (iK h4 a2) (vj (bh _)),rV k0 k3 h4 a2,gR h4 a2]at this;exact this
   ·have:dA cr ks s f st (.draw k lo hi)={s with ins:=r,en:=some [.str "stray"]}:=by unfold dA;rw[hin];dsimp only;rw[NR hq]
    rw[this];exact⟨.inr (.inr (.inl rfl)),λz=>by cases z⟩
 |turn l q=>
  simp only[b_,cD,NS,NY]at ok;obtain⟨lz,q0,qn⟩:=ok;have e0:dA cr ks s f st (.turn l q)=dH cr s {f with p:=if 0<=aP l (cP f)then q else f.p+1} st:=rfl;by_cases hw:0<=aP l (cP f)
  ·rw[NU hw]at e0;rw[e0];refine go (g:={f with p:=q}) rfl rfl h4 q0 qn λx hx u v=>?_;have hx:x∈aG (cr f.n).PB (cr f.n).PF q:=hx;exact h.snd hG (j8 (cr:=cr) p0 e (g:=(x,aG (cr f.n).PB (cr f.n).PF f.p++[l])) (by unfold cz;exact Ob _ (bB.mpr ⟨x,hx,rfl⟩))) (ns:=v8 f.PL f.asked u v) λz hz=>by
    rcases bC.mp (show z∈aG (cr f.n).PB (cr f.n).PF f.p++[l]from hz)with w|w
    ·exact D z w _ _
    ·rw[bu.mp w,nums l9 lz];exact hw
  ·rw[NR hw]at e0;rw[e0];refine go (g:={f with p:=f.p+1}) rfl rfl h4 (by show 0<=f.p+1;omega) (by show f.p+1<=((cr f.n).PD.length:Int);omega) λx hx u v=>?_;have hx:x∈aG (cr f.n).PB (cr f.n).PF (f.p+1):=hx;exact h.snd hG (j8 (cr:=cr) p0 e (g:=(x,aG (cr f.n).PB (cr f.n).PF f.p++[iI l])) (by unfold cz;exact N3 _ (bB.mpr ⟨x,hx,rfl⟩))) (ns:=v8 f.PL f.asked u v) λz hz=>by
    rcases bC.mp (show z∈aG (cr f.n).PB (cr f.n).PF f.p++[iI l]from hz)with w|w
    ·exact D z w _ _
    ·rw[bu.mp w];unfold iI;rw[oP (λm hm=>by simp at hm;rcases hm with rfl|rfl;exact l9;exact fM _)];simp only[bw,Oh,bQ,kt,nums l9 lz];omega
 |hold l=>
  simp only[b_]at ok;have hw:0<=aP l (cP f):=by have:=h.snd hG (j8 (cr:=cr) p0 e (g:=(l,aG (cr f.n).PB (cr f.n).PF f.p)) (by unfold cz;exact Ob _ (bu.mpr rfl))) (ns:=v8 f.PL f.asked 0 0) λz hz=>D z hz 0 0;rw[nums l9 ok]at this;exact this
  have er:dA cr ks s f st (.hold l)=dH cr s {f with p:=f.p+1} st:=by
   have fb:cQ [l] (cP f)=none:=uL λm hm=>by rw[bu.mp hm];exact hw
   simp only[dA,fb]
  rw[er];refine go (g:={f with p:=f.p+1}) rfl rfl h4 (by show 0<=f.p+1;omega) (by show f.p+1<=((cr f.n).PD.length:Int);omega) λx hx u v=>?_;have hx:x∈aG (cr f.n).PB (cr f.n).PF (f.p+1):=hx;exact h.snd hG (j8 (cr:=cr) p0 e (g:=(x,aG (cr f.n).PB (cr f.n).PF f.p++[l])) (by unfold cz;exact N3 _ (bB.mpr ⟨x,hx,rfl⟩))) (ns:=v8 f.PL f.asked u v) λz hz=>by
   rcases bC.mp (show z∈aG (cr f.n).PB (cr f.n).PF f.p++[l]from hz)with w|w
   ·exact D z w _ _
   ·rw[bu.mp w,nums l9 ok];exact hw
 |call m g0 g1 t0 t1=>
  obtain⟨b0,b1,c0,c1,_⟩:=ur ok;have hm:G m:=h.cl f.n hG m (by unfold dB;exact OI.mpr ⟨_,hdm,rfl⟩);have mk:=h.ks m hm;have rm:=h.rt m hm;have nd:∀ l∈(cr m).PJ,0<=aP l (eY (f.PL.getD g0.toNat 0) (f.PL.getD g1.toNat 0)):=λl hl=>by have:=h.snd hG (j8 (cr:=cr) p0 e (g:=(bo l (bf (bS 4 (ah g0) 5 (ah g1))),aG (cr f.n).PB (cr f.n).PF f.p)) (by unfold cz;exact Ob _ (bB.mpr ⟨l,hl,rfl⟩))) (ns:=v8 f.PL f.asked 0 0) λz hz=>D z hz 0 0;rw[mG (iK h4 a2) (vi (bh _) (bh _)),rT b0.1 b0.2 b1.1 b1.2 h4 a2]at this;have r:gm (cr m).PJ (cr m).PB (cr m).PD (cr m).PF=true:=rm.r;simp only[gm,j3,iN,NS,NY,ON,On,OM,id_eq]at r;rw[DL (g:=[0,0,0,0]) (u:=0) (v:=0) (rm.nine.n9 l hl) (r.1.1.2 l hl) h4 rfl rfl]at this;exact this
  by_cases h20:20<=(f::st).length
  ·have er:dA cr ks s f st (.call m g0 g1 t0 t1)={s with en:=some [.str "deep"]}:=by simp only[dA];rw[NR (λz=>z mk),NU h20]
   rw[er];exact⟨.inr (.inr (.inr (.inl rfl))),λz=>by cases z⟩
  ·have er:dA cr ks s f st (.call m g0 g1 t0 t1)=dH cr s (fQ m (f.PL.getD g0.toNat 0) (f.PL.getD g1.toNat 0)) (f::st):=by simp only[dA];rw[NR (λz=>z mk),NR h20,uL nd]
   rw[er];exact uq h ⟨hm,DK h hm nd,rfl,rfl,by show(0:Int)<=0;omega,by show(0:Int)<=_;omega,⟨m,g0,g1,t0,t1,e,rfl,rfl⟩,hG,D,h4,a2,p0,pn,B,S'⟩
theorem ug (h:lP G ks cr):∀(k:Nat) {s:Rs},fZ cr n0 a s.en->(s.en=none->jo G cr n0 a s.st)->fZ cr n0 a (eF cr ks k s).en/\((eF cr ks k s).en=none->jo G cr n0 a (eF cr ks k s).st)
 |0,s,he,hs=>⟨he,hs⟩
 |k+1,s,he,hs=>by
  by_cases z:s.en=none
  ·rw[show eF cr ks (k+1) s=eF cr ks k (gX cr ks s)from by show(if s.en=none then _ else _)=_;rw[NU z]];have S:=hs z;cases hst:s.st with
   |nil=>
    have:gX cr ks s=s:=by unfold gX;rw[hst]
    rw[this];exact ug h k he hs
   |cons f st=>
    rw[hst]at S;cases hd:hZ (cr f.n) f.p with
    |none=>
     have:gX cr ks s=s:=by unfold gX;rw[hst];dsimp only;rw[hd]
     rw[this];exact ug h k he hs
    |some d=>rw[C5 hst hd];obtain⟨e1,e2⟩:=Ld (s:={s with k:=s.k+1,en:=s.en}) h S hst hd;exact ug h k e1 e2
  ·rw[show eF cr ks (k+1) s=s from by show(if s.en=none then _ else _)=_;rw[NR z]];exact⟨he,hs⟩
end
theorem JR{k:Int}(h:a0<0):cQ (cL k).1 (eY a0 a1)≠none:=by
 have e4:aP (ah 4) (eY a0 a1)=a0:=by simp[aP,ah,eY,bQ,OG]
 unfold cL cQ;split<;>simp[List.findIdx?_cons,e4,h]
end My
set_option compiler.extract_closed false
set_option maxHeartbeats 8000000
open PySem.W (mg_of nsIn findIn mg_none_of isFn keepIn excIn fnOf codeIn kia_one makesIn)
local macro_rules|`(tactic|delta $xs*)=>do
 let ts<-xs.mapM fun x=>`(Lean.Parser.Tactic.tacticSeq|refine $x ?_)
 `(tactic|first $[|$ts]*)
local macro_rules | `(tactic|walk_at "gs1")=>`(tactic|first
  |(with_reducible first|delta L2.rM L2.Hf L2.rf L2.Gw L2.Gv L2.Fw|refine L2.rF fun T kT U kU=>?_|delta L2.zK L2.Gz L2.NE L2.zN L2.ji L2.iy L2.qY L2.qZ L2.IA L2.zM L2.rL L2.GM L2.rH L2.GL L2.GY L2.Gs L2.i_orV L2.Gr L2.rO L2.zH L2.rh L2.rG L2.Gq L2.He L2.Gp L2.q_ L2.Gn L2.i_rev L2.GQ L2.i_rng2 L2.zE L2.Iz L2.GP L2.G_ L2.i_par L2.i_parv L2.GO L2.ND L2.GU L2.FJ L2.GT L2.Ji L2.zI L2.zD L2.Gy L2.rj L2.Gx L2.GS L2.zL L2.GR L2.rK L2.Jj L2.FH L2.i_dpop L2.FG L2.HH L2.FE L2.re L2.zO L2.rC L2.rb L2.rg L2.zG L2.Hg L2.BC L2.rq L2.i_eqB L2.i_neB L2.rJ L2.rp)
  |((with_reducible refine L2.t9 ?_ ?_);focus (first|exact Or.inl ⟨by omega,by omega⟩|exact Or.inr ⟨by omega,by omega⟩))
  |((with_reducible refine L2.rA ?_ ?_);focus omega)
  |((with_reducible refine L2.GA ?_ ?_ ?_);(focus omega);(focus omega))
  |((with_reducible refine L2.i_pow ?_ ?_ ?_ ?_);(focus decide);(focus decide);(focus decide))
  |((with_reducible refine L2.BD (v:=?_) ?_ ?_);rotate_left;focus rfl)
  |with_reducible refine L2.rP (by assumption) ?_
  |with_reducible refine L2.NJ (by assumption) ?_
  |with_reducible refine L2.NH (by assumption) ?_)
local macro_rules | `(tactic|walk_at "sq")=>`(tactic|with_reducible first|refine L2.Fx fun _ _ _ _ _ _ _ _ NX kN=>?_|refine L2.Fy fun NX kN=>?_)
local macro_rules | `(tactic|walk_at "go1")=>`(tactic|first|walk_at "sq"|walk_at "gs1"|(refine L2.BD (by rfl) ?_))
local macro_rules | `(tactic|walk_at "gs")=>`(tactic|repeat (walk_at "gs1"))
local macro_rules | `(tactic|nofun)=>`(tactic|walk_at "gs")
local macro_rules | `(tactic|walk_at "go")=>`(tactic|repeat (walk_at "go1"))
local macro_rules | `(tactic|ac_rfl)=>`(tactic|walk_at "go")
local macro_rules | `(tactic|walk_at "sc")=>`(tactic|exact⟨rfl,rfl,rfl,by decide+kernel,rfl,by decide+kernel,by decide+kernel⟩)
local macro_rules | `(tactic|walk_at "q")=>`(tactic|((try with_reducible refine L2.rP (by assumption) ?_);walk_at "sq"))
local macro_rules | `(tactic|walk_at "sm")=>`(tactic|first|exact L2.sl rfl|exact L2.bF (by simp))
local macro_rules | `(tactic|left)=>`(tactic|walk_at "q")
local macro_rules | `(tactic|right)=>`(tactic|walk_at "sm")
local macro_rules | `(tactic|obtain $p:rcasesPatMed:=$e:term)=>`(tactic|(refine L2.fz fun G kG=>?_;rcases $e:term with $p:rcasesPatMed<;>(refine kG ?_;clear kG G)))
local macro_rules | `(tactic|walk_at "bd")=>`(tactic|(intro _ _ _ _ _ _ us hl;first|(obtain e:=L2.qT hl;subst e;rfl)|(obtain⟨_,e⟩:=L2.qS hl;subst e;rfl)|(obtain⟨_,_,e⟩:=L2.qR hl;subst e;rfl)|(obtain⟨_,_,_,e⟩:=L2.qP hl;subst e;rfl)|(obtain⟨_,_,_,_,e⟩:=L2.qO hl;subst e;rfl)|(obtain⟨_,_,_,_,_,e⟩:=L2.zw hl;subst e;rfl)))
local macro_rules | `(tactic|walk_at "ln")=>`(tactic|(intro vs H Q E h;first|(cases h;subst_vars;rfl)|(obtain⟨e,_⟩:=h;subst e;rfl)|(obtain⟨_,e,_⟩:=h;subst e;rfl)|(obtain⟨_,_,e,_⟩:=h;subst e;rfl)|(obtain⟨_,_,_,_,_,e,_⟩:=h;subst e;rfl)))
local macro_rules | `(tactic|exists $es,*)=>`(tactic|(refine⟨$es,*, ?_⟩; nofun))
namespace My
open PySem L2 PyProof.Rows
variable {K:Fg}
section
open PySem PySem.Spec PySem.Calls PyProof.Rows PySem.W L2
theorem bA(hA:((fj K).all id,gM K)=(true,gL))(j:Nat){b:Bool}(h:(fj K)[j]?=some b):b=true:=On.mp (Prod.mk.inj hA).1 b (bT h)
theorem eA(hA:((fj K).all id,gM K)=(true,gL))(j:Nat){α:Type}[BEq α][LawfulBEq α]{x y:α}(h:(fj K)[j]?=some (x==y)):x=y:=eq_of_beq (bA hA j h)
def fA {K:Fg}(hA:((fj K).all id,gM K)=(true,gL))(i j:Nat)(a:Addr)(n q:Str)(d:Stmt)(h1:(gM K)[i]?=some (L2.aX K a))(h2:gL[i]?=some (gS n q d))(h3:(fj K)[j]?=some (L2.aW K a q)):=L2.FB (n:=n) (ps:=jL d) (b:=gI d) (sc:=aK d) (Oj (h1.symm.trans ((congrArg (λl:List (Option L2.oG)=>l[i]?) (Prod.mk.inj hA).2).trans h2))) (bA hA j h3)
end
theorem pC:aU ["line","numbers","total","factor","number"] ["line","numbers"] (aK wc):=by walk_at "sc"
theorem Jt:aU ["line","numbers"] ["line","numbers"] (aK wA):=by walk_at "sc"
theorem Cv:aU ["i"] ["i"] (aK vN):=by walk_at "sc"
theorem oo:aU ["lines","weights","total","line","weight"] ["lines","weights"] (aK wQ):=by walk_at "sc"
theorem DJ:aU ["line","eight","total"] ["line","eight"] (aK wO):=by walk_at "sc"
theorem Nh:aU ["self","number","asked"] ["self","number","asked"] (aK y8):=by walk_at "sc"
theorem M6:aU ["self"] ["self"] (aK zg):=by walk_at "sc"
theorem Mz:aU ["self","hall","number","given","inputs"] ["self","hall","number","given","inputs"] (aK yO):=by walk_at "sc"
theorem DI:aU ["self","fuel"] ["self","fuel"] (aK wN):=by walk_at "sc"
theorem pN:aU ["self","frame","deed","kind","given"] ["self"] (aK xF):=by walk_at "sc"
theorem Eg:aU ["self","hand","number","frame"] ["self","hand","number"] (aK xq):=by walk_at "sc"
theorem Et:aU ["self","hand","low","high","drawn"] ["self","hand","low","high"] (aK xE):=by walk_at "sc"
theorem Es:aU ["self","line","frame"] ["self","line"] (aK xD):=by walk_at "sc"
theorem Lq:aU ["self","number","given"] ["self","number","given"] (aK xC):=by walk_at "sc"
theorem LN:aU ["self","number","given"] ["self","number","given"] (aK xU):=by walk_at "sc"
theorem EV:aU ["self","place","frame"] ["self","place"] (aK yR):=by walk_at "sc"
theorem E_:aU ["self","frame"] ["self"] (aK zi):=by walk_at "sc"
theorem E8:aU ["self","frame"] ["self"] (aK yZ):=by walk_at "sc"
theorem EM:aU ["self","frame"] ["self"] (aK xT):=by walk_at "sc"
theorem xV:aU ["self","left_0","left_1","frame","taken"] ["self","left_0","left_1"] (aK xB):=by walk_at "sc"
theorem Mx:aU ["self","frame"] ["self","frame"] (aK yN):=by walk_at "sc"
theorem yy:aU ["self","word","lines","numbers","unmet","frame"] ["self","word","lines","numbers"] (aK xS):=by walk_at "sc"
theorem yE:aU ["lines","numbers","spot","line"] ["lines","numbers"] (aK yQ):=by walk_at "sc"
theorem M5:aU ["asked"] ["asked"] (aK zf):=by walk_at "sc"
theorem zb:aU ["self","needs","leaves","deeds","notes"] ["self","needs","leaves","deeds","notes"] (aK yY):=by walk_at "sc"
theorem E2:aU ["lines"] ["lines"] (aK yM):=by walk_at "sc"
theorem EU:aU ["deed"] ["deed"] (aK yP):=by walk_at "sc"
theorem Mw:aU ["craft"] ["craft"] (aK yL):=by walk_at "sc"
theorem LM:aU ["craft"] ["craft"] (aK uC):=by walk_at "sc"
theorem Js:aU ["craft"] ["craft"] (aK wz):=by walk_at "sc"
theorem EJ:aU ["craft","needs_right"] ["craft"] (aK yw):=by walk_at "sc"
theorem yD:aU ["deeds","count"] ["deeds"] (aK yl):=by walk_at "sc"
theorem yC:aU ["craft","as_many"] ["craft"] (aK yk):=by walk_at "sc"
theorem ET:aU ["lines","nought_spots"] ["lines","nought_spots"] (aK yj):=by walk_at "sc"
theorem uK:aU ["line","nought_spots","small"] ["line","nought_spots"] (aK yv):=by walk_at "sc"
theorem EI:aU ["deed","last_place","kind"] ["deed","last_place"] (aK yu):=by walk_at "sc"
theorem MK:aU ["low","high"] ["low","high"] (aK yi):=by walk_at "sc"
theorem EH:aU ["number","given","taken","hands"] ["number","given","taken"] (aK yt):=by walk_at "sc"
theorem E6:aU ["hands"] ["hands"] (aK yT):=by walk_at "sc"
theorem Mf:aU ["hand"] ["hand"] (aK yr):=by walk_at "sc"
theorem Mv:aU ["number"] ["number"] (aK yK):=by walk_at "sc"
theorem Lc:aU ["low","number","high"] ["low","number","high"] (aK xp):=by walk_at "sc"
theorem uk:aU ["craft","place","eight"] ["craft","place"] (aK wM):=by walk_at "sc"
theorem uj:aU ["craft","crafts","number","told","place"] ["craft","crafts"] (aK wL):=by walk_at "sc"
theorem E1:aU ["craft","begun"] ["craft"] (aK yJ):=by walk_at "sc"
theorem pQ:aU ["craft","place","crafts","deed","notes","after","kind"] ["craft","place","crafts"] (aK yh):=by walk_at "sc"
theorem pP:aU ["deed","notes","after","line","by","not_above","greatest"] ["deed","notes","after"] (aK yg):=by walk_at "sc"
theorem yB:aU ["deed","notes","after","from_low","to_high"] ["deed","notes","after"] (aK yf):=by walk_at "sc"
theorem ES:aU ["line","notes","there","after","below_nought"] ["line","notes","there","after"] (aK ye):=by walk_at "sc"
theorem ou:aU ["deed","notes","after","other","given","taken","giving","taking","before"] ["deed","notes","after","other"] (aK yd):=by walk_at "sc"
theorem EL:aU ["goals","hypotheses"] ["goals","hypotheses"] (aK xR):=by walk_at "sc"
theorem EG:aU ["lines","eight"] ["lines","eight"] (aK yq):=by walk_at "sc"
theorem EF:aU ["changes"] ["changes"] (aK yp):=by walk_at "sc"
theorem Lp:aU ["number"] ["number"] (aK xA):=by walk_at "sc"
theorem gK:aU ["duty","row","goal","hypotheses","whole","weights","rest"] ["duty","row"] (aK wy):=by walk_at "sc"
theorem ui:aU ["duty","rows_of_weights","whole","weights"] ["duty"] (aK wK):=by walk_at "sc"
theorem ox:aU ["count","found","bit"] ["count"] (aK yV):=by walk_at "sc"
theorem M4:aU ["self"] ["self"] (aK ze):=by walk_at "sc"
theorem Lo:aU ["self","number","craft"] ["self","number","craft"] (aK xy):=by walk_at "sc"
theorem M3:aU ["self"] ["self"] (aK zd):=by walk_at "sc"
theorem yA:aU ["self","told","number"] ["self"] (aK yc):=by walk_at "sc"
theorem uF:aU ["self","number","rows"] ["self","number"] (aK xQ):=by walk_at "sc"
theorem LL:aU ["self","number"] ["self","number"] (aK xP):=by walk_at "sc"
theorem uJ:aU ["self","number","reached","waiting","other"] ["self","number"] (aK yo):=by walk_at "sc"
theorem EE:aU ["self","number"] ["self","number"] (aK yn):=by walk_at "sc"
theorem Na:aU ["self","number"] ["self","number"] (aK yS):=by walk_at "sc"
theorem Ng:aU ["self","number"] ["self","number"] (aK yX):=by walk_at "sc"
theorem Nf:aU ["self","number"] ["self","number"] (aK yW):=by walk_at "sc"
theorem Mu:aU ["self","number"] ["self","number"] (aK yI):=by walk_at "sc"
theorem E9:aU ["self","number","caller"] ["self","number"] (aK zk):=by walk_at "sc"
theorem LK:aU ["craft","other"] ["craft","other"] (aK xO):=by walk_at "sc"
theorem LJ:aU ["script","k"] ["script","k"] (aK ya):=by walk_at "sc"
theorem Jr:aU ["cell","k","many"] ["cell","k","many"] (aK wx):=by walk_at "sc"
theorem Er:aU ["cell","k","kind"] ["cell","k"] (aK xx):=by walk_at "sc"
theorem DH:aU ["i"] ["i"] (aK wJ):=by walk_at "sc"
theorem um:aU ["line","numbers","total","k"] ["line","numbers"] (aK xo):=by walk_at "sc"
theorem Lb:aU ["found"] ["found"] (aK xn):=by walk_at "sc"
theorem DG:aU ["cell"] ["cell"] (aK wI):=by walk_at "sc"
theorem EZ:aU ["cell","count","low"] ["cell","count"] (aK yH):=by walk_at "sc"
theorem mM:aU ["cell","count","numbers","kinds","more","hand","way","at","first","pair"] ["cell","count","numbers","kinds"] (aK yG):=by walk_at "sc"
theorem uI:aU ["cell","count","numbers","kinds","more","way","at"] ["cell","count","numbers","kinds"] (aK zc):=by walk_at "sc"
theorem i7:aU ["kind","cells","numbers","kinds","count","deeds","needs","notes"] ["kind","cells","numbers","kinds"] (aK yz):=by walk_at "sc"
theorem iR:aU ["script","start","many","size","numbers","k","number","kinds","found","count","cells"] ["script","start","many","size"] (aK yF):=by walk_at "sc"
theorem La:aU ["hall","number","given"] ["hall","number","given"] (aK xm):=by walk_at "sc"
theorem xc:aU ["told","parts","given","numbers"] ["told","parts","given"] (aK wH):=by walk_at "sc"
theorem fP:aU ["script","many","placed","hall","number","parts","given","rest","run","fuel"] ["script"] (aK lZ):=by walk_at "sc"
structure Bl (K:Fg)(mg:Str->Option Value):Prop where
 all:mg "all"=none
 any:mg "any"=none
 bool:mg "bool"=none
 enumerate:mg "enumerate"=none
 int:mg "int"=none
 isinstance:mg "isinstance"=none
 len:mg "len"=none
 list:mg "list"=none
 max:mg "max"=none
 min:mg "min"=none
 range:mg "range"=none
 sorted:mg "sorted"=none
 tuple:mg "tuple"=none
 zip:mg "zip"=none
 QH:∃ t,mg "NUMBERS"=some (.int 9 t)
 Ql:∃ t,mg "FACTORS"=some (.int 8 t)
 Qr:∃ t,mg "MOST_FRAMES"=some (.int 20 t)
 QB:∃ t,mg "MOST_LINES"=some (.int 2 t)
 QC:∃ t,mg "MOST_DEEDS"=some (.int 8 t)
 QD:∃ t,mg "LAST_HAND"=some (.int 3 t)
 Qs:∃ t,mg "LAST_NUMBER"=some (.int 99 t)
 Qt:∃ t,mg "GREATEST_BY"=some (.int 1000 t)
 Qq:∃ t,mg "GREATEST"=some (.int 1000000000 t)
 Qy:∃ t,mg "ASKED_0"=some (.int 4 t)
 Qx:∃ t,mg "ASKED_1"=some (.int 5 t)
 Qk:∃ t,mg "NEW_0"=some (.int 6 t)
 QN:∃ t,mg "NEW_1"=some (.int 7 t)
 Qz:∃ a,mg "HAND_SPOTS"=some (.ref a)/\∀ H,aH K H a [.int 1,.int 2,.int 3,.int 4]
 Qm:∃ a,mg "LEFT_SPOTS"=some (.ref a)/\∀ H,aH K H a [.int 7,.int 8]
 Qp:∃ a,mg "LEFT_AS_HANDS"=some (.ref a)/\∀ H,aH K H a [.int 0,.int 1,.int 2,.int 3,.int 4,.int 5,.int 0,.int 1]
 QI:∃ a,mg "WHOLES"=some (.ref a)/\∀ H,aH K H a [.int 1,.int 2,.int 3,.int 4]
structure Zt (K:Fg)(mg:Str->Option Value)(C:Nat->Addr):Prop where
 QP:jW K (C 0) fS
 QO:mg "HallError"=some (.ref (C 0))
 QF:jW K (C 1) (.ref (C 0)::fS)
 QE:mg "BadSheet"=some (.ref (C 1))
 Qw:jW K (C 2) (.ref (C 0)::fS)
 Qu:mg "NoCraft"=some (.ref (C 2))
 QM:jW K (C 3) (.ref (C 0)::fS)
 QJ:mg "Unmet"=some (.ref (C 3))
 QA:jW K (C 4) (.ref (C 0)::fS)
 QG:mg "Unfit"=some (.ref (C 4))
 PV:f_ K (C 5)
 QK:mg "Frame"=some (.ref (C 5))
 Qj:eZ K (C 5) "number"
 PX:eZ K (C 5) "place"
 PY:eZ K (C 5) "hands"
 Qn:eZ K (C 5) "asked"
 PR:f_ K (C 6)
 QR:mg "Run"=some (.ref (C 6))
 Qg:eZ K (C 6) "known"
 Qh:eZ K (C 6) "inputs_left"
 P1:eZ K (C 6) "stack"
 Qi:eZ K (C 6) "steps_done"
 P0:eZ K (C 6) "ending"
 PU:f_ K (C 7)
 QL:mg "Craft"=some (.ref (C 7))
 P4:eZ K (C 7) "needs"
 P6:eZ K (C 7) "leaves"
 PZ:eZ K (C 7) "deeds"
 P7:eZ K (C 7) "notes"
 P3:f_ K (C 8)
 QQ:mg "Hall"=some (.ref (C 8))
 P5:eZ K (C 8) "laid"
 P_:eZ K (C 8) "vouched"
variable {b p dx la na a y:Addr}{H H':Hp}{Q:VK}{E:XK}{i c n k0 k1:Int}{xs:QV}{C:Nat->Addr}{ns l l0 l1:QS}{P:QS->Prop}{S:QW}{v:V}{w:World}{mg:Str->Option Value}
section
variable {P:Program}{b8:Heap}{f:Addr}{fd:FuncData}(B:Bl K mg)(Z:Zt K mg C)
inductive AS (K:Fg)(vs:QV)(H:Hp)(Q:VK)(E:XK):Prop
 |mk (a:Addr) (ls:QT):vs=[.ref a]->aq K H (bx ls) (.ref a)->ls.length<=1000->(∀ v H',ae H H'->ao H H' (bx ls) v->Q v H')->AS K vs H Q E
include B Z in
theorem Mt (F:aS K "copied_lines" "copied_lines" yM f fd)(m:mg "copied_lines"=some (.ref f)):Fn P w K mg b8 "copied_lines" ["lines"] 1 (AS K):=by
 refine bR F E2 m λ_ _ _ _ H vs Q E hr h=>?_;obtain⟨a,ls,rfl,hA,hl,q⟩:=h;nomatch _,(ay (aJ (jC (bG.f E2 ["lines","line"] [false,true]) (db K (pv 0)) (λn=>(jg 1 n)) (mL (tu K) rfl B.list L2.om (jn 1 ag)))));unfold bx aq at hA;obtain⟨a',xs,e,hA,hx⟩:=hA;cases e;have lx:=hx.length;rw[aV]at lx;ac_rfl;nomatch a,rfl,⟨_,hA⟩;refine cX (dY hA) (ls.map nums) (by rw[aV];omega) (bF (by omega)) (λj x' d H4 R hj hd s4 hx' hR=>?_) (λv H4 s4 n4=>?_)
 ·obtain⟨d2,hd2,hrx⟩:=av.get' hx hx';rw[hd2]at hd;cases hd;rw[aR]at hd2;obtain⟨l,hl,rfl⟩:=ce.mp hd2;obtain⟨xa,rfl,hxa⟩:=gz.mp (aq.same s4 _ hrx);ac_rfl;refine tZ (.inl hxa) λp hp=>?_;exact hR _ _ (aB hp _) (ao.iif.mpr ⟨p,rfl,hp,aw⟩)
 exact q _ _ s4 n4
inductive AR (K:Fg)(vs:QV)(H:Hp)(Q:VK)(E:XK):Prop
 |mk (v:V) (d:D):vs=[v]->jJ H d v->(∀ v' H',ae H H'->ao H H' d v'->Q v' H')->AR K vs H Q E
include B Z in
theorem MJ (F:aS K "copied_deed" "copied_deed" yP f fd)(m:mg "copied_deed"=some (.ref f)):Fn P w K mg b8 "copied_deed" ["deed"] 1 (AR K):=by
 refine bR F EU m λ_ _ _ _ H vs Q E hr h=>?_;obtain⟨v,d,rfl,hd,q⟩:=h;nomatch _,(ay (aJ (mL (G0 K) rfl B.tuple L2.Eo (ie (jC (bG.f EU ["deed","part"] [false,true]) (oQ K (pv 0)) (λn=>(jg 1 n)) (w_ (fg (cq (s_ K) rfl B.isinstance L2.uH (jn 1 (dE (tQ (v:=.ty "list") rfl B.list L2.om rfl) ag)))) (mL (tu K) rfl B.list L2.om (jn 1 ag)) (pv 1))) ag))));obtain⟨t,xs,ds,rfl,rfl,ht,hl,h8,hp⟩:=hd;ac_rfl;nomatch t,rfl,⟨_,aH.of ht⟩;refine cX (pE (aH.of ht)) ds hl (bF (by omega)) (λj x d H1 R hj hd s1 hx hR=>?_) (λv H1 s1 n1=>?_)
 ·have part:=(hp j d x hd hx).sq s1.sq;ac_rfl;rcases part with⟨i,rfl,rfl⟩|⟨i,rfl,rfl⟩|⟨b,l,rfl,rfl,hb⟩|⟨b,i,k,rfl,rfl,hb⟩
  ·refine kI (.int i) L8 ?_;ac_rfl;exact hR _ _ (ae.refl _) ao.int
  ·refine kI (.str i) L7 ?_;ac_rfl;exact hR _ _ (ae.refl _) ao.str
  ·refine kI (.lst hb) tY ?_;ac_rfl;refine tZ (.inl (ar.of hb)) λp hp'=>?_;exact hR _ _ (aB hp' _) (ao.iif.mpr ⟨p,rfl,hp',aw⟩)
  ·refine kI (.tup hb) MM ?_;ac_rfl;exact hR _ _ (ae.refl _) ⟨[],ai.pair hb,OA,λ_ m=>by cases m⟩
 obtain⟨la,vs,rfl,la0,la1,fp,f1,f2,f3⟩:=ao.news n1;ac_rfl;refine Jp (ar.of la1) λp hp'=>?_;have s2:=aB hp' (.tup vs);exact q _ _ (s1.trans s2) (ao.tup (ak.sq s2.sq ds f1) f2 f3 aw)
inductive uX (K:Fg)(C:Nat->Addr)(vs:QV)(H:Hp)(Q:VK)(E:XK):Prop
 |mk (p dx:Addr) (v1 v2 v3 v4:V) (PJ PB:QT) (PD:List D) (PF:QU) (a3 a4:Addr) (P9 Qo:QV):vs=[.ref p,v1,v2,v3,v4]->H p=some (.ins (C 7) dx [])->aq K H (bx PJ) v1->aq K H (bx PB) v2->v3=.ref a3->ar K H a3 P9->v4=.ref a4->ar K H a4 Qo->PJ.length<=1000->PB.length<=1000->PD.length<=1000->PF.length<=1000->PD.length=P9.length->PF.length=Qo.length->(∀(i:Nat) d x,PD[i]?=some d->P9[i]?=some x->jJ H d x)->(∀(i:Nat) ls x,PF[i]?=some ls->Qo[i]?=some x->ls.length<=1000/\aq K H (bx ls) x)->(∀ H' w1 w2 w3 w4,(∀ b o,H b=some o->b≠p->H' b=some o)->H' p=some (.ins (C 7) dx (de w1 w2 w3 w4))->bD H H' (Cg PJ PB PD PF) [w1,w2,w3,w4]->Q .non H')->uX K C vs H Q E
variable (Q28:Fn P w K mg b8 "copied_lines" ["lines"] 1 (AS K))
include B Z Q28 in
theorem Ih (Q2a:Fn P w K mg b8 "copied_deed" ["deed"] 1 (AR K))(F:aS K "__init__" "Craft.__init__" yY f fd)(M:Mk K (C 7) f):kE P w K mg b8 "Craft" (C 7) ["self","needs","leaves","deeds","notes"] 2 (uX K C):=by
 refine zP F M zb Z.QL λ_ _ _ _ H vs Q E hr h=>?_;obtain⟨p,dx,v1,v2,v3,v4,PJ,PB,PD,PF,a3,a4,P9,Qo,rfl,hp,r1,r2,rfl,h3,rfl,h4,l1,l2,l3,l4,e3,e4,dr,nr,q⟩:=h;refine⟨_,(az (eG (pv 0) (jl Q28 hr (jn 1 ag)) rfl)
   (az (eG (pv 0) (jl Q28 hr (jn 2 ag)) rfl)
   (az (eG (pv 0) (jC (bG.f zb ["self","needs","leaves","deeds","notes","deed"] [false,false,false,false,false,true]) (db K (pv 3)) (λn=>(jg 5 n)) (jl Q2a hr (jn 5 ag))) rfl)
   (ay (eG (pv 0) (jC (bG.f zb ["self","needs","leaves","deeds","notes","lines"] [false,false,false,false,false,true]) (db K (pv 4)) (λn=>(jg 5 n)) (jl Q28 hr (jn 5 ag))) rfl))))),?_⟩
 obtain⟨b1,rfl⟩:∃ b,v1=.ref b:=by unfold bx aq at r1;obtain⟨a,_,e,_⟩:=r1;exact⟨a,e⟩
 obtain⟨b2,rfl⟩:∃ b,v2=.ref b:=by unfold bx aq at r2;obtain⟨a,_,e,_⟩:=r2;exact⟨a,e⟩
 ac_rfl;refine⟨b1,PJ,rfl,r1,l1,λw1 H1 s1 n1=>?_⟩;ac_rfl;refine⟨p,(C 7),dx,[],rfl,s1 _ _ hp,Z.PU,Z.P4,by show 0<1000;decide,?_⟩;have k1:Sq H (upd H1 p (.ins (C 7) dx (au "needs" w1 []))):=s1.sq.trans (jF (s1 _ _ hp) rfl);have u1:bD H (upd H1 p (.ins (C 7) dx (au "needs" w1 []))) [bx PJ] [w1]:=(bD.nil.snoc' (H:=H) (H1:=H) (ae.refl H).fr s1 n1).sq (jF (s1 _ _ hp) rfl);have f1:cO H (upd H1 p (.ins (C 7) dx (au "needs" w1 []))):=s1.fr.trans jN;ac_rfl;refine⟨b2,PB,rfl,aq.sq k1 _ r2,l2,λw2 H2 s2 n2=>?_⟩;have p2:=s2 _ _ (aw (H:=H1) (a:=p) (o:=.ins (C 7) dx (au "needs" w1 [])));ac_rfl;nomatch p,(C 7),dx,_,rfl,p2,Z.PU,Z.P6,N1 (eN (n:=1) (by decide)) (by decide);have k2:=k1.trans (s2.sq.trans (jF (o:=.ins (C 7) dx (au "leaves" w2 (au "needs" w1 []))) p2 rfl));have u2:=(u1.snoc' f1 s2 n2).sq (jF (o:=.ins (C 7) dx (au "leaves" w2 (au "needs" w1 []))) p2 rfl);have f2:cO H (upd H2 p (.ins (C 7) dx (au "leaves" w2 (au "needs" w1 [])))):=f1.trans (s2.fr.trans jN);ac_rfl;nomatch a3,rfl,⟨_,k2.lst h3⟩;refine cX (dY (k2.lst h3)) PD e3 (bF (by omega)) (λj x d H3 R hj hd s3 hx hR=>?_) (λw3 H3 s3 n3=>?_)
 ·ac_rfl;refine⟨x,d,rfl,(dr j d x hd hx).sq (k2.trans s3.sq),λv' H4 s4 n4=>?_⟩;exact hR _ _ s4 n4
 have p3:=s3 _ _ (aw (H:=H2) (a:=p) (o:=.ins (C 7) dx (au "leaves" w2 (au "needs" w1 []))));ac_rfl;nomatch p,(C 7),dx,_,rfl,p3,Z.PU,Z.PZ,N1 (eN (n:=2) (eN (n:=1) (by decide))) (by decide);have k3:=k2.trans (s3.sq.trans (jF (o:=.ins (C 7) dx (au "deeds" w3 (au "leaves" w2 (au "needs" w1 [])))) p3 rfl));have u3:=(u2.snoc' f2 s3 n3).sq (jF (o:=.ins (C 7) dx (au "deeds" w3 (au "leaves" w2 (au "needs" w1 [])))) p3 rfl);have f3:cO H (upd H3 p (.ins (C 7) dx (au "deeds" w3 (au "leaves" w2 (au "needs" w1 []))))):=f2.trans (s3.fr.trans jN);ac_rfl;nomatch a4,rfl,⟨_,k3.lst h4⟩;refine cX (dY (k3.lst h4)) (PF.map bx) (by rw[aV];exact e4) (bF (by omega)) (λj x d H4 R hj hd s4 hx hR=>?_) (λw4 H4 s4 n4=>?_)
 ·rw[aR]at hd;obtain⟨ls,hls,rfl⟩:=ce.mp hd;obtain⟨hz,hr2⟩:=nr j ls x hls hx;have hr3:=aq.sq (k3.trans s4.sq) _ hr2;obtain⟨b,rfl⟩:∃ b,x=.ref b:=by unfold bx aq at hr3;obtain⟨a,_,e,_⟩:=hr3;exact⟨a,e⟩
  ac_rfl;refine⟨b,ls,rfl,hr3,hz,λv' H5 s5 n5=>?_⟩;exact hR _ _ s5 n5
 have p4:=s4 _ _ (aw (H:=H3) (a:=p) (o:=.ins (C 7) dx (au "deeds" w3 (au "leaves" w2 (au "needs" w1 [])))));ac_rfl;nomatch p,(C 7),dx,_,rfl,p4,Z.PU,Z.P7,N1 (eN (n:=3) (eN (n:=2) (eN (n:=1) (by decide)))) (by decide);have u4:=(u3.snoc' f3 s4 n4).sq (jF (o:=.ins (C 7) dx (au "notes" w4 (au "deeds" w3 (au "leaves" w2 (au "needs" w1 []))))) p4 rfl);refine q _ w1 w2 w3 w4 (λb o e hb=>?_) aw u4;rw[aE hb];refine s4 _ _ ?_;rw[aE hb];refine s3 _ _ ?_;rw[aE hb];refine s2 _ _ ?_;rw[aE hb];exact s1 _ _ e
def sK (fs ns:QS):Prop:=∀(i:Nat) (f n:Int),fs[i]?=some f->ns[i]?=some n->gb f n
def zr (K:Fg)(R:Int->V):Sp:=λvs H Q _=>∃(a b:Addr) (c:Int) (fs ns:QS),vs=[.ref a,.ref b]/\ar K H a ((c::fs).map V.int)/\ar K H b (ns.map V.int)/\fs.length=8/\ns.length=8/\sK fs ns/\
 ∀ H',ae H H'->Q (R (c+bQ fs ns)) H'
def xt (K:Fg):Sp:=zr K .int
include B Z in
theorem Ig (F:aS K "worth" "worth" wc f fd)(m:mg "worth"=some (.ref f)):Fn P w K mg b8 "worth" ["line","numbers"] 1 (xt K):=by
 refine bR F pC m λ_ _ _ _ H vs Q E hr h=>?_;obtain⟨a,b,c,fs,ns,rfl,hA,hB,lf,ln,mo,q⟩:=h;refine⟨_,(az (js 2 pC.nd (jx K (pv 0) aj))
   (az (gy PassesOwn.never rfl (vR K rfl B.zip (bn (pF (je K) (pv 0) (pq aj) pw) (jn 1 ag))) (kS K (n:=2) rfl (gC (jg 3 pC.nd) (gC (jg 4 pC.nd) lA))) (ay (js 2 pC.nd (jp K (pv 2) (aO ik (pv 3) (pv 4))))))
   (ay (aJ (pv 2))))),?_⟩
 ac_rfl;refine bW hA (v:=.int c) dU ?_;ac_rfl;ac_rfl;refine .inl ⟨a,_,rfl,hA,λp hp=>?_⟩;have s1:=aB hp (.lst (cK ((c::fs).map V.int) (some 1) none));have ec:cK ((c::fs).map V.int) (some 1) none=fs.map V.int:=by unfold cK;rw[show HT.sIx ((c::fs).map V.int).length 0 (some 1)=1 by rw[show(1:Int)=((1:Nat):Int)by rfl,HT.sIx_nat];simp];rw[HT.sIx_none];simp[N6]
 rw[ec]at s1 ⊢;ac_rfl;nomatch p,b,rfl,⟨_,ar.of aw⟩,⟨_,s1.seq hB⟩;refine mC (w6 (n:=8) (ar.of aw) (s1.seq hB) (by simp[lf,ln])) (λi σ H2=>∃ x y,σ=[some (.ref a),some (.ref b),some (.int (c+bQ (fs.take i) (ns.take i))),x,y]/\ae (upd H p (.lst (fs.map V.int))) H2)
  ⟨none,none,by simp[bQ];rfl,ae.refl _⟩ (λi σ H2 ⟨_,_,_,e⟩=>e) ?_ ?_
 ·rintro i v σ H2 H3 hi ⟨x,y,rfl,s2⟩ s3 ⟨T,u,z,rfl,hT,eu,ez⟩;rw[aR]at eu ez;obtain⟨f,hf,rfl⟩:=ce.mp eu;obtain⟨n,hn,rfl⟩:=ce.mp ez;refine⟨T,_,rfl,aH.of hT,rfl,⟨_,_,rfl,?_⟩⟩;nomatch _,_,rfl;nomatch rfl;ac_rfl;refine t9 (mo i f n hf hn) ?_;ac_rfl;refine⟨some (.int f),some (.int n),?_,s2.trans s3⟩;rw[yb fs ns i f n hf hn,Int.add_assoc];rfl
 ·rintro σ H2 ⟨x,y,rfl,s2⟩;ac_rfl;rw[N6 (by omega),N6 (by omega)];exact q _ (s1.trans s2)
def xr (K:Fg):Sp:=zr K λt=>.bl (decide (0<=t))
variable (Q0:Fn P w K mg b8 "worth" ["line","numbers"] 1 (xt K))
include B Z Q0 in
theorem Ie (F:aS K "holds" "holds" wA f fd)(m:mg "holds"=some (.ref f)):Fn P w K mg b8 "holds" ["line","numbers"] 2 (xr K):=by refine bR F Jt m λ_ _ _ _ H vs Q E hr h=>?_;obtain⟨a,b,c,fs,ns,rfl,hA,hB,lf,ln,mo,q⟩:=h;nomatch _,(ay (aJ (jv vt (jl Q0 hr (jn 0 (jn 1 ag))) aj)));ac_rfl;refine⟨a,b,c,fs,ns,rfl,hA,hB,lf,ln,mo,λH' s1=>?_⟩;ac_rfl;exact q H' s1
def yx (K:Fg):Sp:=λvs H Q _=>∃ i:Int,vs=[.int i]/\∀ v H',ae H H'->ao H H' (nums (ah i)) v->Q v H'
theorem g6(q:∀ v H',ae H H'->ao H H' (nums (ah i)) v->Q v H'):yx K [.int i] H Q E:=⟨i,rfl,q⟩
include B Z in
theorem Hu (F:aS K "bare" "bare" vN f fd)(m:mg "bare"=some (.ref f)):Fn P w K mg b8 "bare" ["i"] 1 (yx K):=by
 refine bR F Cv m λ_ _ _ _ H vs Q E hr h=>?_;obtain⟨i,rfl,q⟩:=h;nomatch _,(ay (aJ (jp K (bv (jk ag)) (jC (bG.f Cv ["i","factor"] [false,true]) (iQ rfl B.range (dE (dS rfl B.Ql) ag)) (λn=>(jg 1 n)) (w_ (jt K hr (pv 1) (pv 0)) aj aj)))));ac_rfl;refine⟨by decide,λp hp=>?_⟩;ac_rfl;refine iX (by decide) (by decide) ?_;refine cX (n:=8) lH (((List.range 8).map λ(k:Nat)=>(if(0+(k:Int))=i then 1 else 0:Int)).map D.int) (by simp) (by decide) (λj x d H1 R hj hd s1 hx hR=>?_) (λv H1 s1 n1=>?_)
 ·subst hx;rw[Ox]at hd;have hd':=pI hd;subst hd';ac_rfl;refine cj (λe=>?_) (λe=>?_)
  ·have e':0+(j:Int)=i:=N8 e;ac_rfl;refine hR _ _ (ae.refl _) ?_;simp only[Function.comp,NU e'];exact ao.int
  ·have e':¬ 0+(j:Int)=i:=N9 (Oc.mpr e);ac_rfl;refine hR _ _ (ae.refl _) ?_;simp only[Function.comp,NR e'];exact ao.int
 obtain⟨la,rfl,la0,la1⟩:=ao.iif.mp n1;have s2:=(aB hp (.lst [.int 0])).trans s1;refine fi (s1 _ _ aw) la1 (by simp;decide) λr hr'=>?_;refine q _ _ (s2.trans (aB hr' _)) (ao.iif.mpr ⟨r,rfl,s2.free hr',?_⟩);rw[aw];rfl
inductive Q4 (K:Fg)(vs:QV)(H:Hp)(Q:VK)(E:XK):Prop
 |mk (a b:Addr) (ls:QT) (ws:QS):vs=[.ref a,.ref b]->aq K H (.lst (ls.map nums)) (.ref a)->ar K H b (ws.map V.int)->ls.length=ws.length->ls.length<=1000->(∀ l∈ls,l.length=9)->sW ls ws->(∀ v H',ae H H'->ao H H' (nums (bZ ls ws)) v->Q v H')->Q4 K vs H Q E
include B Z in
theorem JQ (F:aS K "summed" "summed" wQ f fd)(m:mg "summed"=some (.ref f)):Fn P w K mg b8 "summed" ["lines","weights"] 1 (Q4 K):=by
 refine bR F oo m λ_ _ _ _ H vs Q E hr h=>?_;obtain⟨a,b,ls,ws,rfl,hA,hB,hl,h1000,h9,ok,q⟩:=h;refine⟨_,(az (js 2 oo.nd (aO ik (bv (jk ag)) (dS rfl B.QH)))
   (az (gy PassesOwn.never rfl (vR K rfl B.zip (jn 0 (jn 1 ag))) (kS K (n:=2) rfl (gC (jg 3 oo.nd) (gC (jg 4 oo.nd) lA))) (ay (jS 2 oo.nd (bG.f oo ["lines","weights","total","line","weight","so_far","number"] [false,false,false,false,false,true,true]) (vR K rfl B.zip (jn 2 (jn 3 ag))) (λn=>(kS K (n:=2) rfl (gC (jg 5 n) (gC (jg 6 n) lA)))) (jp K (pv 5) (aO ik (pv 6) (pv 4))))))
   (ay (aJ (pv 2))))),?_⟩
 unfold aq at hA;obtain⟨a',xs,e,hA,hx⟩:=hA;cases e;have lx:=hx.length;rw[aV]at lx;ac_rfl;refine⟨by decide,λp hp=>?_⟩;ac_rfl;refine .inr ⟨p,9,[.int 0],rfl,rfl,aw,by decide,by decide,by decide,λt ht=>?_⟩;have s0:=(aB hp (.lst [.int 0])).trans (aB ht (.lst (List.replicate (9:Int).toNat [V.int 0]).flatten));ac_rfl;nomatch a,b,rfl,⟨_,s0.seq hA⟩,⟨_,s0.seq hB⟩;refine mC (n:=ws.length) (w6 (s0.seq hA) (s0.seq hB) (by rw[aV];omega)) (λi σ H2=>∃(ta:Addr) (x y:Option V),σ=[some (.ref a),some (.ref b),some (.ref ta),x,y]/\ae (upd (upd H p (.lst [.int 0])) t (.lst (List.replicate (9:Int).toNat [V.int 0]).flatten)) H2/\H ta=none/\H2 ta=some (.lst ((b5 ((ls.zip ws).take i) (List.replicate 9 0)).map V.int)))
  ⟨t,none,none,rfl,ae.refl _,(aB hp _).free ht,by rw[aw];rfl⟩ (λi σ H2 ⟨_,_,_,_,e,_⟩=>e) ?_ ?_
 ·rintro i v σ H2 H3 hi ⟨ta,x,y,rfl,s2,ta0,ta1⟩ s3 ⟨T,u,z,rfl,hT,eu,ez⟩;have il:i<ls.length:=by omega
  rw[aR]at ez;obtain⟨w',hw,rfl⟩:=ce.mp ez;obtain⟨dl,hdl,hru⟩:=hx.get' eu;rw[aR,NQ il]at hdl;cases hdl;obtain⟨lu,rfl,hlu⟩:=gz.mp (aq.same (s0.trans (s2.trans s3)) _ hru);have l9:=h9 ls[i] (Om il);have ft9:(b5 ((ls.zip ws).take i) (List.replicate 9 0)).length=9:=ym _ _ (by simp) λp hp=>wD h9 p (List.mem_of_mem_take hp);refine⟨T,_,rfl,aH.of hT,rfl,⟨_,_,rfl,?_⟩⟩;nomatch _,_,rfl;nomatch rfl;ac_rfl;nomatch ta,lu,rfl,⟨_,ar.of (s3 _ _ ta1)⟩,⟨_,hlu⟩;refine cX (n:=9) (w6 (ar.of (s3 _ _ ta1)) hlu (by rw[aV,aV,ft9,l9];rfl)) ((aA w' (b5 ((ls.zip ws).take i) (List.replicate 9 0)) ls[i]).map D.int) (by rw[aV];exact jP ft9 l9) (by decide) (λj x' d H4 R hj hd s4 hx' hR=>?_) (λv H4 s4 n4=>?_)
  ·obtain⟨T2,u2,z2,rfl,hT2,e1,e2⟩:=hx';rw[aR]at e1 e2;obtain⟨s',hs',rfl⟩:=ce.mp e1;obtain⟨n',hn',rfl⟩:=ce.mp e2;have ed:d=.int (s'+n'*w'):=by unfold aA at hd;rw[aR,List.getElem?_zipWith,hs',hn']at hd;cases hd;rfl
   subst ed;refine⟨T2,_,rfl,aH.of hT2,rfl,⟨_,_,rfl,?_⟩⟩;nomatch _,_,rfl;nomatch rfl;ac_rfl;refine t9 (ok i ls[i] w' (by simp) hw n' (bT hn')) ?_;ac_rfl;exact hR _ _ (ae.refl _) ao.int
  obtain⟨na,rfl,na0,na1⟩:=ao.iif.mp n4;ac_rfl;nomatch na,_,_,rfl,s2.trans (s3.trans s4),(s0.trans (s2.trans s3)).free na0;rw[na1,OE,HG (NQ il) hw,En]
 ·rintro σ H2 ⟨ta,x,y,rfl,s2,ta0,ta1⟩;ac_rfl;refine q _ _ (s0.trans s2) (ao.iif.mpr ⟨ta,rfl,ta0,?_⟩);rw[ta1,N6 (by rw[List.length_zip];omega)];rfl
inductive Q6 (K:Fg)(vs:QV)(H:Hp)(Q:VK)(E:XK):Prop
 |mk (a b:Addr) (c:Int) (fs:QS) (ls:QT):vs=[.ref a,.ref b]->ar K H a ((c::fs).map V.int)->aq K H (.lst (ls.map nums)) (.ref b)->fs.length=8->ls.length=8->(∀ l∈ls,l.length=9)->sW ls fs->(∀ v H',ae H H'->ao H H' (nums (bo (c::fs) ls)) v->Q v H')->Q6 K vs H Q E
theorem Id (c:Int)(fs:QS):cK ((c::fs).map V.int) (some 1) none=fs.map V.int:=by unfold cK;rw[show HT.sIx ((c::fs).map V.int).length 0 (some 1)=1 by rw[show(1:Int)=((1:Nat):Int)by rfl,HT.sIx_nat];simp];rw[HT.sIx_none];simp[N6]
variable (Q5:Fn P w K mg b8 "summed" ["lines","weights"] 1 (Q4 K))
include B Z Q5 in
theorem JP (F:aS K "turned" "turned" wO f fd)(m:mg "turned"=some (.ref f)):Fn P w K mg b8 "turned" ["line","eight"] 2 (Q6 K):=by
 refine bR F DJ m λ_ _ _ _ H vs Q E hr h=>?_;obtain⟨a,b,c,fs,ls,rfl,hA,hB,lf,ll,h9,ok,q⟩:=h;refine⟨_,(az (js 2 DJ.nd (jl Q5 hr (jn 1 (bn (pF (je K) (pv 0) (pq aj) pw) ag))))
   (az (oS (jp K (jx K (pv 2) aj) (jx K (pv 0) aj)) (tG (pv 2) aj ue))
   (ay (aJ (pv 2))))),?_⟩
 ac_rfl;refine .inl ⟨a,_,rfl,hA,λp hp=>?_⟩;rw[Id];have s1:=aB hp (.lst (fs.map V.int));ac_rfl;refine⟨b,p,ls,fs,rfl,aq.same s1 _ hB,ar.of aw,by omega,by omega,h9,ok,λv H2 s2 n2=>?_⟩;obtain⟨ta,rfl,ta0,ta1⟩:=ao.iif.mp n2;have s3:=s1.trans s2;obtain⟨x,r,hs⟩:∃ x r,bZ ls fs=x::r:=by
  have:=i5 (ws:=fs) h9;cases e:bZ ls fs with
  |nil=>rw[e]at this;simp at this
  |cons x r=>exact⟨x,r,rfl⟩
 rw[hs]at ta1;ac_rfl;refine bW (ar.of ta1) (v:=.int x) dU ?_;ac_rfl;refine bW (s3.seq hA) (v:=.int c) dU ?_;ac_rfl;refine tw ta1 NC ?_;ac_rfl;have ta2:=s1.free ta0;refine q _ _ (λd o e=>?_) (ao.iif.mpr ⟨ta,rfl,ta2,?_⟩)
 ·rw[aE (bX e ta2)];exact s3 _ _ e
 ·rw[aw];unfold bo;rw[show(c::fs).tail=fs by rfl,hs];rfl
inductive Q8 (K:Fg)(C:Nat->Addr)(vs:QV)(H:Hp)(Q:VK)(E:XK):Prop
 |mk (p dx g:Addr) (n a0 a1:Int):vs=[.ref p,.int n,.ref g]->H p=some (.ins (C 5) dx [])->(ar K H g [.int a0,.int a1]\/aH K H g [.int a0,.int a1])->(∀ ha aa H',H ha=none->H aa=none->ha≠aa->bc [p] H H'->H' p=some (.ins (C 5) dx (eI n 0 ha aa))->H' ha=some (.lst [.int a0,.int a1,.int 0,.int 0])->H' aa=some (.lst [.int a0,.int a1])->Q .non H')->Q8 K C vs H Q E
theorem nX{g:Addr}(e:Sq H H')(h:ar K H g xs\/aH K H g xs):ar K H' g xs\/aH K H' g xs:=by
 rcases h with h|h
 ·exact .inl (e.lst h)
 ·exact .inr (e.tup h)
include B Z in
theorem Ic (F:aS K "__init__" "Frame.__init__" y8 f fd)(M:Mk K (C 5) f):kE P w K mg b8 "Frame" (C 5) ["self","number","asked"] 1 (Q8 K C):=by
 refine zP F M Nh Z.QK λ_ _ _ _ H vs Q E hr h=>?_;obtain⟨p,dx,g,n,a0,a1,rfl,hp,hg,q⟩:=h;refine⟨_,(az (eG (pv 0) (pv 1) rfl)
   (az (eG (pv 0) aj rfl)
   (az (eG (pv 0) (bv (bn (jx K (pv 2) aj) (bn (jx K (pv 2) aj) (jk (jk ag))))) rfl)
   (ay (eG (pv 0) (bv (bn (jx K (pv 2) aj) (bn (jx K (pv 2) aj) ag))) rfl))))),?_⟩
 left;nofun;refine⟨p,(C 5),dx,[],rfl,hp,Z.PV,Z.Qj,by show 0<1000;decide,?_⟩;have q1:Sq H (upd H p (.ins (C 5) dx (au "number" (.int n) []))):=jF hp rfl;left;nofun;nomatch p,(C 5),dx,_,rfl,aw,Z.PV,Z.PX,N1 (eN (n:=1) (by decide)) (by decide);have q2:=q1.trans (jF (o:=.ins (C 5) dx (au "place" (.int 0) (au "number" (.int n) []))) aw rfl);have o2:bc [p] H (upd (upd H p (.ins (C 5) dx (au "number" (.int n) []))) p (.ins (C 5) dx (au "place" (.int 0) (au "number" (.int n) [])))):=(ii (by simp)).trans (ii (by simp));have p2:(upd (upd H p (.ins (C 5) dx (au "number" (.int n) []))) p (.ins (C 5) dx (au "place" (.int 0) (au "number" (.int n) [])))) p=some (.ins (C 5) dx (au "place" (.int 0) (au "number" (.int n) []))):=aw;have fr2:cO H (upd (upd H p (.ins (C 5) dx (au "number" (.int n) []))) p (.ins (C 5) dx (au "place" (.int 0) (au "number" (.int n) [])))):=jN.trans jN;generalize (upd (upd H p (.ins (C 5) dx (au "number" (.int n) []))) p (.ins (C 5) dx (au "place" (.int 0) (au "number" (.int n) []))))=H2 at q2 o2 p2 fr2;have hg2:=nX q2 hg;left;nofun;refine vW hg2 ?_;nofun;refine vV hg2 ?_;nofun;refine⟨(by right),λha ha0=>?_⟩;have s3:=aB ha0 (.lst [V.int a0,.int a1,.int 0,.int 0]);have nh:ha≠p:=(bX p2 ha0).symm;nofun;nomatch p,(C 5),dx,_,rfl,s3 _ _ p2,Z.PV,Z.PY,N1 (eN (n:=2) (eN (n:=1) (by decide))) (by decide);have q4:=s3.sq.trans (jF (o:=.ins (C 5) dx (au "hands" (.ref ha) (au "place" (.int 0) (au "number" (.int n) [])))) (s3 _ _ p2) rfl);have hg4:=nX q4 hg2;nofun;refine vW hg4 ?_;nofun;refine vV hg4 ?_;nofun;refine⟨(by right),λaa aa0=>?_⟩;have na:aa≠p:=λz=>by rw[z,aw]at aa0;cases aa0
 have nah:aa≠ha:=λz=>by rw[z,aE nh,aw]at aa0;cases aa0
 have aa2:H2 aa=none:=by rw[aE na,aE nah]at aa0;exact aa0
 nofun;nomatch p,(C 5),dx,_,rfl,by rw[aE na.symm,aw],Z.PV,Z.Qn,N1 (eN (n:=3) (eN (n:=2) (eN (n:=1) (by decide)))) (by decide)
 rw[HC];refine q ha aa _ (fr2 _ ha0) (fr2 _ aa2) nah.symm (λb o nb e=>?_) aw ?_ ?_
 ·have nb':b≠p:=λz=>nb (by simp[z]);have e2:=o2 b o nb e;rw[aE nb',aE (bX e2 aa2),aE nb',aE (bX e2 ha0)];exact e2
 ·rw[aE nh,aE nah.symm,aE nh,aw]
 ·rw[aE na,aw]
inductive Q9 (K:Fg)(C:Nat->Addr)(vs:QV)(H:Hp)(Q:VK)(E:XK):Prop
 |mk (p dx ha aa:Addr) (f:Fm):vs=[.ref p]->H p=some (.ins (C 5) dx (eI f.n f.p ha aa))->H ha=some (.lst (f.PL.map V.int))->H aa=some (.lst (f.asked.map V.int))->f.PL.length=4->f.asked.length=2->(∀ na H',ae H H'->H' na=some (.lst ((cP f).map V.int))->Q (.ref na) H')->Q9 K C vs H Q E
include B Z in
theorem M1 (F:aS K "numbers" "Frame.numbers" zg f fd)(M:br K (C 5) "numbers" f):bK bL P w K mg b8 (C 5) "numbers" ["self"] 1 (Q9 K C):=by refine eP F M M6 λ_ _ _ _ H vs Q E hr h=>?_;obtain⟨p,dx,ha,aa,f,rfl,hp,hh,haa,l4,l2,q⟩:=h;exists _,(ay (aJ (jp K (jp K (jf K 0) (jf K 0)) (pF (je K) (jf K 0) pw (pq aj)))));exists p,(C 5),dx,_,_,rfl,hp,Z.PV,Z.PY,iY _ _ _ _;nomatch p,(C 5),dx,_,_,rfl,hp,Z.PV,Z.Qn,Jz _ _ _ _;refine fi hh haa (bF (by simp[l4,l2])) λp1 hp1=>?_;have t1:=aB hp1 (.lst (f.PL.map V.int++f.asked.map V.int));nofun;exists p,(C 5),dx,_,_,rfl,t1 _ _ hp,Z.PV,Z.PY,iY _ _ _ _;refine Bp (ar.of (t1 _ _ hh)) λp2 hp2=>?_;rw[JJ (by decide)];have t2:=aB hp2 (.lst ((f.PL.map V.int).take (2:Int).toNat));nofun;refine fi (t2 _ _ aw) aw (bF (by simp[l4,l2])) λp3 hp3=>?_;refine q _ _ (t1.trans (t2.trans (aB hp3 _))) ?_;rw[aw];unfold cP;rw[Oe,Oe,List.map_take];rfl
inductive Ap (K:Fg)(C:Nat->Addr)(vs:QV)(H:Hp)(Q:VK)(E:XK):Prop
 |mk (ha la va:Addr) (ks:QS) (cr:Int->Cr) (ws:QS) (fp:QW):vs=[.ref ha]->cn (C 8) (C 7) H ha la va ks cr ws fp->(∀(l:Addr) (ns:QS),H l=none->ns.Perm ks->ns.Pairwise (·<=·)->Q (.ref l) (upd H l (.lst (ns.map V.int))))->Ap K C vs H Q E
include B Z in
theorem M0 (F:aS K "standing" "Hall.standing" zd f fd)(M:br K (C 8) "standing" f):bK bL P w K mg b8 (C 8) "standing" ["self"] 1 (Ap K C):=by refine eP F M M3 λ_ _ _ _ H vs Q E hr h=>?_;obtain⟨ha,la,va,ks,cr,ws,fp,rfl,hA,q⟩:=h;nomatch _,(ay (aJ (cq (ER rfl) rfl B.sorted L2.EC (dR (jf K 0) ag))));obtain⟨dx,hh⟩:=hA.ins;obtain⟨kvs,P8,hk⟩:=hA.laid;have h60:=hA.few;nofun;exists ha,(C 8),dx,_,_,rfl,hh,Z.P3,Z.P5,jI _ _;exact Cp P8 hk.1 (by omega) q
theorem DF{a3 a4:Addr}{v1 v2:V}{c:Cr}{P9 Qo:QV}(np:H p=none)(nd:H dx=none)(r1:aq K H (bx c.PJ) v1)(r2:aq K H (bx c.PB) v2)(h3:ar K H a3 P9)(h4:ar K H a4 Qo)(dr:lj H c.PD P9)(nr:R2 (λls x=>aq K H (bx ls) x) c.PF Qo)(g:c.Nine)(q:∀ H1 f,ae H H1->dI (C 7) H1 p c f->(∀ b∈f,H b=none)->f.Nodup->Q .non H1):uX K C [.ref p,v1,v2,.ref a3,.ref a4] (upd (upd H dx (.own p)) p (.ins (C 7) dx [])) Q E:=by
 have sm:ae H (upd (upd H dx (.own p)) p (.ins (C 7) dx [])):=λb o e=>by rw[aE (bX e np),aE (bX e nd)];exact e
 have ld:=dr.1;have ln:=nr.1;have e1:=g.d;have e2:=g.n;have e3:=g.l;have e4:=g.o;refine⟨p,dx,v1,v2,.ref a3,.ref a4,c.PJ,c.PB,c.PD.map dv,c.PF,a3,a4,P9,Qo,rfl,aw,aq.same sm _ r1,aq.same sm _ r2,rfl,sm.seq h3,rfl,sm.seq h4,by omega,by omega,by rw[aV];omega,by omega,by rw[aV];exact ld,ln,λi d x q1 q2=>?_,λi ls x q1 q2=>?_,λH1 w1 w2 w3 w4 keep hp nw=>?_⟩
 ·rw[aR]at q1;obtain⟨d',hd',rfl⟩:=ce.mp q1;exact(dr.2 i d' x hd' q2).sq sm.sq
 ·exact⟨by have:=(g.o9 ls (bT q1)).1;omega,aq.same sm _ (nr.2 i ls x q1 q2)⟩
 ·have s1:ae H H1:=λb o e=>keep b o (sm _ _ e) (bX e np);obtain⟨f,k1,k2,k3⟩:=nw;have pf:p∉f:=λz=>by have:=k3 p z;rw[aw]at this;cases this
  refine q H1 (p::f) s1 ⟨dx,w1,w2,w3,w4,f,rfl,hp,k1⟩ (λb hb=>?_) (Og.mpr ⟨pf,k2⟩);rcases NP.mp hb with rfl|hb
  ·exact np
  ·exact sm.fr b (k3 b hb)
theorem Ib {a1 a2 a3 a4 b1 b2 b3 b4:V}(h:de a1 a2 a3 a4=de b1 b2 b3 b4):a1=b1/\a2=b2/\a3=b3/\a4=b4:=by
 nomatch ?_,?_,?_
 ·have:=jM a1 a2 a3 a4;rw[h,jM]at this;injection this with this;exact this.symm
 ·have:=j9 a1 a2 a3 a4;rw[h,j9]at this;injection this with this;exact this.symm
 ·have:=ip a1 a2 a3 a4;rw[h,ip]at this;injection this with this;exact this.symm
 ·have:=lC a1 a2 a3 a4;rw[h,lC]at this;injection this with this;exact this.symm
inductive AQ (K:Fg)(C:Nat->Addr)(vs:QV)(H:Hp)(Q:VK)(E:XK):Prop
 |mk (p:Addr) (c:Cr):vs=[.ref p]->iV K (C 7) H p c.PJ c.PB c.PD c.PF->c.Nine->(∀ q f H',ae H H'->dI (C 7) H' q c f->(∀ b∈f,H b=none)->f.Nodup->Q (.ref q) H')->AQ K C vs H Q E
variable (M_Craft:kE P w K mg b8 "Craft" (C 7) ["self","needs","leaves","deeds","notes"] 2 (uX K C))
include B Z M_Craft in
theorem Ms (F:aS K "copied_craft" "copied_craft" yL f fd)(m:mg "copied_craft"=some (.ref f)):Fn P w K mg b8 "copied_craft" ["craft"] 4 (AQ K C):=by refine bR F Mw m λ_ _ _ _ H vs Q E hr h=>?_;obtain⟨p,c,rfl,hT,g,q⟩:=h;nomatch _,(ay (aJ (ve M_Craft hr rfl (dR (jf K 0) (dR (jf K 0) (dR (jf K 0) (dR (jf K 0) ag)))))));obtain⟨⟨dx,w1,w2,w3,w4,hp,r1,r2,r3,r4⟩,dx',u1,u2,b3,u4,P9,hp',hb3,hD⟩:=hT;have e:=hp;rw[hp']at e;injection e with e;injection e with _ e0 e;obtain⟨rfl,rfl,rfl,rfl⟩:=Ib e;unfold aq at r4;obtain⟨b4,Qo,rfl,q4,z4⟩:=r4;have z4l:=z4.length;nofun;exists p,(C 7),dx,_,_,rfl,hp,Z.PU,Z.P4,jM _ _ _ _;exists p,(C 7),dx,_,_,rfl,hp,Z.PU,Z.P6,j9 _ _ _ _;exists p,(C 7),dx,_,_,rfl,hp,Z.PU,Z.PZ,ip _ _ _ _;exists p,(C 7),dx,_,_,rfl,hp,Z.PU,Z.P7,lC _ _ _ _;intro y dy hy hdy ndy;refine DF (c:=c) hy hdy r1 r2 (ar.of hb3) q4 hD ⟨by simpa using z4l,λi ls x e1 e2=>?_⟩ g λH1 f s1 hC hf fn=>⟨rfl,q y f H1 s1 hC hf fn⟩;obtain⟨d,hd,hrx⟩:=av.get' z4 e2;rw[aR,e1]at hd;cases hd;exact hrx
inductive Ao (K:Fg)(C:Nat->Addr)(vs:QV)(H:Hp)(Q:VK)(E:XK):Prop
 |mk (ha la va:Addr) (ks:QS) (cr:Int->Cr) (ws:QS) (fp:QW):vs=[.ref ha]->cn (C 8) (C 7) H ha la va ks cr ws fp->(∀ ca H' kvs (ns:QS) (F:Int->QW),ae H H'->H ca=none->H' ca=some (.dK kvs)->ns.Perm ks->ns.Pairwise (·<=·)->dk (λm v=>∃ p,v=.ref p/\dI (C 7) H' p (cr m) (F m)) kvs ns->(∀ m∈ns,∀ b∈F m,H b=none)->(∀ m∈ns,(F m).Nodup)->(∀ m∈ns,∀ k∈ns,m≠k->∀ b∈F m,b∉F k)->Q (.ref ca) H')->Ao K C vs H Q E
variable (Q2c:Fn P w K mg b8 "copied_craft" ["craft"] 4 (AQ K C))
include B Z Q2c in
theorem MI (Q61:bK bL P w K mg b8 (C 8) "standing" ["self"] 1 (Ap K C))(F:aS K "crafts" "Hall.crafts" yc f fd)(M:br K (C 8) "crafts" f):bK bL P w K mg b8 (C 8) "crafts" ["self"] 5 (Ao K C):=by
 refine eP F M yA λ_ _ _ _ H vs Q E hr h=>?_;obtain⟨ha,la,va,ks,cr,ws,fp,rfl,hA,q⟩:=h;refine⟨_,(az (js 1 yA.nd ud)
   (az (gy PassesOwn.never rfl (db K (iO Q61 Z.P3 hr cf (pv 0))) (jg 2 yA.nd) (ay (tO (cu hr) (pv 1) (pv 2) (jl Q2c hr (bn (ly (cu hr) (jf K 0) (pv 2) (λ_ _=>rfl)) ag)) rfl)))
   (ay (aJ (pv 1))))),?_⟩
 obtain⟨dx,hh⟩:=hA.ins;have h60:=hA.few;left;nofun;intro ca ca0;have s1:=aB ca0 (.dK []);nofun;left;nofun;exists ha,dx,_,rfl,s1 _ _ hh,gZ;refine⟨ha,la,va,ks,cr,ws,fp,rfl,hA.same s1,λl ns l0 pm so=>?_⟩;have s2:=aB l0 (.lst (ns.map V.int));have s12:=s1.trans s2;have hca:=s2 _ _ (aw (H:=H) (a:=ca) (o:=.dK []));have nlc:l≠ca:=λz=>by rw[z,aw]at l0;cases l0
 have hl:(upd (upd H ca (.dK [])) l (.lst (ns.map V.int))) l=some (.lst (ns.map V.int)):=aw;generalize (upd (upd H ca (.dK [])) l (.lst (ns.map V.int)))=H2 at s2 s12 hca hl;have nnd:ns.Nodup:=pm.nodup_iff.mpr hA.nd;have nlen:=pm.length_eq;nomatch l,rfl,⟨_,ar.of hl⟩;refine pj (xs:=ns.map V.int) (λi σ H'=>E3 λx kvs F=>A8 (σ=[some (.ref ha),some (.ref ca),x]) (ae H H') (gE H2 H') (H' ca=some (.dK kvs)) (dk (λm v=>∃ p,v=.ref p/\dI (C 7) H' p (cr m) (F m)) kvs (ns.take i)) ((∀ m∈ns.take i,∀ b∈F m,H b=none)) ((∀ m∈ns.take i,(F m).Nodup)) ((∀ m∈ns.take i,∀ k∈ns.take i,m≠k->∀ b∈F m,b∉F k)))
  ⟨none,[],(λ_=>[]:Int->QW),rfl,s12,(ae.refl _).nod,hca,by rw[List.take_zero];exact dk.nil,λm hm=>by simp at hm,λm hm=>by simp at hm,λm hm=>by simp at hm⟩ (λi σ H' _ ⟨_,_,_,_,_,nd,_,_,_,_,_⟩=>ar.of (nd _ _ hl (λ_ z=>by cases z))) ?_ ?_
 ·rintro i v σ H3 hv ⟨x,kvs,F,rfl,s3,nd3,hc3,hk3,f3,u3,d3⟩;rw[aR]at hv;obtain⟨m,hm,rfl⟩:=ce.mp hv;have hi:i<ns.length:=(dF.mp hm).1;have mk:m∈ks:=pm.mem_iff.mp (bT hm);have mt:m∉ns.take i:=Ew nnd hm;have hA3:=hA.same s3;obtain⟨dx3,hh3⟩:=hA3.ins;obtain⟨kvl,P8,hkl⟩:=hA3.laid;obtain⟨v,hv,p,f,rfl,hC,hf⟩:=hkl.2.2 m mk;have rt:=hA.rt m mk;nofun;exists ha,(C 8),dx3,_,_,rfl,hh3,Z.P3,Z.P5,jI _ _;refine⟨la,.ref p,rfl,by rw[<-hv];exact bj.k (k:=.inl m) P8,?_⟩;nofun;refine⟨p,cr m,rfl,hC.t rt.nine.d9,rt.nine,λq fq H4 s4 hq fq0 fqn=>?_⟩;have hc4:=s4 _ _ hc3;have kl:=hk3.len;rw[OB]at kl;nofun;nomatch ca,_,rfl,fE.k (k:=.inl m) hc4 (kc (by omega));have nd5:gE H4 (upd H4 ca (.dK (bi kvs (.inl m) (.ref q)))):=pz hc4;have put:=hk3.put' (m:=m) (v:=.ref q) (P':=λk v=>∃ p,v=.ref p/\dI (C 7) (upd H4 ca (.dK (bi kvs (.inl m) (.ref q)))) p (cr k) ((λj=>if j=m then fq else F j) k)) ⟨q,rfl,by simp only[NU];exact hq.nod nd5⟩ (λk v ne ⟨p',e1,e2⟩=>⟨p',e1,by simp only[NR ne];exact(e2.same s4).nod nd5⟩);rw[NR mt]at put;have tk:ns.take (i+1)=ns.take i++[m]:=by rw[OE,hm];rfl
  have old:∀ k∈ns.take i,∀ b∈F k,∃ o,H3 b=some o:=λk hk b hb=>by obtain⟨v,_,p',_,e2⟩:=hk3.2.2 k hk;exact e2.has b hb
  refine⟨_,_,_,rfl,(s3.trans s4).put ca0,nd3.trans (s4.nod.trans nd5),aw,by rw[tk];exact put,λk hk b hb=>?_,λk hk=>?_,λk hk j hj ne b hb=>?_⟩
  ·rw[tk]at hk;by_cases z:k=m
   ·simp only[z,NU]at hb;exact s3.fr b (fq0 b hb)
   ·simp only[NR z]at hb;refine f3 k ?_ b hb;rcases bC.mp hk with w|w
    ·exact w
    ·exact Oa (bu.mp w) z
  ·rw[tk]at hk;by_cases z:k=m
   ·simp only[z,NU];exact fqn
   ·simp only[NR z];refine u3 k ?_;rcases bC.mp hk with w|w
    ·exact w
    ·exact Oa (bu.mp w) z
  ·rw[tk]at hk hj;have inT:∀{k},k∈ns.take i++[m]->¬ k=m->k∈ns.take i:=λ{k} hk z=>by
    rcases bC.mp hk with w|w
    ·exact w
    ·exact Oa (bu.mp w) z
   by_cases z:k=m
   ·have zj:¬ j=m:=λw=>ne (z.trans w.symm);simp only[NU z]at hb;simp only[NR zj];intro w;obtain⟨o,ho⟩:=old j (inT hj zj) b w;rw[fq0 b hb]at ho;cases ho
   ·simp only[NR z]at hb;by_cases zj:j=m
    ·simp only[NU zj];intro w;obtain⟨o,ho⟩:=old k (inT hk z) b hb;rw[fq0 b w]at ho;cases ho
    ·simp only[NR zj];exact d3 k (inT hk z) j (inT hj zj) ne b hb
 ·rintro σ H3 ⟨x,kvs,F,rfl,s3,nd3,hc3,hk3,f3,u3,d3⟩;rw[aV,N6 (NV _)]at hk3 f3 u3 d3;nofun;exact q ca H3 kvs ns F s3 ca0 hc3 pm so hk3 f3 u3 d3
inductive AV (K:Fg)(C:Nat->Addr)(vs:QV)(H:Hp)(Q:VK)(E:XK):Prop
 |mk (r ka ia sa:Addr) (ks:QS) (cr:Int->Cr) (PN:List Fa) (s:Rs) (P2:QW) (p dx ha aa:Addr) (f:Fm):vs=[.ref r,.ref p]->aD (C 6) (C 5) (C 7) H r ka ia sa ks cr PN s P2->H p=some (.ins (C 5) dx (eI f.n f.p ha aa))->f.n∈ks->(∀ q g,dI (C 7) H q (cr f.n) g->Q (.ref q) H)->AV K C vs H Q E
include B Z in
theorem Mr (F:aS K "craft_of" "Run.craft_of" yN f fd)(M:br K (C 6) "craft_of" f):bK bL P w K mg b8 (C 6) "craft_of" ["self","frame"] 1 (AV K C):=by refine eP F M Mx λ_ _ _ _ H vs Q E hr h=>?_;obtain⟨r,ka,ia,sa,ks,cr,PN,s,P2,p,dx,ha,aa,f,rfl,A',hp,hn,q⟩:=h;nomatch _,(ay (aJ (ly (cu hr) (jf K 0) (jf K 1) (λ_ _=>rfl))));obtain⟨dr,ev,hr',_⟩:=A'.ins;obtain⟨kvs,o,g,e1,e2,e3⟩:=A'.kn.craft hn;nofun;exists r,(C 6),dr,_,_,rfl,hr',Z.PR,Z.Qg,pG;nomatch p,(C 5),dx,_,_,rfl,hp,Z.PV,Z.Qj,Ed _ _ _ _;refine⟨ka,.ref o,rfl,by rw[<-e2];exact bj.k (k:=.inl f.n) e1,?_⟩;exact q o g e3
inductive AZ (K:Fg)(C:Nat->Addr)(vs:QV)(H:Hp)(Q:VK)(E:XK):Prop
 |mk (r ka ia sa:Addr) (ks:QS) (cr:Int->Cr) (PN:List Fa) (s:Rs) (P2:QW) (f:Fm) (st:List Fm):vs=[.ref r]->aD (C 6) (C 5) (C 7) H r ka ia sa ks cr PN s P2->s.st=f::st->kC ks cr f->(cr f.n).Rt->Q (.bl (decide (f.p=((cr f.n).PD.length:Int)))) H->AZ K C vs H Q E
variable (Q1f:bK bL P w K mg b8 (C 6) "craft_of" ["self","frame"] 1 (AV K C))
include B Z Q1f in
theorem Nk (F:aS K "is_behind_last_deed" "Run.is_behind_last_deed" zi f fd)(M:br K (C 6) "is_behind_last_deed" f):bK bL P w K mg b8 (C 6) "is_behind_last_deed" ["self"] 2 (AZ K C):=by
 refine eP F M E_ λ_ _ _ _ H vs Q E hr h=>?_;obtain⟨r,ka,ia,sa,ks,cr,PN,s',P2,f,st,rfl,A',hst,wf,rt,q⟩:=h;refine⟨_,(az (js 1 E_.nd (jx K (jf K 0) (dP dX aj)))
   (ay (aJ (jE K hr (jf K 1) (cq (eQ K) rfl B.len L2.boot_len (dR (kP K (cS Q1f Z.PR hr cf (pv 0) (jn 1 ag)) rfl) ag)))))),?_⟩
 obtain⟨dr,ev,hr',_⟩:=A'.ins;have fr:=A'.fr;rw[hst]at fr;cases PN with
 |nil=>exact fr.elim
 |cons t PN=>
 obtain⟨p,ha,aa⟩:=t;obtain⟨⟨dp,f1⟩,_⟩:=fr;left;nofun;exists r,(C 6),dr,_,_,rfl,hr',Z.PR,Z.P1,io;refine bW (ar.of A'.sta) (v:=.ref p) j5 ?_;nofun;exists p,(C 5),dp,_,_,rfl,f1,Z.PV,Z.PX,kh _ _ _ _;exists r,dr,_,rfl,hr',dG;refine⟨r,ka,ia,sa,ks,cr,(p,ha,aa)::PN,s',P2,p,dp,ha,aa,f,rfl,A',f1,wf.m,λo g hC=>?_⟩;obtain⟨dx,y1,y2,b3,b4,P9,Qo,ho,_,_,h3,hD,_⟩:=hC.out (K:=K) rt.nine.d9;nofun;exists o,(C 7),dx,_,_,rfl,ho,Z.PU,Z.PZ,ip _ _ _ _;refine eW (.inl (ar.of h3)) ?_;refine BC ?_;have e:P9.length=(cr f.n).PD.length:=hD.1.symm;rw[e];exact q
inductive uY (K:Fg)(vs:QV)(H:Hp)(Q:VK)(E:XK):Prop
 |mk (la na:Addr) (ls:QT) (ns:QS):vs=[.ref la,.ref na]->jH K H la ls->ar K H na (ns.map V.int)->ns.length=8->(∀ l∈ls,l.length=9/\Sm l)->(∀ H',ae H H'->Q (sx (cQ ls ns)) H')->uY K vs H Q E
theorem Cu{ls:QT}(h1:jH K H la ls)(h2:ar K H na (ns.map V.int))(h3:ns.length=8)(h4:∀ l∈ls,l.length=9/\Sm l)(q:∀ H',ae H H'->Q (sx (cQ ls ns)) H'):uY K [.ref la,.ref na] H Q E:=⟨la,na,ls,ns,rfl,h1,h2,h3,h4,q⟩
theorem MH{ls:QT}{P:QS->Bool}{i:Nat}(h:(ls.take i).findIdx? P=none)(e:ls[i]?=some l)(hp:P l=false):(ls.take (i+1)).findIdx? P=none:=by rw[OE,e,List.findIdx?_append,h];simp[hp]
variable (Q1:Fn P w K mg b8 "holds" ["line","numbers"] 2 (xr K))
include B Z Q1 in
theorem MG (F:aS K "first_unmet" "first_unmet" yQ f fd)(m:mg "first_unmet"=some (.ref f)):Fn P w K mg b8 "first_unmet" ["lines","numbers"] 3 (uY K):=by
 refine bR F yE m λ_ _ _ _ H vs Q E hr h=>?_;obtain⟨la,na,ls,ns,rfl,⟨xs,P8,hxs⟩,hna,n8,h9,q⟩:=h;refine⟨_,(az (gy PassesOwn.never rfl (GZ K rfl B.enumerate (jn 0 ag)) (kS K (n:=2) rfl (gC (jg 2 yE.nd) (gC (jg 3 yE.nd) lA))) (ay (bq (iU (fg (jl Q1 hr (jn 3 (jn 1 ag))))) (ay (aJ (pv 2))) bE)))
   (ay (aJ gH))),?_⟩
 have lx:=hxs.length;rw[aV]at lx;left;nofun;nomatch la,xs,rfl,P8;refine mC (KD (ar.of P8)) (λi σ H2=>∃ x y,A3 (σ=[some (.ref la),some (.ref na),x,y]) (ae H H2) ((ls.take i).findIdx? (λl=>decide (aP l ns<0))=none))
  ⟨none,none,rfl,ae.refl _,rfl⟩ (λi σ H2 ⟨_,_,_,e,_⟩=>e) ?_ ?_
 ·rintro i v σ H2 H3 hi ⟨x,y,rfl,s2,hf⟩ s3 ⟨T,u,rfl,hT,hu'⟩;have s03:=s2.trans s3;obtain⟨d,hd,hru⟩:=av.get' hxs hu';rw[aR]at hd;obtain⟨l,hl,rfl⟩:=ce.mp hd;obtain⟨ua,rfl,hua⟩:=gz.mp (aq.same s03 _ hru);obtain⟨l9,lsm⟩:=h9 l (bT hl);refine⟨T,_,rfl,aH.of hT,rfl,⟨_,_,rfl,?_⟩⟩;nomatch _,_,rfl;nomatch rfl;cases l with
  |nil=>simp at l9
  |cons c fs=>
  nofun;refine⟨ua,na,c,fs,ns,rfl,hua,s03.seq hna,by simpa using l9,n8,tm lsm,λH4 s4=>?_⟩;have ew:c+bQ fs ns=aP (c::fs) ns:=(pO _ _ _).symm;rw[ew];dsimp only;by_cases hb:0<=aP (c::fs) ns
  ·rw[N0 hb];nofun;exact⟨_,_,rfl,s03.trans s4,MH hf hl (N7 (by omega))⟩
  ·rw[N7 hb];nofun;have e:cQ ls ns=some i:=by unfold cQ;rw[JU hf hl,NU (N0 (by omega))]
   have:=q _ (s03.trans s4);rw[e]at this;exact this
 ·rintro σ H2 ⟨x,y,rfl,s2,hf⟩;nofun;rw[<-lx,N6 (NV _)]at hf;have e:cQ ls ns=none:=hf;have:=q _ s2;rw[e]at this;exact this
inductive AU (K:Fg)(C:Nat->Addr)(vs:QV)(H:Hp)(Q:VK)(E:XK):Prop
 |mk (r ka ia sa:Addr) (ks:QS) (cr:Int->Cr) (PN:List Fa) (s:Rs) (P2:QW) (w:Str) (la na:Addr) (ls:QT) (ns:QS) (f:Fm) (st:List Fm):vs=[.ref r,.str w,.ref la,.ref na]->aD (C 6) (C 5) (C 7) H r ka ia sa ks cr PN s P2->s.st=f::st->s.en=none->jH K H la ls->ar K H na (ns.map V.int)->ns.length=8->(∀ l∈ls,l.length=9/\Sm l)->(∀ H',bc [r] H H'->aD (C 6) (C 5) (C 7) H' r ka ia sa ks cr PN {s with en:=(cQ ls ns).map (brk w f)} P2->Q (.bl (cQ ls ns).isNone) H')->AU K C vs H Q E
variable (Q23:Fn P w K mg b8 "first_unmet" ["lines","numbers"] 3 (uY K))
include B Z Q23 in
theorem LI (F:aS K "meets" "Run.meets" xS f fd)(M:br K (C 6) "meets" f):bK bL P w K mg b8 (C 6) "meets" ["self","word","lines","numbers"] 4 (AU K C):=by
 refine eP F M yy λ_ _ _ _ H vs Q E hr h=>?_;obtain⟨r,ka,ia,sa,ks,cr,PN,s',P2,w,la,na,ls,ns,f,st,rfl,A',hst,hen,hL,hN,n8,h9,q⟩:=h;refine⟨_,(az (js 4 yy.nd (jl Q23 hr (jn 2 (jn 3 ag))))
   (az (bq (jc wv (pv 4) gH) (az (js 5 yy.nd (jx K (jf K 0) (dP dX aj)))
   (ay (eG (pv 0) (cx (dj bY (jn 1 (dR (jf K 5) (dR (jf K 5) (jn 4 ag)))))) rfl))) bE)
   (ay (aJ (jv md (pv 4) gH))))),?_⟩
 left;nofun;refine Cu hL hN n8 h9 λH1 s1=>?_;have A1:=A'.same s1;nofun;cases hb:cQ ls ns with
 |none=>
  rw[hb]at q;have q:=q H1 s1.offA (by
   have e:({s' with en:=(none:Option Nat).map (brk w f)}:Rs)=s':=by cases s';cases hen;rfl
   rw[e];exact A1)
  with_reducible refine gx (λQ2 q2=>?_) ?_
  ·nofun;nomatch rfl;show ∃ k,V.bl (!decide (V.non=V.non))=.bl k/\_;rw[tK];nofun;exact q2
  ·nofun;nomatch rfl;show Q (.bl (decide (V.non=V.non))) H1;rw[tK];exact q
 |some i=>
  rw[hb]at q;have ei:∀ j:Int,decide (V.int j=V.non)=false:=λj=>N7 (by intro z;cases z);obtain⟨dr,ev,hr',_⟩:=A1.ins;have fr:=A1.fr;rw[hst]at fr;cases PN with
  |nil=>exact fr.elim
  |cons t PN=>
  obtain⟨p,ha,aa⟩:=t;obtain⟨⟨dp,f1⟩,_⟩:=fr;with_reducible refine jD (λσ H'=>σ=[some (.ref r),some (.str w),some (.ref la),some (.ref na),some (.int (i:Int)),some (.ref p)]/\bc [r] H1 H'/\aD (C 6) (C 5) (C 7) H' r ka ia sa ks cr ((p,ha,aa)::PN) {s' with en:=some (brk w f i)} P2) (λNX tail=>?_) ?_
  ·nofun;nomatch rfl;show ∃ k,V.bl (!decide (V.int (i:Int)=V.non))=.bl k/\_;rw[ei];nofun;left;nofun;exists r,(C 6),dr,_,_,rfl,hr',Z.PR,Z.P1,io;refine bW (ar.of A1.sta) (v:=.ref p) j5 ?_;nofun;exists p,(C 5),dp,_,_,rfl,f1,Z.PV,Z.Qj,Ed _ _ _ _;exists p,(C 5),dp,_,_,rfl,f1,Z.PV,Z.PX,kh _ _ _ _;refine⟨(by right),λT hT=>?_⟩;have t2:=aB hT (.tup (brk w f i));nofun;refine⟨r,(C 6),dr,_,rfl,t2 _ _ hr',Z.PR,Z.P0,by show 5<1000;decide,?_⟩;rw[mJ];refine tail _ _ ⟨rfl,t2.offA.trans (ii (by simp)),?_⟩;have:=(A1.same t2).setR (k':=s'.k) (en':=some (brk w f i)) (t2 _ _ hr') ⟨T,rfl,aw⟩;exact this
  ·rintro σ H2 ⟨rfl,o2,A2⟩;nofun;nomatch rfl;show Q (.bl (decide (V.int (i:Int)=V.non))) H2;rw[ei];exact q H2 (s1.offA.trans o2) A2
inductive AW (K:Fg)(C:Nat->Addr)(vs:QV)(H:Hp)(Q:VK)(E:XK):Prop
 |mk (r ka ia sa:Addr) (ks:QS) (cr:Int->Cr) (PN:List Fa) (s:Rs) (P2:QW) (g:Fm) (st:List Fm) (l0 l1:Int):vs=[.ref r,.int l0,.int l1]->aD (C 6) (C 5) (C 7) H r ka ia sa ks cr PN s P2->s.st=g::st->kC ks cr g->nK cr g->(∀ H',a_ (aL r ia sa PN) H (aL r ia sa PN) H'->aD (C 6) (C 5) (C 7) H' r ka ia sa ks cr PN {s with st:=gY cr g l0 l1::st} P2->Q .non H')->AW K C vs H Q E
include B Z Q1f in
theorem Lm (F:aS K "take" "Run.take" xB f fd)(M:br K (C 6) "take" f):bK bL P w K mg b8 (C 6) "take" ["self","left_0","left_1"] 2 (AW K C):=by
 refine eP F M xV λ_ _ _ _ H vs Q E hr h=>?_;obtain⟨r,ka,ia,sa,ks,cr,PN,s',P2,g,st,l0,l1,rfl,A',hst,wf,hc,q⟩:=h;refine⟨_,(az (js 3 xV.nd (jx K (jf K 0) (dP dX aj)))
   (az (js 4 xV.nd (jx K (jx K (kP K (cS Q1f Z.PR hr cf (pv 0) (jn 3 ag)) rfl) (jf K 3)) aj))
   (az (oS (pv 1) (tG (jf K 3) (jx K (pv 4) aj) ue))
   (az (oS (pv 2) (tG (jf K 3) (jx K (pv 4) aj) ue))
   (ay (eG (pv 3) (jp K (jf K 3) aj) rfl)))))),?_⟩
 have rt:=A'.kn.rt g.n wf.m;obtain⟨dr,ev,hr',_⟩:=A'.ins;have fr:=A'.fr;rw[hst]at fr;cases PN with
 |nil=>exact fr.elim
 |cons t PN=>
 obtain⟨p,ha,aa⟩:=t;obtain⟨⟨dp,f1⟩,f2,f3,f4⟩:=fr;have hlt:=hc.lt;obtain⟨m,g0,g1,t0,t1,hd⟩:=hc;have hok:=rt.parts.2.2.2.2.2 _ (bT hd);obtain⟨_,_,b0,b1,_⟩:=ur hok;have e4:=wf.h4;nofun;left;nofun;exists r,(C 6),dr,_,_,rfl,hr',Z.PR,Z.P1,io;refine bW (ar.of A'.sta) (v:=.ref p) j5 ?_;nofun;left;nofun;exists r,dr,_,rfl,hr',dG;refine⟨r,ka,ia,sa,ks,cr,(p,ha,aa)::PN,s',P2,p,dp,ha,aa,g,rfl,A',f1,wf.m,λo gg hC=>?_⟩;obtain⟨dx,y1,y2,b3,b4,P9,Qo,ho,_,_,h3,hD,_⟩:=hC.out (K:=K) rt.nine.d9;have ld:=hD.1;have hx:=NQ (l:=P9) (i:=g.p.toNat) (by omega);obtain⟨T,ys,hT,hT2,px⟩:=gJ (hD.2 _ _ _ hd hx);obtain⟨x0,ys,rfl,e0,px⟩:=b9 px;obtain⟨x1,ys,rfl,e1,px⟩:=b9 px;obtain⟨x2,ys,rfl,e2,px⟩:=b9 px;obtain⟨x3,ys,rfl,e3,px⟩:=b9 px;obtain⟨tk,rfl,htk⟩:=uz e3;nofun;exists o,(C 7),dx,_,_,rfl,ho,Z.PU,Z.PZ,ip _ _ _ _;exists p,(C 5),dp,_,_,rfl,f1,Z.PV,Z.PX,kh _ _ _ _;refine bW (ar.of h3) (v:=.ref T) (o5 wf.p0 (by rw[hx,hT])) ?_;nofun;refine aZ (aH.of hT2) (v:=.ref tk) (bJ (j:=3) rfl) ?_;nofun;left;nofun;exists p,(C 5),dp,_,_,rfl,f1,Z.PV,Z.PY,iY _ _ _ _;refine aZ (aH.of htk) (v:=.int t0) dU ?_;nofun;refine tw f2 (j:=t0.toNat) (vG b0.1 (by rw[aV];omega)) ?_;rw[wV];have A1:=A'.setH (xs:=g.PL.set t0.toNat l0) hst;obtain⟨⟨dp1,g1'⟩,g2',g3',_⟩:=A1.fr;have tk1:=(kg (o:=.lst ((g.PL.set t0.toNat l0).map V.int)) f2) _ _ htk;have m1:a_ (aL r ia sa ((p,ha,aa)::PN)) H (aL r ia sa ((p,ha,aa)::PN)) (upd H ha (.lst ((g.PL.set t0.toNat l0).map V.int))):=a_.upd vn;generalize upd H ha (.lst ((g.PL.set t0.toNat l0).map V.int))=H1 at*;nofun;left;nofun;exists p,(C 5),dp1,_,_,rfl,g1',Z.PV,Z.PY,iY _ _ _ _;refine aZ (aH.of tk1) (v:=.int t1) (bJ (j:=1) rfl) ?_;nofun;refine tw g2' (j:=t1.toNat) (vG b1.1 (by rw[aV,Ou];omega)) ?_;rw[wV];have A2:=A1.setH (xs:=(g.PL.set t0.toNat l0).set t1.toNat l1) rfl;obtain⟨⟨dp2,k1⟩,k2,k3,_⟩:=A2.fr;have m2:a_ (aL r ia sa ((p,ha,aa)::PN)) H1 (aL r ia sa ((p,ha,aa)::PN)) (upd H1 ha (.lst (((g.PL.set t0.toNat l0).set t1.toNat l1).map V.int))):=a_.upd vn;generalize upd H1 ha (.lst (((g.PL.set t0.toNat l0).set t1.toNat l1).map V.int))=H2 at*;nofun;exists p,(C 5),dp2,_,_,rfl,k1,Z.PV,Z.PX,kh _ _ _ _;refine⟨p,(C 5),dp2,_,rfl,k1,Z.PV,Z.PX,by show 4<1000;decide,?_⟩;rw[B3];have A3:=A2.setP (q:=g.p+1) rfl k1;refine q _ (m1.trans (m2.trans (a_.upd Bk))) ?_;unfold gY vY;rw[hd];exact A3
inductive AX (K:Fg)(C:Nat->Addr)(vs:QV)(H:Hp)(Q:VK)(E:XK):Prop
 |mk (r ka ia sa:Addr) (ks:QS) (cr:Int->Cr) (PN:List Fa) (s:Rs) (P2:QW) (f:Fm) (st:List Fm):vs=[.ref r]->aD (C 6) (C 5) (C 7) H r ka ia sa ks cr PN s P2->s.st=f::st->s.en=none->Wf ks cr (f::st)->(∀ H' fas',a_ (aL r ia sa PN) H (aL r ia sa fas') H'->aD (C 6) (C 5) (C 7) H' r ka ia sa ks cr fas' (o8 cr s f st) P2->Q .non H')->AX K C vs H Q E
variable (Q21:bK bL P w K mg b8 (C 6) "meets" ["self","word","lines","numbers"] 4 (AU K C))(Qa:bK bL P w K mg b8 (C 5) "numbers" ["self"] 1 (Q9 K C))
include B Z Q1f Q21 Qa in
theorem LH (G_Run_take:bK bL P w K mg b8 (C 6) "take" ["self","left_0","left_1"] 2 (AW K C))(F:aS K "leave" "Run.leave" xT f fd)(M:br K (C 6) "leave" f):bK bL P w K mg b8 (C 6) "leave" ["self"] 5 (AX K C):=by
 refine eP F M EM λ_ _ _ _ H vs Q E hr h=>?_;obtain⟨r,ka,ia,sa,ks,cr,PN,s',P2,f,st,rfl,A',hst,hen,wfs,q⟩:=h;refine⟨_,(az (js 1 EM.nd (jx K (jf K 0) (dP dX aj)))
   (az (bq (iU (fg (cS Q21 Z.PR hr cf (pv 0) (dj bY (dR (kP K (cS Q1f Z.PR hr cf (pv 0) (jn 1 ag)) rfl) (bH (iO Qa Z.PV hr cf (pv 1)) ag)))))) (ay CM) bE)
   (az (dC (BS Pk PySem.F.slot_list_pop PySem.F.type_list_pop BR (jf K 0)))
   (ay (bq (vp K (jf K 0)) (ay (dC (cS G_Run_take Z.PR hr cf (pv 0) (bn (jx K (jf K 1) aj) (bn (jx K (jf K 1) aj) ag))))) (ay (eG (pv 0) (cx (dj bY (bn (jx K (jf K 1) aj) (bn (jx K (jf K 1) aj) ag)))) rfl))))))),?_⟩
 have wf:=wfs.1 f NW;have rt:=A'.kn.rt f.n wf.m;obtain⟨dr,ev,hr',_⟩:=A'.ins;have fr:=A'.fr;rw[hst]at fr;cases PN with
 |nil=>exact fr.elim
 |cons t PN=>
 obtain⟨p,ha,aa⟩:=t;obtain⟨⟨dp,f1⟩,f2,f3,f4⟩:=fr;nofun;left;nofun;exists r,(C 6),dr,_,_,rfl,hr',Z.PR,Z.P1,io;refine bW (ar.of A'.sta) (v:=.ref p) j5 ?_;nofun;left;nofun;exists r,dr,_,rfl,hr',dG;exists r,dr,_,rfl,hr',dG;refine⟨r,ka,ia,sa,ks,cr,(p,ha,aa)::PN,s',P2,p,dp,ha,aa,f,rfl,A',f1,wf.m,λo g hC=>?_⟩;obtain⟨dx,y1,y2,b3,b4,P9,Qo,ho,_,hL,_⟩:=hC.out (K:=K) rt.nine.d9;nofun;exists o,(C 7),dx,_,_,rfl,ho,Z.PU,Z.P6,j9 _ _ _ _;exists p,dp,_,rfl,f1,nH;refine⟨p,dp,ha,aa,f,rfl,f1,f2,f3,wf.h4,wf.a2,λna H1 s1 hna=>?_⟩;nofun;refine⟨r,ka,ia,sa,ks,cr,(p,ha,aa)::PN,s',P2,"leaves",y2,na,_,cP f,f,st,rfl,A'.same s1,hst,hen,hL.same s1,ar.of hna,oq wf,rt.sm.2.1,λH2 o2 A2=>?_⟩;have m2:a_ (aL r ia sa ((p,ha,aa)::PN)) H (aL r ia sa ((p,ha,aa)::PN)) H2:=(a_.same s1).trans (a_.offR o2 A2);unfold o8 at q;cases hb:cQ (cr f.n).PB (cP f)with
 |some i=>rw[hb]at q A2;dsimp only[Option.isNone];nofun;exact q H2 _ m2 A2
 |none=>
 rw[hb]at q A2;have A2:aD (C 6) (C 5) (C 7) H2 r ka ia sa ks cr ((p,ha,aa)::PN) s' P2:=by rw[<-Rs.quiet hen];exact A2
 dsimp only[Option.isNone];nofun;obtain⟨dr2,lL,hr2,_⟩:=A2.ins;nofun;left;nofun;exists r,(C 6),dr2,_,_,rfl,hr2,Z.PR,Z.P1,io;exists lK A2.sta;refine Bn A2.sta Hy ?_;rw[Hz];have A3:=A2.pop hst;have fr2:=A2.fr;rw[hst]at fr2;obtain⟨⟨dp2,k1⟩,k2,k3,_⟩:=fr2;have ns:sa≠p/\sa≠ha:=by have:=A2.ndr.2.2.2.2.2.1;rw[fV]at this;simp only[NP,OZ]at this;exact⟨this.1,this.2.1⟩
 have k1:(upd H2 sa (.lst (PN.reverse.map λt=>V.ref t.1))) p=some (.ins (C 5) dp2 (eI f.n f.p ha aa)):=by rw[aE ns.1.symm];exact k1
 have k2:(upd H2 sa (.lst (PN.reverse.map λt=>V.ref t.1))) ha=some (.lst (f.PL.map V.int)):=by rw[aE ns.2.symm];exact k2
 have m3:a_ (aL r ia sa ((p,ha,aa)::PN)) H (aL r ia sa PN) (upd H2 sa (.lst (PN.reverse.map λt=>V.ref t.1))):=m2.trans ((a_.upd vm).trans (a_.less Jw));generalize upd H2 sa (.lst (PN.reverse.map λt=>V.ref t.1))=H3 at*;obtain⟨dr3,ev3,hr3,_⟩:=A3.ins;have e4:=wf.h4;nofun;nomatch r,(C 6),dr3,_,_,rfl,hr3,Z.PR,Z.P1,io;refine vD (ar.of A3.sta) ?_;cases st with
 |nil=>
  cases PN with
  |cons t PN=>exact A3.fr.elim
  |nil=>
  rw[show(!(([]:List Fa).reverse.map λt=>V.ref t.1).isEmpty)=false from rfl];nofun;exists p,(C 5),dp2,_,_,rfl,k1,Z.PV,Z.PY,iY _ _ _ _;refine bW (ar.of k2) (nY (k:=0) (by decide) (by omega)) ?_;nofun;exists p,(C 5),dp2,_,_,rfl,k1,Z.PV,Z.PY,iY _ _ _ _;refine bW (ar.of k2) (nY (k:=1) (by decide) (by omega)) ?_;nofun;refine⟨(by right),λT hT=>?_⟩;have t4:=aB hT (.tup (oJ f));nofun;refine⟨r,(C 6),dr3,_,rfl,t4 _ _ hr3,Z.PR,Z.P0,by show 5<1000;decide,?_⟩;rw[mJ];exact q _ [] (m3.trans ((a_.same t4).trans (a_.upd nJ))) ((A3.same t4).setR (k':=s'.k) (en':=some (oJ f)) (t4 _ _ hr3) ⟨T,rfl,aw⟩)
 |cons g st=>
  cases PN with
  |nil=>exact A3.fr.elim
  |cons t PN=>
  have et:(!((t::PN).reverse.map λt=>V.ref t.1).isEmpty)=true:=by simp
  rw[et];nofun;exists r,dr3,_,rfl,hr3,dG;exists p,(C 5),dp2,_,_,rfl,k1,Z.PV,Z.PY,iY _ _ _ _;refine bW (ar.of k2) (nY (k:=0) (by decide) (by omega)) ?_;nofun;exists p,(C 5),dp2,_,_,rfl,k1,Z.PV,Z.PY,iY _ _ _ _;refine bW (ar.of k2) (nY (k:=1) (by decide) (by omega)) ?_;nofun;refine⟨r,ka,ia,sa,ks,cr,t::PN,_,P2,g,st,_,_,rfl,A3,rfl,wfs.1 g (by simp),wfs.2 g (by simp),λH4 m4 A4=>?_⟩;nofun;exact q H4 _ (m3.trans m4) A4
inductive AY (K:Fg)(C:Nat->Addr)(vs:QV)(H:Hp)(Q:VK)(E:XK):Prop
 |mk (r ka ia sa:Addr) (ks:QS) (cr:Int->Cr) (PN:List Fa) (s:Rs) (P2:QW) (f:Fm) (st:List Fm):vs=[.ref r]->aD (C 6) (C 5) (C 7) H r ka ia sa ks cr PN s P2->s.st=f::st->s.en=none->kC ks cr f->f.p<((cr f.n).PD.length:Int)->(cr f.n).Rt->(∀ H',bc [r] H H'->aD (C 6) (C 5) (C 7) H' r ka ia sa ks cr PN {s with en:=lB cr f} P2->Q .non H')->AY K C vs H Q E
include B Z Q1f Q21 Qa in
theorem Nd (F:aS K "meet_notes" "Run.meet_notes" yZ f fd)(M:br K (C 6) "meet_notes" f):bK bL P w K mg b8 (C 6) "meet_notes" ["self"] 5 (AY K C):=by
 refine eP F M E8 λ_ _ _ _ H vs Q E hr h=>?_;obtain⟨r,ka,ia,sa,ks,cr,PN,s',P2,f,st,rfl,A',hst,hen,wf,hp,rt,q⟩:=h;refine⟨_,(az (js 1 E8.nd (jx K (jf K 0) (dP dX aj)))
   (ay (dC (cS Q21 Z.PR hr cf (pv 0) (dj bY (bn (jx K (kP K (cS Q1f Z.PR hr cf (pv 0) (jn 1 ag)) rfl) (jf K 1)) (bH (iO Qa Z.PV hr cf (pv 1)) ag))))))),?_⟩
 obtain⟨dr,ev,hr',_⟩:=A'.ins;have fr:=A'.fr;rw[hst]at fr;cases PN with
 |nil=>exact fr.elim
 |cons t PN=>
 obtain⟨p,ha,aa⟩:=t;obtain⟨⟨dp,f1⟩,f2,f3,_⟩:=fr;left;nofun;exists r,(C 6),dr,_,_,rfl,hr',Z.PR,Z.P1,io;refine bW (ar.of A'.sta) (v:=.ref p) j5 ?_;nofun;exists r,dr,_,rfl,hr',dG;exists r,dr,_,rfl,hr',dG;refine⟨r,ka,ia,sa,ks,cr,(p,ha,aa)::PN,s',P2,p,dp,ha,aa,f,rfl,A',f1,wf.m,λo g hC=>?_⟩;obtain⟨dx,y1,y2,b3,b4,P9,Qo,ho,_,_,h3,hD,h4,hN⟩:=hC.out (K:=K) rt.nine.d9;have hp0:=wf.p0;have ln:f.p.toNat<(cr f.n).PF.length:=by rw[rt.parts.2.2.2.1];omega
 have ln':f.p.toNat<Qo.length:=by rw[<-hN.1];exact ln
 obtain⟨la,hx,hL⟩:=hN.2 f.p.toNat _ _ (NQ ln) (NQ ln');nofun;exists o,(C 7),dx,_,_,rfl,ho,Z.PU,Z.P7,lC _ _ _ _;exists p,(C 5),dp,_,_,rfl,f1,Z.PV,Z.PX,kh _ _ _ _;refine bW (ar.of h4) (v:=.ref la) (o5 hp0 (by rw[NQ ln',hx])) ?_;nofun;exists p,dp,_,rfl,f1,nH;refine⟨p,dp,ha,aa,f,rfl,f1,f2,f3,wf.h4,wf.a2,λna H1 s1 hna=>?_⟩;refine⟨r,ka,ia,sa,ks,cr,(p,ha,aa)::PN,s',P2,"notes",la,na,_,cP f,f,st,rfl,A'.same s1,hst,hen,hL.same s1,ar.of hna,oq wf,rt.sm.2.2 _ (Om ln),λH2 o2 A2=>?_⟩;refine q H2 (s1.offA.trans o2) ?_;unfold lB;rw[show(cr f.n).PF.getD f.p.toNat []=(cr f.n).PF[f.p.toNat]by rw[N2,NQ ln];rfl];exact A2
inductive A0 (K:Fg)(C:Nat->Addr)(vs:QV)(H:Hp)(Q:VK)(E:XK):Prop
 |mk (r ka ia sa:Addr) (ks:QS) (cr:Int->Cr) (PN:List Fa) (s:Rs) (P2:QW) (f:Fm) (st:List Fm) (j:Int):vs=[.ref r,.int j]->aD (C 6) (C 5) (C 7) H r ka ia sa ks cr PN s P2->s.st=f::st->s.en=none->Wf ks cr ({f with p:=j}::st)->(∀ H' fas',a_ (aL r ia sa PN) H (aL r ia sa fas') H'->aD (C 6) (C 5) (C 7) H' r ka ia sa ks cr fas' (dH cr s {f with p:=j} st) P2->Q .non H')->A0 K C vs H Q E
include B Z in
theorem MF (Q18:bK bL P w K mg b8 (C 6) "is_behind_last_deed" ["self"] 2 (AZ K C))(Q1c:bK bL P w K mg b8 (C 6) "leave" ["self"] 5 (AX K C))(Q1a:bK bL P w K mg b8 (C 6) "meet_notes" ["self"] 5 (AY K C))(F:aS K "come_to" "Run.come_to" yR f fd)(M:br K (C 6) "come_to" f):bK bL P w K mg b8 (C 6) "come_to" ["self","place"] 6 (A0 K C):=by
 refine eP F M EV λ_ _ _ _ H vs Q E hr h=>?_;obtain⟨r,ka,ia,sa,ks,cr,PN,s',P2,f,st,j,rfl,A',hst,hen,wfs,q⟩:=h;refine⟨_,(az (js 2 EV.nd (jx K (jf K 0) (dP dX aj)))
   (az (eG (pv 2) (pv 1) rfl)
   (az (uf PassesOwn.never (PW.pt (vM (jc md (jf K 0) gH) (ww (fg (iO Q18 Z.PR hr cf (pv 0)))))) (ay (dC (iO Q1c Z.PR hr cf (pv 0)))))
   (ay (bq (jc md (jf K 0) gH) (ay (dC (iO Q1a Z.PR hr cf (pv 0)))) bE))))),?_⟩
 obtain⟨dr,ev,hr',_⟩:=A'.ins;have fr:=A'.fr;rw[hst]at fr;cases PN with
 |nil=>exact fr.elim
 |cons t PN=>
 obtain⟨p,ha,aa⟩:=t;obtain⟨⟨dp,f1⟩,f2,f3,f4⟩:=fr;nofun;left;nofun;exists r,(C 6),dr,_,_,rfl,hr',Z.PR,Z.P1,io;refine bW (ar.of A'.sta) (v:=.ref p) j5 ?_;nofun;left;nofun;refine⟨p,(C 5),dp,_,rfl,f1,Z.PV,Z.PX,by show 4<1000;decide,?_⟩;rw[B3];have A1:=A'.setP (q:=j) hst f1;have m1:a_ (aL r ia sa ((p,ha,aa)::PN)) H (aL r ia sa ((p,ha,aa)::PN)) (upd H p (.ins (C 5) dp (eI f.n j ha aa))):=a_.upd Bk;generalize upd H p (.ins (C 5) dp (eI f.n j ha aa))=H1 at*;nofun;with_reducible refine jD (λσ H2=>σ=[some (.ref r),some (.int j),some (.ref p)]/\∃ fas2 s2,iF ks cr s' {f with p:=j} st s2/\a_ (aL r ia sa ((p,ha,aa)::PN)) H (aL r ia sa fas2) H2/\aD (C 6) (C 5) (C 7) H2 r ka ia sa ks cr fas2 s2 P2/\(s2.en=none->∃ g r,s2.st=g::r/\Wf ks cr (g::r)/\¬ g.p=((cr g.n).PD.length:Int))) (λNX tail=>?_) ?_
 ·nomatch λm σ H2=>σ=[some (.ref r),some (.int j),some (.ref p)]/\∃ fas2 s2,m=iw s2/\iF ks cr s' {f with p:=j} st s2/\a_ (aL r ia sa ((p,ha,aa)::PN)) H (aL r ia sa fas2) H2/\aD (C 6) (C 5) (C 7) H2 r ka ia sa ks cr fas2 s2 P2,⟨_,rfl,_,({s' with st:={f with p:=j}::st}:Rs),rfl,⟨rfl,rfl,.inl ⟨hen,_,_,rfl,wfs,rfl⟩⟩,m1,A1⟩;rintro m σ H2 ⟨rfl,fas2,s2,rfl,cm,m2,A2⟩;obtain⟨dr2,lL,hr2,en2⟩:=A2.ins;have en2:=en2.none_iff;nofun;exists r,(C 6),dr2,_,_,rfl,hr2,Z.PR,Z.P0,pM;nomatch rfl;rw[en2];nofun;cases he:s2.en with
  |some x=>dsimp only[Option.isNone];nofun;exact tail _ _ ⟨rfl,_,_,cm,m2,A2,λz=>by rw[he]at z;cases z⟩
  |none=>
  obtain⟨g,r2,hs2,w2⟩:=cm.top he;dsimp only[Option.isNone];nofun;exists r,dr2,_,rfl,hr2,dG;nomatch r,ka,ia,sa,ks,cr,fas2,s2,P2,g,r2,rfl,A2,hs2,w2.1 g NW,A2.kn.rt g.n (w2.1 g NW).m;by_cases hp:g.p=((cr g.n).PD.length:Int)
  ·rw[N0 hp];nofun;exists λσ H3=>σ=[some (.ref r),some (.int j),some (.ref p)]/\∃ fas3 s3,iw s3<iw s2/\iF ks cr s' {f with p:=j} st s3/\a_ (aL r ia sa ((p,ha,aa)::PN)) H (aL r ia sa fas3) H3/\aD (C 6) (C 5) (C 7) H3 r ka ia sa ks cr fas3 s3 P2,λσ' H' ⟨e,fas3,s3,lt,z⟩=>⟨_,lt,e,fas3,s3,rfl,z⟩;exists r,dr2,_,rfl,hr2,dG;refine⟨r,ka,ia,sa,ks,cr,fas2,s2,P2,g,r2,rfl,A2,hs2,he,w2,λH3 fas3 m3 A3=>?_⟩;nofun;obtain⟨c3,l3⟩:=cm.leave he hs2 hp;exact⟨rfl,fas3,_,l3,c3,m2.trans m3,A3⟩
  ·rw[N7 hp];nofun;exact tail _ _ ⟨rfl,_,_,cm,m2,A2,λ_=>⟨g,r2,hs2,w2,hp⟩⟩
 ·rintro σ H2 ⟨rfl,fas2,s2,cm,m2,A2,on⟩;obtain⟨dr2,lL,hr2,en2⟩:=A2.ins;have en2:=en2.none_iff;nofun;exists r,(C 6),dr2,_,_,rfl,hr2,Z.PR,Z.P0,pM;nomatch rfl;rw[en2];nofun;cases he:s2.en with
  |some x=>dsimp only[Option.isNone];nofun;refine q H2 fas2 m2 ?_;rw[<-cm.ended (by rw[he];intro z;cases z)];exact A2
  |none=>
  obtain⟨g,r2,hs2,w2,hp⟩:=on he;dsimp only[Option.isNone];nofun;exists r,dr2,_,rfl,hr2,dG;have wg:=w2.1 g NW;refine⟨r,ka,ia,sa,ks,cr,fas2,s2,P2,g,r2,rfl,A2,hs2,he,wg,by have:=wg.pn;omega,A2.kn.rt g.n wg.m,λH3 o3 A3=>?_⟩;nofun;refine q H3 fas2 (m2.trans (a_.offR o3 A3)) ?_;rw[<-cm.stay he hs2 hp];exact A3
inductive A_ (K:Fg)(C:Nat->Addr)(vs:QV)(H:Hp)(Q:VK)(E:XK):Prop
 |mk (r ka ia sa:Addr) (ks:QS) (cr:Int->Cr) (PN:List Fa) (s:Rs) (P2:QW) (g:Addr) (n a0 a1:Int):vs=[.ref r,.int n,.ref g]->aD (C 6) (C 5) (C 7) H r ka ia sa ks cr PN s P2->(ar K H g [.int a0,.int a1]\/aH K H g [.int a0,.int a1])->s.en=none->Wf ks cr (fQ n a0 a1::s.st)->s.st.length<20->(∀ H' fas',a_ (aL r ia sa PN) H (aL r ia sa fas') H'->aD (C 6) (C 5) (C 7) H' r ka ia sa ks cr fas' (dH cr s (fQ n a0 a1) s.st) P2->Q .non H')->A_ K C vs H Q E
variable (Q16:bK bL P w K mg b8 (C 6) "come_to" ["self","place"] 6 (A0 K C))
include B Z Q16 in
theorem LG (M_Frame:kE P w K mg b8 "Frame" (C 5) ["self","number","asked"] 1 (Q8 K C))(F:aS K "begin" "Run.begin" xU f fd)(M:br K (C 6) "begin" f):bK bL P w K mg b8 (C 6) "begin" ["self","number","given"] 7 (A_ K C):=by
 refine eP F M LN λ_ _ _ _ H vs Q E hr h=>?_;obtain⟨r,ka,ia,sa,ks,cr,PN,s',P2,g,n,a0,a1,rfl,A',hg,hen,wfs,l20,q⟩:=h;refine⟨_,(az (dC (nC Pk PySem.F.slot_list_append PySem.F.type_list_append ux (jf K 0) (bH (ve M_Frame hr rfl (jn 1 (jn 2 ag))) ag)))
   (ay (dC (cS Q16 Z.PR hr cf (pv 0) (jk ag))))),?_⟩
 obtain⟨dr,ev,hr',_⟩:=A'.ins;have fl:=A'.fr.len;nofun;left;nofun;exists r,(C 6),dr,_,_,rfl,hr',Z.PR,Z.P1,io;exists lK A'.sta;intro y dy hy hdy ndy;have sm:ae H (upd (upd H dy (.own y)) y (.ins (C 5) dy [])):=λb o e=>by rw[aE (bX e hy),aE (bX e hdy)];exact e
 refine⟨y,dy,g,n,a0,a1,rfl,aw,nX sm.sq hg,λha aa H1 ha0 aa0 nha o1 hp1 hh1 haa1=>⟨rfl,?_⟩⟩;have s1:ae H H1:=λb o e=>o1 b o (λz=>by rw[bu.mp z,hy]at e;cases e) (sm b o e);have ny:y≠ha/\y≠aa:=⟨λz=>(by rw[<-z,aw]at ha0;cases ha0),λz=>(by rw[<-z,aw]at aa0;cases aa0)⟩;have A2:=A'.push (f:=fQ n a0 a1) s1 hy (sm.free ha0) (sm.free aa0) ny.1 ny.2 nha A'.kn.has hp1 hh1 haa1;have m2:a_ (aL r ia sa PN) H (aL r ia sa ((y,ha,aa)::PN)) (upd H1 sa (.lst ((PN.reverse.map λt=>V.ref t.1)++[.ref y]))):=a_.push s1 hy (sm.free ha0) (sm.free aa0);nofun;refine vf (s1 _ _ A'.sta) (kc (by rw[aV,List.length_reverse];omega)) ?_;generalize upd H1 sa (.lst ((PN.reverse.map λt=>V.ref t.1)++[.ref y]))=H2 at*;obtain⟨dr2,lL,hr2,_⟩:=A2.ins;nofun;exists r,dr2,_,rfl,hr2,dG;refine⟨r,ka,ia,sa,ks,cr,(y,ha,aa)::PN,_,P2,fQ n a0 a1,s'.st,0,rfl,A2,rfl,hen,wfs,λH3 fas3 m3 A3=>?_⟩;nofun;exact q H3 fas3 (m2.trans m3) A3
inductive AT (K:Fg)(vs:QV)(H:Hp)(Q:VK)(E:XK):Prop
 |mk (g:Addr) (a0 a1:Int):vs=[.ref g]->(ar K H g [.int a0,.int a1]\/aH K H g [.int a0,.int a1])->(∀ na H',ae H H'->H' na=some (.lst ((eY a0 a1).map V.int))->Q (.ref na) H')->AT K vs H Q E
include B Z in
theorem MZ (F:aS K "asked_numbers" "asked_numbers" zf f fd)(m:mg "asked_numbers"=some (.ref f)):Fn P w K mg b8 "asked_numbers" ["asked"] 1 (AT K):=by refine bR F M5 m λ_ _ _ _ H vs Q E hr h=>?_;obtain⟨g,a0,a1,rfl,hg,q⟩:=h;exists _,(ay (aJ (bv (jk (jk (jk (jk (bn (jx K (pv 0) aj) (bn (jx K (pv 0) aj) (jk (jk ag)))))))))));refine vW hg ?_;nofun;refine vV hg ?_;nofun;exact⟨(by right),λp hp=>q _ _ (aB hp _) aw⟩
inductive Qb (K:Fg)(C:Nat->Addr)(vs:QV)(H:Hp)(Q:VK)(E:XK):Prop
 |mk (p dx ha la va g ia0:Addr) (n a0 a1:Int) (ks:QS) (cr:Int->Cr) (ws:QS) (fp:QW) (ins:QS):vs=[.ref p,.ref ha,.int n,.ref g,.ref ia0]->H p=some (.ins (C 6) dx [])->cn (C 8) (C 7) H ha la va ks cr ws fp->(ar K H g [.int a0,.int a1]\/aH K H g [.int a0,.int a1])->ar K H ia0 (ins.map V.int)->n.natAbs<fL->(n∉ks->∀ H',bc [p] H H'->E (.ref (C 2)) none H')->(n∈ks->cQ (cr n).PJ (eY a0 a1)≠none->∀ H',bc [p] H H'->E (.ref (C 4)) none H')->(n∈ks->cQ (cr n).PJ (eY a0 a1)=none->∀ H' ka ia sa PN P2 ns,a_ [p] H (aL p ia sa PN) H'->aD (C 6) (C 5) (C 7) H' p ka ia sa ns cr PN (dH cr ⟨[],ins,0,none⟩ (fQ n a0 a1) []) P2->ns.Perm ks->(∀ b∈ka::P2,H b=none)->Q .non H')->Qb K C vs H Q E
theorem C4{o:HO}(h:H b=none):bc S H (upd H b o):=(aB h o).offA
variable (Q14:bK bL P w K mg b8 (C 6) "begin" ["self","number","given"] 7 (A_ K C))(Q25:Fn P w K mg b8 "asked_numbers" ["asked"] 1 (AT K))
include B Z Q23 Q14 Q25 in
theorem FU (Q63:bK bL P w K mg b8 (C 8) "crafts" ["self"] 5 (Ao K C))(F:aS K "__init__" "Run.__init__" yO f fd)(M:Mk K (C 6) f):sM P w K mg b8 "Run" (C 6) ["self","hall","number","given","inputs"] 8 (Qb K C):=by
 refine NG F M Mz Z.QR λ_ _ _ _ H vs Q E hr h=>?_;obtain⟨p,dx,ha,la,va,g,ia0,n,a0,a1,ks,cr,ws,fp,ins,rfl,hp,hA,hg,hin,hn,q1,q2,q3⟩:=h;refine⟨_,(az (eG (pv 0) (iO Q63 Z.P3 hr cf (pv 1)) rfl)
   (az (eG (pv 0) (mL (tu K) rfl B.list L2.om (jn 4 ag)) rfl)
   (az (eG (pv 0) (bv ag) rfl)
   (az (eG (pv 0) aj rfl)
   (az (eG (pv 0) gH rfl)
   (az (bq (mi (pL (cu hr) (pv 2) (jf K 0))) (ay (pD Z.Qw rfl Z.Qu rfl pA (eL (vE (pv 2) (by decide+kernel)) ag))) bE)
   (az (bq (jc wv (jl Q23 hr (dR (kP K (ly (cu hr) (jf K 0) (pv 2) (λ_ _=>rfl)) rfl) (bH (jl Q25 hr (jn 3 ag)) ag))) gH) (ay (pD Z.QA rfl Z.QG rfl pA (eL (vE (pv 2) (by decide+kernel)) ag))) bE)
   (ay (dC (cS Q14 Z.PR hr cf (pv 0) (jn 2 (jn 3 ag)))))))))))),?_⟩
 obtain⟨dh,hh⟩:=hA.ins;nofun;left;nofun;exists ha,dh,_,rfl,hh,gZ;refine⟨ha,la,va,ks,cr,ws,fp,rfl,hA,λca H1 kvs ns F s1 ca0 hca pm so hk f0 fn fd=>?_⟩;nofun;have p1:=s1 _ _ hp;refine⟨p,(C 6),dx,[],rfl,p1,Z.PR,Z.Qg,by show 0<1000;decide,?_⟩;have sq:∀{H H':Hp}{fs:List (Str×V)},H p=some (.ins (C 6) dx fs)->bc [p] H H'->Sq H H':=λ{H H' fs} e o b u eu su=>o b u (λz=>by rw[bu.mp z,e]at eu;cases eu;cases su) eu;have o1:bc [p] H1 (upd H1 p (.ins (C 6) dx (au "known" (.ref ca) []))):=ii (by simp);have p2:(upd H1 p (.ins (C 6) dx (au "known" (.ref ca) []))) p=some (.ins (C 6) dx (au "known" (.ref ca) [])):=aw;generalize upd H1 p (.ins (C 6) dx (au "known" (.ref ca) []))=H2 at*;nofun;left;nofun;refine tZ (.inl ((sq p1 o1).lst (s1.seq hin))) λia ia0'=>?_;have nia:ia≠p:=(bX p2 ia0').symm;nofun;refine⟨p,(C 6),dx,_,rfl,by rw[aE nia.symm];exact p2,Z.PR,Z.Qh,N1 (eN (n:=1) (by decide)) (by decide),?_⟩;have o3:bc [p] H1 (upd (upd H2 ia (.lst (ins.map V.int))) p (.ins (C 6) dx (au "inputs_left" (.ref ia) (au "known" (.ref ca) [])))):=o1.trans ((C4 ia0').trans (ii (by simp)));have p3:(upd (upd H2 ia (.lst (ins.map V.int))) p (.ins (C 6) dx (au "inputs_left" (.ref ia) (au "known" (.ref ca) [])))) p=some (.ins (C 6) dx (au "inputs_left" (.ref ia) (au "known" (.ref ca) []))):=aw;have i3:(upd (upd H2 ia (.lst (ins.map V.int))) p (.ins (C 6) dx (au "inputs_left" (.ref ia) (au "known" (.ref ca) [])))) ia=some (.lst (ins.map V.int)):=by rw[aE nia,aw]
 generalize upd (upd H2 ia (.lst (ins.map V.int))) p (.ins (C 6) dx (au "inputs_left" (.ref ia) (au "known" (.ref ca) [])))=H3 at*;nofun;left;nofun;refine⟨(by right),λsa sa0=>?_⟩;have nsa:sa≠p:=(bX p3 sa0).symm;have nis:ia≠sa:=bX i3 sa0;nofun;refine⟨p,(C 6),dx,_,rfl,by rw[aE nsa.symm];exact p3,Z.PR,Z.P1,N1 (eN (n:=2) (eN (n:=1) (by decide))) (by decide),?_⟩;nofun;left;nofun;exists p,(C 6),dx,_,rfl,aw,Z.PR,Z.Qi,N1 (eN (n:=3) (eN (n:=2) (eN (n:=1) (by decide)))) (by decide);left;nofun;nomatch p,(C 6),dx,_,rfl,aw,Z.PR,Z.P0,N1 (eN (n:=4) (eN (n:=3) (eN (n:=2) (eN (n:=1) (by decide))))) (by decide);rw[HB];generalize hH6:upd (upd (upd (upd H3 sa (.lst [])) p (.ins (C 6) dx (au "stack" (.ref sa) (au "inputs_left" (.ref ia) (au "known" (.ref ca) []))))) p (.ins (C 6) dx (au "steps_done" (.int 0) (au "stack" (.ref sa) (au "inputs_left" (.ref ia) (au "known" (.ref ca) [])))))) p (.ins (C 6) dx (bO ca ia sa 0 .non))=H6;have o6:bc [p] H1 H6:=by rw[<-hH6];exact o3.trans ((C4 sa0).trans ((ii (by simp)).trans ((ii (by simp)).trans (ii (by simp)))))
 have p6:H6 p=some (.ins (C 6) dx (bO ca ia sa 0 .non)):=by rw[<-hH6,aw]
 have i6:H6 ia=some (.lst (ins.map V.int)):=by rw[<-hH6,aE nia,aE nia,aE nia,aE nis];exact i3
 have s6:H6 sa=some (.lst []):=by rw[<-hH6,aE nsa,aE nsa,aE nsa,aw]
 clear hH6;have ia1:H1 ia=none:=by
  cases e:H1 ia with
  |none=>rfl
  |some o=>rw[o1 ia o (by simp[nia]) e]at ia0';cases ia0'
 have sa1:H1 sa=none:=by
  cases e:H1 sa with
  |none=>rfl
  |some o=>rw[o3 sa o (by simp[nsa]) e]at sa0;cases sa0
 have nF:∀ m∈ns,∀ b∈F m,b≠p/\∃ o,H1 b=some o:=λm hm b hb=>by obtain⟨v,_,p',_,hC⟩:=hk.2.2 m hm;exact⟨λz=>(by have:=f0 m hm b hb;rw[z,hp]at this;cases this),hC.has b hb⟩
 have tk:cv H1 H6:=λb xs e=>o6 b _ (λz=>by rw[bu.mp z,p1]at e;cases e) e;have kn:bz (C 7) H6 ca ns cr (ns.flatMap F):=⟨⟨kvs,o6 _ _ (by simp[bX hp ca0 |>.symm]) hca,hk.1,hk.2.1,λm hm=>by obtain⟨v,e,p',rfl,hC⟩:=hk.2.2 m hm;exact⟨_,e,p',F m,rfl,hC.frame tk λb hb o ho=>o6 b o (by simp[(nF m hm b hb).1]) ho,λb hb=>O2.mpr ⟨m,hm,hb⟩⟩⟩,λm hm=>hA.rt m (pm.mem_iff.mp hm),λb hb=>by obtain⟨m,hm,hb⟩:=O2.mp hb;obtain⟨nb,o,ho⟩:=nF m hm b hb;exact⟨o,o6 b o (by simp[nb]) ho⟩⟩;have A6:aD (C 6) (C 5) (C 7) H6 p ca ia sa ns cr [] ⟨[],ins,0,none⟩ (ns.flatMap F):=by
  refine⟨⟨dx,.non,p6,rfl⟩,kn,i6,s6,trivial,?_,λb hb=>?_⟩
  ·simp only[aL,cB,List.flatMap_nil,Og,NP,NT,Of,OZ,not_false_eq_true,OA,and_true];exact⟨⟨nia.symm,nsa.symm⟩,nis⟩
  ·intro z;obtain⟨m,hm,z⟩:=O2.mp z;obtain⟨nb,o,ho⟩:=nF m hm b z;simp only[aL,cB,List.flatMap_nil,NP,NT,Of]at hb;rcases hb with rfl|rfl|rfl
   ·exact nb rfl
   ·rw[ia1]at ho;cases ho
   ·rw[sa1]at ho;cases ho
 have o06:bc [p] H H6:=s1.offA.trans o6;have m06:a_ [p] H (aL p ia sa []) H6:=⟨o06,λb hb=>by
  simp only[aL,cB,List.flatMap_nil,NP,NT,Of]at hb;rcases hb with rfl|rfl|rfl
  ·exact .inl (by simp)
  ·exact .inr (s1.free ia1)
  ·exact .inr (s1.free sa1),C7 o06 λb hb=>by rw[bu.mp hb];exact⟨_,p6⟩⟩
 nofun;left;nofun;nomatch p,(C 6),dx,_,_,rfl,p6,Z.PR,Z.Qg,pG;by_cases hm:n∈ks
 ·have hm':n∈ns:=pm.mem_iff.mpr hm;obtain⟨kvs',o,g1,e1,e2,e3⟩:=kn.craft hm';refine⟨ca,some (.ref o),rfl,by rw[<-e2];exact bj.k (k:=.inl n) e1,?_⟩;dsimp only[Option.isSome];nofun;have rtm:=kn.rt n hm';obtain⟨dc,y1,y2,b3,b4,P9,Qo,ho,hL,_⟩:=e3.out (K:=K) rtm.nine.d9;have hg6:=nX ((s1.sq).trans (sq p1 o6)) hg;nofun;left;nofun;exists p,(C 6),dx,_,_,rfl,p6,Z.PR,Z.Qg,pG;refine⟨ca,.ref o,rfl,by rw[<-e2];exact bj.k (k:=.inl n) e1,?_⟩;nofun;exists o,(C 7),dc,_,_,rfl,ho,Z.PU,Z.P4,jM _ _ _ _;refine⟨g,a0,a1,rfl,hg6,λna H7 s7 hna=>?_⟩;nofun;refine Cu (hL.same s7) (ar.of hna) rfl rtm.sm.1 λH8 s8=>?_;have s68:=s7.trans s8;nofun;cases hb:cQ (cr n).PJ (eY a0 a1)with
  |some i=>nomatch rfl;show ∃ k,V.bl (!decide (V.int (i:Int)=V.non))=.bl k/\_;rw[show decide (V.int (i:Int)=V.non)=false from N7 (by intro z;cases z)];nofun;refine⟨hn,λz=>?_⟩;nofun;exact⟨(by right),q2 hm (by rw[hb];intro z;cases z) _ (o06.trans s68.offA)⟩
  |none=>
   nomatch rfl;show ∃ k,V.bl (!decide (V.non=V.non))=.bl k/\_;rw[tK];nofun;exists p,dx,_,rfl,s68 _ _ p6,dG;refine⟨p,ca,ia,sa,ns,cr,[],_,_,g,n,a0,a1,rfl,A6.same s68,nX s68.sq hg6,rfl,⟨λk hk=>?_,λk hk=>by cases hk⟩,by show 0<20;decide,λH9 fas9 m9 A9=>?_⟩
   ·rw[bu.mp hk];exact⟨hm',by show(0:Int)<=0;omega,by show(0:Int)<=_;omega,rfl,rfl⟩
   ·nofun;refine q3 hm hb H9 ca ia sa fas9 _ ns (m06.trans ((a_.same s68).trans m9)) A9 pm λb hb=>?_;rcases NP.mp hb with rfl|hb
    ·exact ca0
    ·obtain⟨m,hm,hb⟩:=O2.mp hb;exact f0 m hm b hb
 ·obtain⟨kvs',e1,e2⟩:=kn.no (λz=>hm (pm.mem_iff.mp z));refine⟨ca,none,rfl,by rw[<-e2];exact bj.k (k:=.inl n) e1,?_⟩;dsimp only[Option.isSome];nofun;refine⟨hn,λz=>?_⟩;nofun;exact⟨(by right),q1 hm _ o06⟩
inductive Qe (K:Fg)(C:Nat->Addr)(vs:QV)(H:Hp)(Q:VK)(E:XK):Prop
 |mk (r ka ia sa:Addr) (ks:QS) (cr:Int->Cr) (PN:List Fa) (s:Rs) (P2:QW) (f:Fm) (st:List Fm) (hd x:Int):vs=[.ref r,.int hd,.int x]->aD (C 6) (C 5) (C 7) H r ka ia sa ks cr PN s P2->s.st=f::st->s.en=none->(0<=hd/\hd<=3)->Wf ks cr (f::st)->f.p<((cr f.n).PD.length:Int)->(∀ H' fas',a_ (aL r ia sa PN) H (aL r ia sa fas') H'->aD (C 6) (C 5) (C 7) H' r ka ia sa ks cr fas' (ft cr s f st hd x) P2->Q .non H')->Qe K C vs H Q E
include B Z Q16 in
theorem K_ (F:aS K "put" "Run.put" xq f fd)(M:br K (C 6) "put" f):bK bL P w K mg b8 (C 6) "put" ["self","hand","number"] 7 (Qe K C):=by
 refine eP F M Eg λ_ _ _ _ H vs Q E hr h=>?_;obtain⟨r,ka,ia,sa,ks,cr,PN,s',P2,f,st,hd,x,rfl,A',hst,hen,hh,wfs,hp,q⟩:=h;refine⟨_,(az (js 3 Eg.nd (jx K (jf K 0) (dP dX aj)))
   (az (oS (pv 2) (tG (jf K 3) (pv 1) ue))
   (ay (dC (cS Q16 Z.PR hr cf (pv 0) (bN (jp K (jf K 3) aj) ag)))))),?_⟩
 have wf:=wfs.1 f NW;have e4:=wf.h4;obtain⟨dr,ev,hr',_⟩:=A'.ins;have fr:=A'.fr;rw[hst]at fr;cases PN with
 |nil=>exact fr.elim
 |cons t PN=>
 obtain⟨p,ha,aa⟩:=t;obtain⟨⟨dp,f1⟩,f2,f3,f4⟩:=fr;nofun;left;nofun;exists r,(C 6),dr,_,_,rfl,hr',Z.PR,Z.P1,io;refine bW (ar.of A'.sta) (v:=.ref p) j5 ?_;nofun;left;nofun;exists p,(C 5),dp,_,_,rfl,f1,Z.PV,Z.PY,iY _ _ _ _;refine tw f2 (j:=hd.toNat) (vG hh.1 (by rw[aV];omega)) ?_;rw[wV];have A1:=A'.setH (xs:=f.PL.set hd.toNat x) hst;obtain⟨⟨dp1,g1'⟩,_⟩:=A1.fr;obtain⟨dr1,rV,hr1,_⟩:=A1.ins;have m1:a_ (aL r ia sa ((p,ha,aa)::PN)) H (aL r ia sa ((p,ha,aa)::PN)) (upd H ha (.lst ((f.PL.set hd.toNat x).map V.int))):=a_.upd vn;generalize upd H ha (.lst ((f.PL.set hd.toNat x).map V.int))=H1 at*;nofun;exists r,dr1,_,rfl,hr1,dG;exists p,(C 5),dp1,_,_,rfl,g1',Z.PV,Z.PX,kh _ _ _ _;refine⟨r,ka,ia,sa,ks,cr,(p,ha,aa)::PN,_,P2,{f with PL:=f.PL.set hd.toNat x},st,f.p+1,rfl,A1,rfl,hen,wfs.top ⟨wf.m,by have:=wf.p0;show 0<=f.p+1;omega,by show f.p+1<=((cr f.n).PD.length:Int);omega,by show(f.PL.set hd.toNat x).length=4;rw[Ou];exact e4,wf.a2⟩,λH2 fas2 m2 A2=>?_⟩;nofun;exact q H2 fas2 (m1.trans m2) A2
inductive Bc (K:Fg)(C:Nat->Addr)(vs:QV)(H:Hp)(Q:VK)(E:XK):Prop
 |mk (r ka ia sa:Addr) (ks:QS) (cr:Int->Cr) (PN:List Fa) (s:Rs) (P2:QW) (f:Fm) (st:List Fm) (hd lo hi:Int):vs=[.ref r,.int hd,.int lo,.int hi]->aD (C 6) (C 5) (C 7) H r ka ia sa ks cr PN s P2->s.st=f::st->s.en=none->(0<=hd/\hd<=3)->Wf ks cr (f::st)->f.p<((cr f.n).PD.length:Int)->(∀ H' fas',a_ (aL r ia sa PN) H (aL r ia sa fas') H'->aD (C 6) (C 5) (C 7) H' r ka ia sa ks cr fas' (dA cr ks s f st (.draw hd lo hi)) P2->Q .non H')->Bc K C vs H Q E
variable (Qf:bK bL P w K mg b8 (C 6) "put" ["self","hand","number"] 7 (Qe K C))
include B Z Qf in
theorem Ll (F:aS K "draw" "Run.draw" xE f fd)(M:br K (C 6) "draw" f):bK bL P w K mg b8 (C 6) "draw" ["self","hand","low","high"] 8 (Bc K C):=by
 refine eP F M Et λ_ _ _ _ H vs Q E hr h=>?_;obtain⟨r,ka,ia,sa,ks,cr,PN,s',P2,f,st,hd,lo,hi,rfl,A',hst,hen,hh,wfs,hp,q⟩:=h;refine⟨_,(az (bq (iU (vp K (jf K 0))) (az (eG (pv 0) (cx (dj bY ag)) rfl)
   (ay CM)) bE)
   (az (js 4 Et.nd (nC Pk PySem.F.slot_list_pop PySem.F.type_list_pop IN (jf K 0) (jk ag)))
   (ay (bq (IV nj nj (pv 2) (pv 4) (pv 3)) (ay (dC (cS Qf Z.PR hr cf (pv 0) (jn 1 (jn 4 ag))))) (ay (eG (pv 0) (cx (dj bY ag)) rfl)))))),?_⟩
 obtain⟨dr,ev,hr',_⟩:=A'.ins;have inp:=A'.inp;unfold dA at q;nofun;left;nofun;nomatch r,(C 6),dr,_,_,rfl,hr',Z.PR,Z.Qh,Ec;refine vD (ar.of inp) ?_;cases hin:s'.ins with
 |nil=>rw[hin]at q inp;dsimp only at q;rw[show(!(([]:QS).map V.int).isEmpty)=false from rfl];nofun;left;nofun;refine⟨(by right),λT hT=>?_⟩;have t4:=aB hT (.tup [V.str "dry"]);nofun;refine⟨r,(C 6),dr,_,rfl,t4 _ _ hr',Z.PR,Z.P0,by show 5<1000;decide,?_⟩;rw[mJ];nofun;have z:=(A'.same t4).setR (k':=s'.k) (en':=some [V.str "dry"]) (t4 _ _ hr') ⟨T,rfl,aw⟩;rw[hin]at z;exact q _ PN ((a_.same t4).trans (a_.upd nJ)) z
 |cons x rs=>
 rw[hin]at q inp;dsimp only at q;rw[bw]at inp;rw[show(!((x::rs).map V.int).isEmpty)=true from rfl];nofun;left;nofun;exists r,(C 6),dr,_,_,rfl,hr',Z.PR,Z.Qh,Ec;exists lK inp;refine FC inp ?_;have A1:=A'.setIn (xs:=rs);have m1:a_ (aL r ia sa PN) H (aL r ia sa PN) (upd H ia (.lst (rs.map V.int))):=a_.upd Bj;generalize upd H ia (.lst (rs.map V.int))=H1 at*;obtain⟨dr1,rV,hr1,_⟩:=A1.ins;have bad:¬ (lo<=x/\x<=hi)->∀ T,H1 T=none->Q .non (upd (upd H1 T (.tup [V.str "stray"])) r (.ins (C 6) dr1 (bO ka ia sa s'.k (.ref T)))):=λnb T hT=>by rw[NR nb]at q;have t4:=aB hT (.tup [V.str "stray"]);exact q _ PN (m1.trans ((a_.same t4).trans (a_.upd nJ))) ((A1.same t4).setR (k':=s'.k) (en':=some [V.str "stray"]) (t4 _ _ hr1) ⟨T,rfl,aw⟩)
 nofun;by_cases h1:lo<=x
 ·rw[N0 h1];nofun;by_cases h2:x<=hi
  ·rw[N0 h2];rw[NU ⟨h1,h2⟩]at q;nofun;exists r,dr1,_,rfl,hr1,dG;refine⟨r,ka,ia,sa,ks,cr,PN,_,P2,f,st,hd,x,rfl,A1,hst,hen,hh,wfs,hp,λH2 fas2 m2 A2=>?_⟩;nofun;exact q H2 fas2 (m1.trans m2) A2
  ·rw[N7 h2];nofun;refine⟨(by right),λT hT=>?_⟩;nofun;refine⟨r,(C 6),dr1,_,rfl,aB hT _ _ _ hr1,Z.PR,Z.P0,by show 5<1000;decide,?_⟩;rw[mJ];exact bad (λz=>h2 z.2) T hT
 ·rw[N7 h1];nofun;refine⟨(by right),λT hT=>?_⟩;nofun;refine⟨r,(C 6),dr1,_,rfl,aB hT _ _ _ hr1,Z.PR,Z.P0,by show 5<1000;decide,?_⟩;rw[mJ];exact bad (λz=>h1 z.1) T hT
inductive Bb (K:Fg)(C:Nat->Addr)(vs:QV)(H:Hp)(Q:VK)(E:XK):Prop
 |mk (r ka ia sa:Addr) (ks:QS) (cr:Int->Cr) (PN:List Fa) (s:Rs) (P2:QW) (f:Fm) (st:List Fm) (la:Addr) (l:QS):vs=[.ref r,.ref la]->aD (C 6) (C 5) (C 7) H r ka ia sa ks cr PN s P2->s.st=f::st->s.en=none->H la=some (.lst (l.map V.int))->l.length=9->Sm l->Wf ks cr (f::st)->f.p<((cr f.n).PD.length:Int)->(∀ H' fas',a_ (aL r ia sa PN) H (aL r ia sa fas') H'->aD (C 6) (C 5) (C 7) H' r ka ia sa ks cr fas' (match cQ [l] (cP f)with
  |some i=>{s with en:=some (brk "hold" f i)}
  |none=>dH cr s {f with p:=f.p+1} st) P2->Q .non H')->Bb K C vs H Q E
include B Z Q21 Qa Q16 in
theorem Lj (F:aS K "hold" "Run.hold" xD f fd)(M:br K (C 6) "hold" f):bK bL P w K mg b8 (C 6) "hold" ["self","line"] 7 (Bb K C):=by
 refine eP F M Es λ_ _ _ _ H vs Q E hr h=>?_;obtain⟨r,ka,ia,sa,ks,cr,PN,s',P2,f,st,la,l,rfl,A',hst,hen,P8,l9,lsm,wfs,hp,q⟩:=h;refine⟨_,(az (js 2 Es.nd (jx K (jf K 0) (dP dX aj)))
   (ay (bq (fg (cS Q21 Z.PR hr cf (pv 0) (dj bY (dJ (bv (jn 1 ag)) (bH (iO Qa Z.PV hr cf (pv 2)) ag))))) (ay (dC (cS Q16 Z.PR hr cf (pv 0) (bN (jp K (jf K 2) aj) ag)))) bE))),?_⟩
 have wf:=wfs.1 f NW;obtain⟨dr,ev,hr',_⟩:=A'.ins;have fr:=A'.fr;rw[hst]at fr;cases PN with
 |nil=>exact fr.elim
 |cons t PN=>
 obtain⟨p,ha,aa⟩:=t;obtain⟨⟨dp,f1⟩,f2,f3,f4⟩:=fr;nofun;left;nofun;exists r,(C 6),dr,_,_,rfl,hr',Z.PR,Z.P1,io;refine bW (ar.of A'.sta) (v:=.ref p) j5 ?_;nofun;exists r,dr,_,rfl,hr',dG;refine⟨(by right),λb hb=>?_⟩;have t1:=aB hb (.lst [V.ref la]);have hb1:(upd H b (.lst [V.ref la])) b=some (.lst [V.ref la]):=aw;generalize upd H b (.lst [V.ref la])=H1 at*;nofun;exists p,dp,_,rfl,t1 _ _ f1,nH;refine⟨p,dp,ha,aa,f,rfl,t1 _ _ f1,t1 _ _ f2,t1 _ _ f3,wf.h4,wf.a2,λna H2 s2 hna=>?_⟩;have s02:=t1.trans s2;nofun;refine⟨r,ka,ia,sa,ks,cr,(p,ha,aa)::PN,s',P2,"hold",b,na,[l],cP f,f,st,rfl,A'.same s02,hst,hen,⟨_,s2 _ _ hb1,?_⟩,ar.of hna,oq wf,λz hz=>by rw[bu.mp hz];exact⟨l9,lsm⟩,λH3 o3 A3=>?_⟩
 ·show av K H2 [nums l] [.ref la];unfold av;exact⟨_,_,rfl,gz.mpr ⟨la,rfl,ar.of (s02 _ _ P8)⟩,by unfold av;rfl⟩
 have m3:a_ (aL r ia sa ((p,ha,aa)::PN)) H (aL r ia sa ((p,ha,aa)::PN)) H3:=(a_.same s02).trans (a_.offR o3 A3);cases hb:cQ [l] (cP f)with
 |some i=>rw[hb]at q A3;dsimp only[Option.isNone];nofun;exact q H3 _ m3 A3
 |none=>
 rw[hb]at q A3;have A3:aD (C 6) (C 5) (C 7) H3 r ka ia sa ks cr ((p,ha,aa)::PN) s' P2:=by rw[<-Rs.quiet hen];exact A3
 dsimp only[Option.isNone];nofun;obtain⟨dr3,ev3,hr3,_⟩:=A3.ins;have fr3:=A3.fr;rw[hst]at fr3;obtain⟨⟨dp3,k1⟩,_⟩:=fr3;exists r,dr3,_,rfl,hr3,dG;exists p,(C 5),dp3,_,_,rfl,k1,Z.PV,Z.PX,kh _ _ _ _;refine⟨r,ka,ia,sa,ks,cr,(p,ha,aa)::PN,s',P2,f,st,f.p+1,rfl,A3,hst,hen,wfs.top ⟨wf.m,by have:=wf.p0;show 0<=f.p+1;omega,by show f.p+1<=((cr f.n).PD.length:Int);omega,wf.h4,wf.a2⟩,λH4 fas4 m4 A4=>?_⟩;nofun;exact q H4 fas4 (m3.trans m4) A4
inductive Ba (K:Fg)(C:Nat->Addr)(vs:QV)(H:Hp)(Q:VK)(E:XK):Prop
 |mk (r ka ia sa:Addr) (ks:QS) (cr:Int->Cr) (PN:List Fa) (s:Rs) (P2:QW) (f:Fm) (st:List Fm) (g:Addr) (m a0 a1:Int):vs=[.ref r,.int m,.ref g]->aD (C 6) (C 5) (C 7) H r ka ia sa ks cr PN s P2->s.st=f::st->s.en=none->(ar K H g [.int a0,.int a1]\/aH K H g [.int a0,.int a1])->Wf ks cr (f::st)->nK cr f->st.length<100->(∀ H' fas',a_ (aL r ia sa PN) H (aL r ia sa fas') H'->aD (C 6) (C 5) (C 7) H' r ka ia sa ks cr fas' (vk cr ks s f st m a0 a1) P2->Q .non H')->Ba K C vs H Q E
include B Z Q21 Q14 Q25 in
theorem Li (F:aS K "call" "Run.call" xC f fd)(M:br K (C 6) "call" f):bK bL P w K mg b8 (C 6) "call" ["self","number","given"] 8 (Ba K C):=by
 refine eP F M Lq λ_ _ _ _ H vs Q E hr h=>?_;obtain⟨r,ka,ia,sa,ks,cr,PN,s',P2,f,st,g,m,a0,a1,rfl,A',hst,hen,hg,wfs,hc,l100,q⟩:=h;nomatch _,(ay (bq (mi (pL (cu hr) (pv 1) (jf K 0))) (ay (eG (pv 0) (cx (dj bY ag)) rfl)) (ay (bq (jc vt (cq (eQ K) rfl B.len L2.boot_len (dR (jf K 0) ag)) (dS rfl B.Qr)) (ay (eG (pv 0) (cx (dj bY ag)) rfl)) (ay (bq (fg (cS Q21 Z.PR hr cf (pv 0) (dj bY (dR (kP K (ly (cu hr) (jf K 0) (pv 1) (λ_ _=>rfl)) rfl) (bH (jl Q25 hr (jn 2 ag)) ag))))) (ay (dC (cS Q14 Z.PR hr cf (pv 0) (jn 1 (jn 2 ag))))) bE))))));obtain⟨dr,ev,hr',_⟩:=A'.ins;have fl:=A'.fr.len;rw[hst,N_]at fl;unfold vk at q;have sete:∀(x:QV) T,H T=none->(∀ H' fas',a_ (aL r ia sa PN) H (aL r ia sa fas') H'->aD (C 6) (C 5) (C 7) H' r ka ia sa ks cr fas' {s' with en:=some x} P2->Q .non H')->Q .non (upd (upd H T (.tup x)) r (.ins (C 6) dr (bO ka ia sa s'.k (.ref T)))):=λx T hT q=>by have t4:=aB hT (.tup x);exact q _ PN ((a_.same t4).trans (a_.upd nJ)) ((A'.same t4).setR (k':=s'.k) (en':=some x) (t4 _ _ hr') ⟨T,rfl,aw⟩)
 nofun;nomatch r,(C 6),dr,_,_,rfl,hr',Z.PR,Z.Qg,pG;by_cases hm:m∈ks
 ·rw[NR (λz=>z hm)]at q;obtain⟨kvs,o,g1,e1,e2,e3⟩:=A'.kn.craft hm;refine⟨ka,some (.ref o),rfl,by rw[<-e2];exact bj.k (k:=.inl m) e1,?_⟩;dsimp only[Option.isSome];nofun;exists r,(C 6),dr,_,_,rfl,hr',Z.PR,Z.P1,io;refine eW (.inl (ar.of A'.sta)) ?_;nofun;rw[aV,List.length_reverse,<-fl];by_cases h20:20<=(f::st).length
  ·rw[NU h20]at q;rw[N_]at h20;rw[N0 (show(20:Int)<=((st.length+1:Nat):Int)by omega)];nofun;refine⟨(by right),λT hT=>?_⟩;nofun;refine⟨r,(C 6),dr,_,rfl,aB hT _ _ _ hr',Z.PR,Z.P0,by show 5<1000;decide,?_⟩;rw[mJ];exact sete _ T hT q
  ·rw[NR h20]at q;rw[N_]at h20;rw[N7 (show ¬ (20:Int)<=((st.length+1:Nat):Int)by omega)];have rtm:=A'.kn.rt m hm;obtain⟨dx,y1,y2,b3,b4,P9,Qo,ho,hL,_⟩:=e3.out (K:=K) rtm.nine.d9;nofun;exists r,dr,_,rfl,hr',dG;exists r,(C 6),dr,_,_,rfl,hr',Z.PR,Z.Qg,pG;refine⟨ka,.ref o,rfl,by rw[<-e2];exact bj.k (k:=.inl m) e1,?_⟩;nofun;exists o,(C 7),dx,_,_,rfl,ho,Z.PU,Z.P4,jM _ _ _ _;refine⟨g,a0,a1,rfl,hg,λna H1 s1 hna=>?_⟩;nofun;refine⟨r,ka,ia,sa,ks,cr,PN,s',P2,"needs",y1,na,_,eY a0 a1,f,st,rfl,A'.same s1,hst,hen,hL.same s1,ar.of hna,rfl,rtm.sm.1,λH2 o2 A2=>?_⟩;have m2:a_ (aL r ia sa PN) H (aL r ia sa PN) H2:=(a_.same s1).trans (a_.offR o2 A2);cases hb:cQ (cr m).PJ (eY a0 a1)with
   |some i=>rw[hb]at q A2;dsimp only[Option.isNone];nofun;exact q H2 _ m2 A2
   |none=>
    rw[hb]at q A2;have A2:aD (C 6) (C 5) (C 7) H2 r ka ia sa ks cr PN s' P2:=by rw[<-Rs.quiet hen];exact A2
    obtain⟨dr2,lL,hr2,_⟩:=A2.ins;dsimp only[Option.isNone];nofun;exists r,dr2,_,rfl,hr2,dG;have hg2:ar K H2 g [.int a0,.int a1]\/aH K H2 g [.int a0,.int a1]:=by refine nX (λb o e so=>?_) hg;refine o2 b o (λz=>?_) (s1 b o e);rw[bu.mp z,hr']at e;cases e;cases so
    refine⟨r,ka,ia,sa,ks,cr,PN,s',P2,g,m,a0,a1,rfl,A2,hg2,hen,⟨λk hk=>?_,λk hk=>?_⟩,by rw[hst,N_];omega,λH3 fas3 m3 A3=>?_⟩
    ·rcases NP.mp hk with rfl|hk
     ·exact⟨hm,by show(0:Int)<=0;omega,by show(0:Int)<=_;omega,rfl,rfl⟩
     ·rw[hst]at hk;exact wfs.1 k hk
    ·rw[List.tail_cons,hst]at hk;rcases NP.mp hk with rfl|hk
     ·exact hc
     ·exact wfs.2 k hk
    ·nofun;rw[hst]at A3;exact q H3 fas3 (m2.trans m3) A3
 ·rw[NU hm]at q;obtain⟨kvs,e1,e2⟩:=A'.kn.no hm;refine⟨ka,none,rfl,by rw[<-e2];exact bj.k (k:=.inl m) e1,?_⟩;dsimp only[Option.isSome];nofun;refine⟨(by right),λT hT=>?_⟩;nofun;refine⟨r,(C 6),dr,_,rfl,aB hT _ _ _ hr',Z.PR,Z.P0,by show 5<1000;decide,?_⟩;rw[mJ];exact sete _ T hT q
theorem C3(h9:l.length=9)(sm:Sm l)(h1:H la=some (.lst (l.map V.int)))(h2:H na=some (.lst (ns.map V.int)))(h3:ns.length=8)(q:∀ H',ae H H'->Q (.int (aP l ns)) H'):xt K [.ref la,.ref na] H Q E:=by
 cases l with
 |nil=>simp at h9
 |cons c fs=>
 refine⟨la,na,c,fs,ns,rfl,ar.of h1,ar.of h2,by simpa using h9,h3,tm sm,λH' s=>?_⟩;rw[<-pO];exact q H' s
theorem Ia(h9:l.length=9)(sm:Sm l)(h1:H la=some (.lst (l.map V.int)))(h2:H na=some (.lst (ns.map V.int)))(h3:ns.length=8)(q:∀ H',ae H H'->Q (.bl (decide (0<=aP l ns))) H'):xr K [.ref la,.ref na] H Q E:=by
 cases l with
 |nil=>simp at h9
 |cons c fs=>
 refine⟨la,na,c,fs,ns,rfl,ar.of h1,ar.of h2,by simpa using h9,h3,tm sm,λH' s=>?_⟩;rw[<-pO];exact q H' s
inductive Qd (K:Fg)(C:Nat->Addr)(vs:QV)(H:Hp)(Q:VK)(E:XK):Prop
 |mk (r ka ia sa:Addr) (ks:QS) (cr:Int->Cr) (PN:List Fa) (s:Rs) (P2:QW):vs=[.ref r]->aD (C 6) (C 5) (C 7) H r ka ia sa ks cr PN s P2->iS ks cr s->s.en=none->s.st.length<=20->(∀ H' fas',a_ (aL r ia sa PN) H (aL r ia sa fas') H'->aD (C 6) (C 5) (C 7) H' r ka ia sa ks cr fas' (gX cr ks s) P2->Q .non H')->Qd K C vs H Q E
include B Z Q0 Q1f Q1 Qa Q16 Qf in
theorem Lh (G_Run_draw:bK bL P w K mg b8 (C 6) "draw" ["self","hand","low","high"] 8 (Bc K C))(G_Run_hold:bK bL P w K mg b8 (C 6) "hold" ["self","line"] 7 (Bb K C))(G_Run_call:bK bL P w K mg b8 (C 6) "call" ["self","number","given"] 8 (Ba K C))(F:aS K "step" "Run.step" xF f fd)(M:br K (C 6) "step" f):bK bL P w K mg b8 (C 6) "step" ["self"] 9 (Qd K C):=by
 refine eP F M pN λ_ _ _ _ H vs Q E hr h=>?_;obtain⟨r,ka,ia,sa,ks,cr,PN,s',P2,rfl,A',hW,hen,l20,q⟩:=h;refine⟨_,(az (eG (pv 0) (jp K (jf K 0) aj) rfl)
   (az (js 1 pN.nd (jx K (jf K 0) (dP dX aj)))
   (az (js 2 pN.nd (jx K (kP K (cS Q1f Z.PR hr cf (pv 0) (jn 1 ag)) rfl) (jf K 1)))
   (az (js 3 pN.nd (jx K (pv 2) aj))
   (ay (bq (jt K hr (pv 3) bY) (ay (dC (cS Qf Z.PR hr cf (pv 0) (bn (jx K (pv 2) aj) (bH (jl Q0 hr (bn (jx K (pv 2) aj) (bH (iO Qa Z.PV hr cf (pv 1)) ag))) ag))))) (ay (bq (jt K hr (pv 3) bY) (ay (dC (cS Qf Z.PR hr cf (pv 0) (bn (jx K (pv 2) aj) (bN (aO cW (jl Q0 hr (bn (jx K (pv 2) aj) (bH (iO Qa Z.PV hr cf (pv 1)) ag))) (jx K (pv 2) aj)) ag))))) (ay (bq (jt K hr (pv 3) bY) (ay (dC (cS G_Run_draw Z.PR hr cf (pv 0) (bn (jx K (pv 2) aj) (bn (jx K (pv 2) aj) (bn (jx K (pv 2) aj) ag)))))) (ay (bq (jt K hr (pv 3) bY) (ay (dC (cS Q16 Z.PR hr cf (pv 0) (qz (w_ (fg (jl Q1 hr (bn (jx K (pv 2) aj) (bH (iO Qa Z.PV hr cf (pv 1)) ag)))) (jx K (pv 2) aj) (jp K (jf K 1) aj)) ag)))) (ay (bq (jt K hr (pv 3) bY) (ay (dC (cS G_Run_hold Z.PR hr cf (pv 0) (bn (jx K (pv 2) aj) ag)))) (az (js 4 pN.nd (jx K (pv 2) aj))
   (ay (dC (cS G_Run_call Z.PR hr cf (pv 0) (bn (jx K (pv 2) aj) (dJ (bv (bn (jx K (jf K 1) (jx K (pv 4) aj)) (bn (jx K (jf K 1) (jx K (pv 4) aj)) ag))) ag)))))))))))))))))))),?_⟩
 obtain⟨f,st,hst,hp⟩:=hW.on hen;have wfs:=hW.w;rw[hst]at wfs l20;rw[N_]at l20;have wf:=wfs.1 f NW;have rt:=A'.kn.rt f.n wf.m;obtain⟨dr,ev,hr',hev⟩:=A'.ins;have fr:=A'.fr;rw[hst]at fr;cases PN with
 |nil=>exact fr.elim
 |cons t PN=>
 obtain⟨p,ha,aa⟩:=t;obtain⟨⟨dp,f1⟩,f2,f3,f4⟩:=fr;have hp0:=wf.p0;have hlt:f.p.toNat<(cr f.n).PD.length:=by omega
 have hd:hZ (cr f.n) f.p=some (cr f.n).PD[f.p.toNat]:=NQ hlt;have hok:=rt.parts.2.2.2.2.2 _ (Om hlt);have h9:=rt.nine.d9 _ (Om hlt);rw[C5 hst hd]at q;nofun;left;nofun;exists r,(C 6),dr,_,_,rfl,hr',Z.PR,Z.Qi,Jy;refine⟨r,(C 6),dr,_,rfl,hr',Z.PR,Z.Qi,by show 5<1000;decide,?_⟩;rw[Jx];have A1:=A'.setR (k':=s'.k+1) (en':=s'.en) hr' hev;have m1:a_ (aL r ia sa ((p,ha,aa)::PN)) H (aL r ia sa ((p,ha,aa)::PN)) (upd H r (.ins (C 6) dr (bO ka ia sa (s'.k+1) ev))):=a_.upd nJ;generalize upd H r (.ins (C 6) dr (bO ka ia sa (s'.k+1) ev))=H1 at*;have hst1:({s' with k:=s'.k+1,en:=s'.en}:Rs).st=f::st:=hst;have hen1:({s' with k:=s'.k+1,en:=s'.en}:Rs).en=none:=hen;have q:=λH' fas' m A=>q H' fas' (m1.trans m) A;generalize ({s' with k:=s'.k+1,en:=s'.en}:Rs)=s1 at*;clear f1 f2 f3 f4 hr' hev;obtain⟨dr,ev,hr',hev⟩:=A1.ins;have fr:=A1.fr;rw[hst1]at fr;obtain⟨⟨dp,f1⟩,f2,f3,f4⟩:=fr;nofun;left;nofun;exists r,(C 6),dr,_,_,rfl,hr',Z.PR,Z.P1,io;refine bW (ar.of A1.sta) (v:=.ref p) j5 ?_;nofun;left;nofun;exists r,dr,_,rfl,hr',dG;refine⟨r,ka,ia,sa,ks,cr,(p,ha,aa)::PN,s1,P2,p,dp,ha,aa,f,rfl,A1,f1,wf.m,λo gg hC=>?_⟩;obtain⟨dx,y1,y2,b3,b4,P9,Qo,ho,_,_,h3,hD,_⟩:=hC.out (K:=K) rt.nine.d9;have ld:=hD.1;have hx:=NQ (l:=P9) (i:=f.p.toNat) (by omega);have hdr:=hD.2 _ _ _ hd hx;have hat:=hd;generalize (cr f.n).PD[f.p.toNat]=d at*;generalize P9[f.p.toNat]=x at*;nofun;exists o,(C 7),dx,_,_,rfl,ho,Z.PU,Z.PZ,ip _ _ _ _;exists p,(C 5),dp,_,_,rfl,f1,Z.PV,Z.PX,kh _ _ _ _;refine bW (ar.of h3) (v:=x) (o5 hp0 hx) ?_;cases d with
 |set hh l=>refine fz λG kG=>?_;obtain⟨T,ys,rfl,hT,px⟩:=gJ hdr;obtain⟨x0,ys,rfl,e0,px⟩:=b9 px;obtain⟨x1,ys,rfl,e1,px⟩:=b9 px;obtain⟨x2,ys,rfl,e2,px⟩:=b9 px;cases i4 px;cases ij e0;cases fU e1;obtain⟨la,rfl,P8⟩:=lI e2;refine kG ?_;simp only[b_,ci,cD,NS,NY]at hok;nofun;left;nofun;refine aZ (aH.of hT) (v:=.str "set") dU ?_;nofun;rw[N0 rfl];nofun;exists r,dr,_,rfl,hr',dG;refine aZ (aH.of hT) (v:=.int hh) (bJ (j:=1) rfl) ?_;nofun;refine aZ (aH.of hT) (v:=.ref la) (bJ (j:=2) rfl) ?_;nofun;exists p,dp,_,rfl,f1,nH;refine⟨p,dp,ha,aa,f,rfl,f1,f2,f3,wf.h4,wf.a2,λna H2 s2 hna=>?_⟩;nofun;refine C3 (H:=H2) h9 (kQ hok.2) (s2 _ _ P8) hna (oq wf) λH3 s3=>?_;have s23:=s2.trans s3;nofun;refine⟨r,ka,ia,sa,ks,cr,(p,ha,aa)::PN,s1,P2,f,st,hh,_,rfl,A1.same s23,hst1,hen1,hok.1,wfs,hp,λH4 fas4 m4 A4=>?_⟩;nofun;exact q H4 fas4 ((a_.same s23).trans m4) A4
 |part hh l b=>refine fz λG kG=>?_;obtain⟨T,ys,rfl,hT,px⟩:=gJ hdr;obtain⟨x0,ys,rfl,e0,px⟩:=b9 px;obtain⟨x1,ys,rfl,e1,px⟩:=b9 px;obtain⟨x2,ys,rfl,e2,px⟩:=b9 px;obtain⟨x3,ys,rfl,e3,px⟩:=b9 px;cases i4 px;cases ij e0;cases fU e1;cases fU e3;obtain⟨la,rfl,P8⟩:=lI e2;simp only[b_,ci,cD,NS,NY]at hok;obtain⟨hok1,hok2,hok3⟩:=hok;refine kG ?_;nofun;left;nofun;refine aZ (aH.of hT) (v:=.str "part") dU ?_;nofun;rw[Hw];nofun;rw[N0 rfl];nofun;exists r,dr,_,rfl,hr',dG;refine aZ (aH.of hT) (v:=.int hh) (bJ (j:=1) rfl) ?_;nofun;refine aZ (aH.of hT) (v:=.ref la) (bJ (j:=2) rfl) ?_;nofun;exists p,dp,_,rfl,f1,nH;refine⟨p,dp,ha,aa,f,rfl,f1,f2,f3,wf.h4,wf.a2,λna H2 s2 hna=>?_⟩;nofun;refine C3 (H:=H2) h9 (kQ hok2) (s2 _ _ P8) hna (oq wf) λH3 s3=>?_;have s23:=s2.trans s3;nofun;refine aZ (aH.of (s23 _ _ hT)) (v:=.int b) (bJ (j:=3) rfl) ?_;nofun;refine⟨r,ka,ia,sa,ks,cr,(p,ha,aa)::PN,s1,P2,f,st,hh,_,rfl,A1.same s23,hst1,hen1,hok1,wfs,hp,λH4 fas4 m4 A4=>?_⟩;nofun;exact q H4 fas4 ((a_.same s23).trans m4) A4
 |draw hh lo hi=>refine fz λG kG=>?_;obtain⟨T,ys,rfl,hT,px⟩:=gJ hdr;obtain⟨x0,ys,rfl,e0,px⟩:=b9 px;obtain⟨x1,ys,rfl,e1,px⟩:=b9 px;obtain⟨x2,ys,rfl,e2,px⟩:=b9 px;obtain⟨x3,ys,rfl,e3,px⟩:=b9 px;cases i4 px;cases ij e0;cases fU e1;cases fU e2;cases fU e3;refine kG ?_;simp only[b_,ci,cD,NS,NY]at hok;nofun;left;nofun;refine aZ (aH.of hT) (v:=.str "draw") dU ?_;nofun;rw[CA.1];nofun;rw[CA.2];nofun;rw[N0 rfl];nofun;exists r,dr,_,rfl,hr',dG;refine aZ (aH.of hT) (v:=.int hh) (bJ (j:=1) rfl) ?_;nofun;refine aZ (aH.of hT) (v:=.int lo) (bJ (j:=2) rfl) ?_;nofun;refine aZ (aH.of hT) (v:=.int hi) (bJ (j:=3) rfl) ?_;nofun;refine⟨r,ka,ia,sa,ks,cr,(p,ha,aa)::PN,s1,P2,f,st,hh,lo,hi,rfl,A1,hst1,hen1,hok.1,wfs,hp,λH4 fas4 m4 A4=>?_⟩;nofun;exact q H4 fas4 m4 A4
 |turn l j=>
  refine fz λG kG=>?_;obtain⟨T,ys,rfl,hT,px⟩:=gJ hdr;obtain⟨x0,ys,rfl,e0,px⟩:=b9 px;obtain⟨x1,ys,rfl,e1,px⟩:=b9 px;obtain⟨x2,ys,rfl,e2,px⟩:=b9 px;cases i4 px;cases ij e0;cases fU e2;obtain⟨la,rfl,P8⟩:=lI e1;refine kG ?_;simp only[b_,cD,NS,NY]at hok;nofun;left;nofun;refine aZ (aH.of hT) (v:=.str "turn") dU ?_;nofun;rw[vU.1];nofun;rw[vU.2.1];nofun;rw[vU.2.2];nofun;rw[N0 rfl];nofun;exists r,dr,_,rfl,hr',dG;refine aZ (aH.of hT) (v:=.ref la) (bJ (j:=1) rfl) ?_;nofun;exists p,dp,_,rfl,f1,nH;refine⟨p,dp,ha,aa,f,rfl,f1,f2,f3,wf.h4,wf.a2,λna H2 s2 hna=>?_⟩;nofun;refine Ia (H:=H2) h9 (kQ hok.1) (s2 _ _ P8) hna (oq wf) λH3 s3=>?_;have s23:=s2.trans s3;have wj:∀ k,0<=k->k<=((cr f.n).PD.length:Int)->Wf ks cr ({f with p:=k}::st):=λk z1 z2=>wfs.top ⟨wf.m,z1,z2,wf.h4,wf.a2⟩;unfold dA at q;by_cases hb:0<=aP l (cP f)
  ·rw[N0 hb];simp only[NU hb]at q;nofun;refine aZ (aH.of (s23 _ _ hT)) (v:=.int j) (bJ (j:=2) rfl) ?_;nofun;refine⟨r,ka,ia,sa,ks,cr,(p,ha,aa)::PN,s1,P2,f,st,j,rfl,A1.same s23,hst1,hen1,wj j hok.2.1 hok.2.2,λH4 fas4 m4 A4=>?_⟩;nofun;exact q H4 fas4 ((a_.same s23).trans m4) A4
  ·rw[N7 hb];simp only[NR hb]at q;nofun;exists p,(C 5),dp,_,_,rfl,s23 _ _ f1,Z.PV,Z.PX,kh _ _ _ _;refine⟨r,ka,ia,sa,ks,cr,(p,ha,aa)::PN,s1,P2,f,st,f.p+1,rfl,A1.same s23,hst1,hen1,wj (f.p+1) (by omega) (by omega),λH4 fas4 m4 A4=>?_⟩;nofun;exact q H4 fas4 ((a_.same s23).trans m4) A4
 |hold l=>refine fz λG kG=>?_;obtain⟨T,ys,rfl,hT,px⟩:=gJ hdr;obtain⟨x0,ys,rfl,e0,px⟩:=b9 px;obtain⟨x1,ys,rfl,e1,px⟩:=b9 px;cases i4 px;cases ij e0;obtain⟨la,rfl,P8⟩:=lI e1;refine kG ?_;simp only[b_]at hok;nofun;left;nofun;refine aZ (aH.of hT) (v:=.str "hold") dU ?_;nofun;rw[tJ.1];nofun;rw[tJ.2.1];nofun;rw[tJ.2.2.1];nofun;rw[tJ.2.2.2];nofun;rw[N0 rfl];nofun;exists r,dr,_,rfl,hr',dG;refine aZ (aH.of hT) (v:=.ref la) (bJ (j:=1) rfl) ?_;nofun;refine⟨r,ka,ia,sa,ks,cr,(p,ha,aa)::PN,s1,P2,f,st,la,l,rfl,A1,hst1,hen1,P8,h9,kQ hok,wfs,hp,λH4 fas4 m4 A4=>?_⟩;nofun;exact q H4 fas4 m4 A4
 |call m g0 g1 t0 t1=>refine fz λG kG=>?_;obtain⟨T,ys,rfl,hT,px⟩:=gJ hdr;obtain⟨x0,ys,rfl,e0,px⟩:=b9 px;obtain⟨x1,ys,rfl,e1,px⟩:=b9 px;obtain⟨x2,ys,rfl,e2,px⟩:=b9 px;obtain⟨x3,ys,rfl,e3,px⟩:=b9 px;cases ij e0;cases fU e1;obtain⟨gv,rfl,hgv⟩:=uz e2;obtain⟨b0,b1,_⟩:=ur hok;refine kG ?_;have e4:=wf.h4;rw[Le]at q;nofun;left;nofun;refine aZ (aH.of hT) (v:=.str "call") dU ?_;nofun;rw[o_.1];nofun;rw[o_.2.1];nofun;rw[o_.2.2.1];nofun;rw[o_.2.2.2.1];nofun;rw[o_.2.2.2.2];nofun;left;nofun;refine aZ (aH.of hT) (v:=.ref gv) (bJ (j:=2) rfl) ?_;nofun;exists r,dr,_,rfl,hr',dG;refine aZ (aH.of hT) (v:=.int m) (bJ (j:=1) rfl) ?_;nofun;exists p,(C 5),dp,_,_,rfl,f1,Z.PV,Z.PY,iY _ _ _ _;refine aZ (aH.of hgv) (v:=.int g0) dU ?_;nofun;refine bW (ar.of f2) (nY b0.1 (by omega)) ?_;nofun;exists p,(C 5),dp,_,_,rfl,f1,Z.PV,Z.PY,iY _ _ _ _;refine aZ (aH.of hgv) (v:=.int g1) (bJ (j:=1) rfl) ?_;nofun;refine bW (ar.of f2) (nY b1.1 (by omega)) ?_;nofun;refine⟨(by right),λg hg=>?_⟩;have t2:=aB hg (.lst [V.int (f.PL.getD g0.toNat 0),.int (f.PL.getD g1.toNat 0)]);nofun;refine⟨r,ka,ia,sa,ks,cr,(p,ha,aa)::PN,s1,P2,f,st,g,m,_,_,rfl,A1.same t2,hst1,hen1,.inl (ar.of aw),wfs,⟨m,g0,g1,t0,t1,hat⟩,by omega,λH4 fas4 m4 A4=>?_⟩;nofun;exact q H4 fas4 ((a_.same t2).trans m4) A4
inductive Qc (K:Fg)(C:Nat->Addr)(vs:QV)(H:Hp)(Q:VK)(E:XK):Prop
 |mk (r ka ia sa:Addr) (ks:QS) (cr:Int->Cr) (PN:List Fa) (s:Rs) (P2:QW) (fuel:Int):vs=[.ref r,.int fuel]->aD (C 6) (C 5) (C 7) H r ka ia sa ks cr PN s P2->iS ks cr s->s.st.length<=20->(∀ v H' fas',a_ (aL r ia sa PN) H (aL r ia sa fas') H'->aD (C 6) (C 5) (C 7) H' r ka ia sa ks cr fas' (eF cr ks fuel.toNat s) P2->FW H' (eF cr ks fuel.toNat s).en v->iS ks cr (eF cr ks fuel.toNat s)->(eF cr ks fuel.toNat s).st.length<=20->Q v H')->Qc K C vs H Q E
include B Z in
theorem JO (G_Run_step:bK bL P w K mg b8 (C 6) "step" ["self"] 9 (Qd K C))(F:aS K "go" "Run.go" wN f fd)(M:br K (C 6) "go" f):bK bL P w K mg b8 (C 6) "go" ["self","fuel"] 10 (Qc K C):=by
 refine eP F M DI λ_ _ _ _ H vs Q E hr h=>?_;obtain⟨r,ka,ia,sa,ks,cr,PN,s',P2,fuel,rfl,A',hW,l20,q⟩:=h;refine⟨_,(az (uf PassesOwn.never (PW.pt (vM (jc vv (pv 1) aj) (ww (jc md (jf K 0) gH)))) (az (dC (iO G_Run_step Z.PR hr cf (pv 0)))
   (ay (js 1 DI.nd (aO mh (pv 1) aj)))))
   (az (bq (jc md (jf K 0) gH) (ay (aJ (cx (dj bY ag)))) bE)
   (ay (aJ (jf K 0))))),?_⟩
 with_reducible refine jD (λσ H2=>∃ fu fas2,A5 (σ=[some (.ref r),some (.int fu)]) (iS ks cr (eF cr ks fuel.toNat s')) ((eF cr ks fuel.toNat s').st.length<=20) (a_ (aL r ia sa PN) H (aL r ia sa fas2) H2) (aD (C 6) (C 5) (C 7) H2 r ka ia sa ks cr fas2 (eF cr ks fuel.toNat s') P2)) (λNX tail=>?_) ?_
 ·nomatch (λm σ H2=>E3 λfu fas2 s2=>A7 (σ=[some (.ref r),some (.int fu)]) (m=fu.toNat) (eF cr ks fu.toNat s2=eF cr ks fuel.toNat s') (iS ks cr s2) (s2.st.length<=20) (a_ (aL r ia sa PN) H (aL r ia sa fas2) H2) (aD (C 6) (C 5) (C 7) H2 r ka ia sa ks cr fas2 s2 P2)),⟨_,fuel,PN,s',rfl,rfl,rfl,hW,l20,a_.refl,A'⟩;rintro m σ H2 ⟨fu,fas2,s2,rfl,rfl,eg,w2,l2,m2,A2⟩;obtain⟨dr2,lL,hr2,en2⟩:=A2.ins;have en2:=en2.none_iff;nofun;by_cases hf:0<fu
  ·rw[N0 hf];nofun;exists r,(C 6),dr2,_,_,rfl,hr2,Z.PR,Z.P0,pM;nomatch rfl;rw[en2];nofun;have e1:fu.toNat=(fu - 1).toNat+1:=by omega
   cases he:s2.en with
   |some x=>dsimp only[Option.isNone];nofun;rw[HD (by rw[he];intro z;cases z)]at eg;subst eg;exact tail _ _ ⟨fu,fas2,rfl,w2,l2,m2,A2⟩
   |none=>
    dsimp only[Option.isNone];nofun;exists (λσ H3=>∃ fas3 s3,A6 (σ=[some (.ref r),some (.int (fu - 1))]) (eF cr ks (fu - 1).toNat s3=eF cr ks fuel.toNat s') (iS ks cr s3) (s3.st.length<=20) (a_ (aL r ia sa PN) H (aL r ia sa fas3) H3) (aD (C 6) (C 5) (C 7) H3 r ka ia sa ks cr fas3 s3 P2)),λσ' H' ⟨fas3,s3,z1,z2,z3,z4,z5,z6⟩=>⟨(fu - 1).toNat,by omega,fu - 1,fas3,s3,z1,rfl,z2,z3,z4,z5,z6⟩;left;nofun;exists r,dr2,_,rfl,hr2,dG;refine⟨r,ka,ia,sa,ks,cr,fas2,s2,P2,rfl,A2,w2,he,l2,λH3 fas3 m3 A3=>?_⟩;nofun;rw[e1]at eg;have e2:eF cr ks ((fu - 1).toNat+1) s2=eF cr ks (fu - 1).toNat (gX cr ks s2):=by show(if s2.en=none then _ else _)=_;rw[NU he]
    rw[e2]at eg;exact⟨fas3,_,rfl,eg,JA A2.kn.rt w2 he,JT l2,m2.trans m3,A3⟩
  ·rw[N7 hf];nofun;have e0:fu.toNat=0:=by omega
   rw[e0]at eg;have eg:s2=eF cr ks fuel.toNat s':=eg;subst eg;exact tail _ _ ⟨fu,fas2,rfl,w2,l2,m2,A2⟩
 ·rintro σ H2 ⟨fu,fas2,rfl,w2,l2,m2,A2⟩;obtain⟨dr2,lL,hr2,en2⟩:=A2.ins;have en2':=en2.none_iff;have q:=λv H' m A t=>q v H' fas2 m A t w2 l2;generalize eF cr ks fuel.toNat s'=s2 at*;nofun;left;nofun;exists r,(C 6),dr2,_,_,rfl,hr2,Z.PR,Z.P0,pM;nomatch rfl;rw[en2'];nofun;cases he:s2.en with
  |some x=>dsimp only[Option.isNone];rw[he]at en2 q;obtain⟨T,rfl,hT⟩:=en2;nofun;nomatch r,(C 6),dr2,_,_,rfl,hr2,Z.PR,Z.P0,pM;exact q _ H2 m2 A2 ⟨T,rfl,hT⟩
  |none=>dsimp only[Option.isNone];rw[he]at q;nofun;refine⟨(by right),λT hT=>?_⟩;have t3:=aB hT (.tup [V.str "cut"]);exact q _ _ (m2.trans (a_.same t3)) (A2.same t3) ⟨T,rfl,aw⟩
def hJ (PD:List Dd)(i:Nat):Bool:=match PD[i]? with
 |some d=>(ic d).isSome|none=>false
noncomputable def kX (PD:List Dd) (i:Nat):D:=match PD[i]? with
 |some d=>.int ((ic d).getD 0)|none=>.int 0
theorem Ef:∀(PD:List Dd),((List.range PD.length).filter (hJ PD)).map (kX PD)=(dB PD).map D.int
 |[]=>rfl
 |d::ds=>by
  have ih:=Ef ds;have f:(List.map Nat.succ (List.range ds.length)).filter (hJ (d::ds))=((List.range ds.length).filter (hJ ds)).map Nat.succ:=by rw[List.filter_map];rfl
  have g:(((List.range ds.length).filter (hJ ds)).map Nat.succ).map (kX (d::ds))=(dB ds).map D.int:=by rw[Ox,<-ih];rfl
  rw[N_,List.range_succ_eq_map,OQ,f];unfold dB at g ⊢;cases e:ic d with
  |none=>rw[show hJ (d::ds) 0=false by unfold hJ;simp[e],NR (by decide),OP,e];exact g
  |some m=>rw[show hJ (d::ds) 0=true by unfold hJ;simp[e],NU rfl,OP,e,bw,bw,g,show kX (d::ds) 0=.int m by unfold kX;simp[e]]
theorem JN (PD:List Dd)(n:Nat)(h:n=PD.length):((List.range n).filter (hJ PD)).map (kX PD)=(dB PD).map D.int:=by subst h;exact Ef PD
inductive AO (K:Fg)(C:Nat->Addr)(vs:QV)(H:Hp)(Q:VK)(E:XK):Prop
 |mk (p:Addr) (dx b3:Addr) (w1 w2 w4:V) (P9:QV) (PD:List Dd):vs=[.ref p]->H p=some (.ins (C 7) dx (de w1 w2 (.ref b3) w4))->H b3=some (.lst P9)->lj H PD P9->PD.length<=1000->(∀ v H',ae H H'->ao H H' (nums (dB PD)) v->Q v H')->AO K C vs H Q E
include B Z in
theorem LF (F:aS K "called_by" "called_by" uC f fd)(m:mg "called_by"=some (.ref f)):Fn P w K mg b8 "called_by" ["craft"] 1 (AO K C):=by
 refine bR F LM m λ_ _ _ _ H vs Q E hr h=>?_;obtain⟨p,dx,b3,w1,w2,w4,P9,PD,rfl,hp,hb3,hD,hl,q⟩:=h;nomatch _,(ay (aJ (C0 rfl (bG.m (sc0:=aK uC) (N:=["craft"]) (N':=["craft","deed"]) (ms:=[false,true])) (db K (jf K 0)) (λ_ _ _ _ _=>(CL (i:=1) (NB (N:=["craft","deed"])) rfl (Or.inl rfl))) (λ_ _ _ _ _=>(IH (jt K hr (jx K (pv 1) aj) bY))) (λ_ _ _ _ _=>(jx K (pv 1) aj)))));have ld:=hD.1;ac_rfl;nomatch p,(C 7),dx,_,_,rfl,hp,Z.PU,Z.PZ,ip _ _ _ _;nomatch b3,rfl,⟨_,ar.of hb3⟩;refine KC (dY (ar.of hb3)) (hJ PD) (kX PD) (bF (by omega)) (λi x H1 R1 R2' hi s1 hx hy hn=>?_) (λv H1 s1 n1=>?_)
 ·have hi':i<PD.length:=by omega
  have drx:=(hD.2 i PD[i] x (by simp) hx).sq s1.sq;have ek:hJ PD i=(ic PD[i]).isSome:=by unfold hJ;simp[hi']
  have en:kX PD i=.int ((ic PD[i]).getD 0):=by unfold kX;simp[hi']
  generalize PD[i]=d at drx ek en;obtain⟨t,xs,rfl,ht⟩:=Ck drx;nofun;refine aZ (aH.of ht) dU ?_;nofun;have ew:decide (eJ d="call")=hJ PD i:=by rw[ek];cases d<;>first|rfl|(unfold eJ ic;decide+kernel)
  rw[ew];cases hk:hJ PD i with
  |false=>rw[NR (by decide)];exact hn hk _ (ae.refl _)
  |true=>
   rw[NU rfl];rw[hk]at ek;cases d with
   |call m g0 g1 t0 t1=>obtain⟨t',ys,et,hT2,px⟩:=gJ drx;cases et;obtain⟨x0,r,rfl,e0,px⟩:=b9 px;obtain⟨x1,r,rfl,e1,px⟩:=b9 px;cases fU e1;nofun;refine aZ (aH.of hT2) (v:=.int m) (bJ (j:=1) rfl) ?_;refine hy hk _ _ (ae.refl _) ?_;rw[en];exact ao.int
   |_=>cases ek
 ·ac_rfl;rw[JN PD _ ld.symm]at n1;exact q _ _ s1 n1
inductive uW (K:Fg)(vs:QV)(H:Hp)(Q:VK)(E:XK):Prop
 |mk (a b c:Int):vs=[.int a,.int b,.int c]->Q (.bl (decide (a<=b)&&decide (b<=c))) H->uW K vs H Q E
theorem mI{a b:Int}(q:Q (.bl (decide (a<=b)&&decide (b<=c))) H):uW K [.int a,.int b,.int c] H Q E:=⟨a,b,c,rfl,q⟩
include B Z in
theorem Ko (F:aS K "between" "between" xp f fd)(m:mg "between"=some (.ref f)):Fn P w K mg b8 "between" ["low","number","high"] 1 (uW K):=by
 refine bR F Lc m λ_ _ _ _ H vs Q E hr h=>?_;obtain⟨a,b,c,rfl,q⟩:=h;nomatch _,(ay (aJ (IW nj nj (pv 0) (pv 1) (pv 2))));ac_rfl;cases h:decide (a<=b)with
 |false=>rw[h]at q;ac_rfl;exact q
 |true=>rw[h]at q;ac_rfl;exact q
def yU (K:Fg):Sp:=λvs H Q _=>∃ n:Int,vs=[.int n]/\Q (.bl (iJ n)) H
theorem v_(q:Q (.bl (iJ n)) H):yU K [.int n] H Q E:=⟨n,rfl,q⟩
variable (Q45:Fn P w K mg b8 "between" ["low","number","high"] 1 (uW K))
include B Z Q45 in
theorem Mq (F:aS K "small_enough" "small_enough" yK f fd)(m:mg "small_enough"=some (.ref f)):Fn P w K mg b8 "small_enough" ["number"] 2 (yU K):=by refine bR F Mv m λ_ _ _ _ H vs Q E hr h=>?_;obtain⟨n,rfl,q⟩:=h;nomatch _,(ay (aJ (jl Q45 hr (iE (dP dX (dS rfl B.Qq)) (jn 0 (dE (dS rfl B.Qq) ag))))));ac_rfl;refine mI ?_;exact q
inductive AI (K:Fg)(vs:QV)(H:Hp)(Q:VK)(E:XK):Prop
 |mk (a t:Addr) (l:QS) (spots:List Nat):vs=[.ref a,.ref t]->ar K H a (l.map V.int)->aH K H t (spots.map λ(s:Nat)=>V.int (s:Int))->l.length=9->spots.length<=9->(∀ s∈spots,s<9)->(∀ H',ae H H'->Q (.bl (eB spots l)) H')->AI K vs H Q E
variable (Q43:Fn P w K mg b8 "small_enough" ["number"] 2 (yU K))
include B Z Q43 in
theorem Me (F:aS K "line_right" "line_right" yv f fd)(m:mg "line_right"=some (.ref f)):Fn P w K mg b8 "line_right" ["line","nought_spots"] 3 (AI K):=by
 refine bR F uK m λ_ _ _ _ H vs Q E hr h=>?_;obtain⟨a,t,l,spots,rfl,hA,hT,l9,ls9,hs,q⟩:=h;refine⟨_,(az (js 2 uK.nd (cq (ju K rfl) rfl B.all L2.jO (ie (jC (bG.f uK ["line","nought_spots","small","number"] [false,false,false,true]) (db K (pv 0)) (λn=>(jg 3 n)) (jl Q43 hr (jn 3 ag))) ag)))
   (ay (aJ (eU (pv 2) (fJ (cq (ju K rfl) rfl B.all L2.jO (ie (jC (bG.f uK ["line","nought_spots","small","spot"] [false,false,false,true]) (oQ K (pv 1)) (λn=>(jg 3 n)) (jE K hr (jx K (pv 0) (pv 3)) aj)) ag))))))),?_⟩
 unfold eB at q;ac_rfl;nomatch a,rfl,⟨_,hA⟩;refine cX (dY hA) ((l.map iJ).map D.bl) (by simp) (bF (by simp;omega)) (λk x d H1 R hk hd s1 hx hR=>?_) (λv H1 s1 n1=>?_)
 ·rw[aR]at hx;obtain⟨y,hy,rfl⟩:=ce.mp hx;rw[aR,aR,hy]at hd;cases hd;ac_rfl;refine v_ ?_;exact hR _ _ (ae.refl _) ao.bl
 obtain⟨la,rfl,la0,la1⟩:=ao.bls n1;ac_rfl;refine jw (ar.of la1) ?_;ac_rfl;refine fO (λe=>?_) (λe=>by have q1:=q _ s1;rw[e]at q1;exact q1);rw[e,Oi]at q;ac_rfl;nomatch t,rfl,⟨_,s1.tup hT⟩;refine cX (pE (s1.tup hT)) ((spots.map λs=>decide (l.getD s 0=0)).map D.bl) (by simp) (bF (by simp;omega)) (λk x d H2 R hk hd s2 hx hR=>?_) (λv H2 s2 n2=>?_)
 ·rw[aR]at hx;obtain⟨sp,hsp,rfl⟩:=ce.mp hx;rw[aR,aR,hsp]at hd;cases hd;have sl:sp<l.length:=by have:=hs sp (bT hsp);omega
  ac_rfl;refine bW ((s1.trans s2).seq hA) (v:=.int (l.getD sp 0)) (bJ (by simp[sl])) ?_;ac_rfl;exact hR _ _ (ae.refl _) ao.bl
 obtain⟨lb,rfl,lb0,lb1⟩:=ao.bls n2;ac_rfl;refine jw (ar.of lb1) ?_;exact q _ (s1.trans s2)
inductive AJ (K:Fg)(vs:QV)(H:Hp)(Q:VK)(E:XK):Prop
 |mk (a t:Addr) (ls:QT) (spots:List Nat):vs=[.ref a,.ref t]->aq K H (bx ls) (.ref a)->aH K H t (spots.map λ(s:Nat)=>V.int (s:Int))->ls.length<=1000->(∀ l∈ls,l.length=9)->spots.length<=9->(∀ s∈spots,s<9)->(∀ H',ae H H'->Q (.bl (iN spots ls)) H')->AJ K vs H Q E
variable (Q39:Fn P w K mg b8 "line_right" ["line","nought_spots"] 3 (AI K))
include B Z Q39 in
theorem ME (F:aS K "lines_right" "lines_right" yj f fd)(m:mg "lines_right"=some (.ref f)):Fn P w K mg b8 "lines_right" ["lines","nought_spots"] 4 (AJ K):=by
 refine bR F ET m λ_ _ _ _ H vs Q E hr h=>?_;obtain⟨a,t,ls,spots,rfl,hA,hT,l1000,h9,ls9,hs,q⟩:=h;nomatch _,(ay (aJ (eU (jv nj (cq (eQ K) rfl B.len L2.boot_len (jn 0 ag)) (dS rfl B.QB)) (fJ (cq (ju K rfl) rfl B.all L2.jO (ie (jC (bG.f ET ["lines","nought_spots","line"] [false,false,true]) (db K (pv 0)) (λn=>(jg 2 n)) (jl Q39 hr (jn 2 (jn 1 ag)))) ag))))));unfold bx aq at hA;obtain⟨a',xs,e,hA,hx⟩:=hA;cases e;have lx:=hx.length;rw[aV]at lx;unfold iN at q;ac_rfl;refine eW (.inl hA) ?_;ac_rfl;rw[<-lx];refine fO (λe=>?_) (λe=>by have q1:=q _ (ae.refl _);rw[e]at q1;exact q1);rw[e,Oi]at q;ac_rfl;nomatch a,rfl,⟨_,hA⟩;refine cX (dY hA) ((ls.map (eB spots)).map D.bl) (by simp;omega) (bF (by omega)) (λk x d H1 R hk hd s1 hx' hR=>?_) (λv H1 s1 n1=>?_)
 ·obtain⟨d2,hd2,hrx⟩:=av.get' hx hx';rw[aR]at hd2;obtain⟨l,hl,rfl⟩:=ce.mp hd2;rw[aR,aR,hl]at hd;cases hd;obtain⟨xa,rfl,hxa⟩:=gz.mp (aq.same s1 _ hrx);ac_rfl;refine⟨xa,t,l,spots,rfl,hxa,s1.tup hT,h9 l (bT hl),ls9,hs,λH2 s2=>?_⟩;exact hR _ _ s2 ao.bl
 obtain⟨la,rfl,la0,la1⟩:=ao.bls n1;ac_rfl;refine jw (ar.of la1) ?_;exact q _ s1
inductive AM (K:Fg)(C:Nat->Addr)(vs:QV)(H:Hp)(Q:VK)(E:XK):Prop
 |mk (p:Addr) (PJ PB:QT) (ds:List D) (PF:QU):vs=[.ref p]->fh K (C 7) H p PJ PB ds PF->PJ.length<=1000->PB.length<=1000->(∀ l∈PJ,l.length=9)->(∀ l∈PB,l.length=9)->(∀ H',ae H H'->Q (.bl (j3 PJ PB)) H')->AM K C vs H Q E
variable (Q37:Fn P w K mg b8 "lines_right" ["lines","nought_spots"] 4 (AJ K))
include B Z Q37 in
theorem Md (F:aS K "oath_right" "oath_right" yw f fd)(m:mg "oath_right"=some (.ref f)):Fn P w K mg b8 "oath_right" ["craft"] 5 (AM K C):=by
 refine bR F EJ m λ_ _ _ _ H vs Q E hr h=>?_;obtain⟨p,PJ,PB,ds,PF,rfl,hC,ln,ll,h9n,h9l,q⟩:=h;obtain⟨gl,g_LEFT_SPOTS,hL⟩:=B.Qm;obtain⟨gh,g_HAND_SPOTS,hH⟩:=B.Qz;have sp9:∀ s∈([1,2,3,4,7,8]:List Nat),s<9:=by decide
 have sp4:∀ s∈([1,2,3,4]:List Nat),s<9:=by decide
 refine⟨_,(az (js 1 EJ.nd (jl Q37 hr (dR (jf K 0) (bN (jp K (jK rfl g_HAND_SPOTS) (jK rfl g_LEFT_SPOTS)) ag))))
   (ay (aJ (eU (pv 1) (fJ (jl Q37 hr (dR (jf K 0) (dE (jK rfl g_HAND_SPOTS) ag)))))))),?_⟩
 obtain⟨dx,w1,w2,w3,w4,hp,r1,r2,r3,r4⟩:=hC;obtain⟨b1,rfl⟩:∃ b,w1=.ref b:=by unfold bx aq at r1;obtain⟨a,_,e,_⟩:=r1;exact⟨a,e⟩
 obtain⟨b2,rfl⟩:∃ b,w2=.ref b:=by unfold bx aq at r2;obtain⟨a,_,e,_⟩:=r2;exact⟨a,e⟩
 unfold j3 at q;ac_rfl;nomatch p,(C 7),dx,_,_,rfl,hp,Z.PU,Z.P4,jM _ _ _ _;ac_rfl;refine GK (hH _) (hL _) (by simp) (by simp) ((by right)) λt t0=>?_;have s0:=aB t0 (.tup ([V.int 1,.int 2,.int 3,.int 4]++[V.int 7,.int 8]));ac_rfl;refine⟨b1,t,PJ,[1,2,3,4,7,8],rfl,aq.same s0 _ r1,.inl (.inl aw),ln,h9n,by decide,sp9,λH1 s1=>?_⟩;have s2:=s0.trans s1;ac_rfl;refine fO (λe=>?_) (λe=>by have q1:=q _ s2;rw[e]at q1;exact q1);rw[e,Oi]at q;ac_rfl;nomatch p,(C 7),dx,_,_,rfl,s2 _ _ hp,Z.PU,Z.P6,j9 _ _ _ _;ac_rfl;exact⟨b2,gh,PB,[1,2,3,4],rfl,aq.same s2 _ r2,hH _,ll,h9l,by decide,sp4,λH3 s3=>q _ (s2.trans s3)⟩
def zh (K:Fg):Sp:=λvs H Q _=>∃ n:Int,vs=[.int n]/\Q (.bl (ci n)) H
theorem tj(q:Q (.bl (ci n)) H):zh K [.int n] H Q E:=⟨n,rfl,q⟩
include B Z Q45 in
theorem Mp (F:aS K "hand_right" "hand_right" yr f fd)(m:mg "hand_right"=some (.ref f)):Fn P w K mg b8 "hand_right" ["hand"] 2 (zh K):=by refine bR F Mf m λ_ _ _ _ H vs Q E hr h=>?_;obtain⟨n,rfl,q⟩:=h;nomatch _,(ay (aJ (jl Q45 hr (jk (jn 0 (dE (dS rfl B.QD) ag))))));ac_rfl;refine mI ?_;exact q
inductive AE (K:Fg)(vs:QV)(H:Hp)(Q:VK)(E:XK):Prop
 |mk (a:Addr) (i j:Int):vs=[.ref a]->aH K H a [.int i,.int j]->(∀ H',ae H H'->Q (.bl ([ci i,ci j].all id)) H')->AE K vs H Q E
variable (Q42:Fn P w K mg b8 "hand_right" ["hand"] 2 (zh K))
include B Z Q42 in
theorem M_ (F:aS K "two_hands_right" "two_hands_right" yT f fd)(m:mg "two_hands_right"=some (.ref f)):Fn P w K mg b8 "two_hands_right" ["hands"] 3 (AE K):=by
 refine bR F E6 m λ_ _ _ _ H vs Q E hr h=>?_;obtain⟨a,i,j,rfl,hA,q⟩:=h;nomatch _,(ay (aJ (eU (jE K hr (cq (eQ K) rfl B.len L2.boot_len (jn 0 ag)) aj) (fJ (cq (ju K rfl) rfl B.all L2.jO (ie (jC (bG.f E6 ["hands","hand"] [false,true]) (oQ K (pv 0)) (λn=>(jg 1 n)) (jl Q42 hr (jn 1 ag))) ag))))));ac_rfl;refine eW (.inr hA) ?_;ac_rfl;rw[show decide ((([V.int i,.int j].length:Nat):Int)=2)=true from rfl];ac_rfl;nomatch a,rfl,⟨_,hA⟩;refine cX (pE hA) ([ci i,ci j].map D.bl) rfl ((by right)) (λk x d H1 R hk hd s1 hx hR=>?_) (λv H1 s1 n1=>?_)
 ·have hx':([i,j].map V.int)[k]?=some x:=hx;have hd':([i,j].map λz=>D.bl (ci z))[k]?=some d:=hd;rw[aR]at hx' hd';obtain⟨y,hy,rfl⟩:=ce.mp hx';rw[hy]at hd';cases hd';ac_rfl;refine tj ?_;exact hR _ _ (ae.refl _) ao.bl
 obtain⟨la,rfl,la0,la1⟩:=ao.bls n1;ac_rfl;refine jw (ar.of la1) ?_;exact q _ s1
inductive AF (K:Fg)(vs:QV)(H:Hp)(Q:VK)(E:XK):Prop
 |mk (m:Int) (a b:Addr) (g0 g1 t0 t1:Int):vs=[.int m,.ref a,.ref b]->aH K H a [.int g0,.int g1]->aH K H b [.int t0,.int t1]->(∀ H',ae H H'->Q (.bl (([ci g0,ci g1].all id&&[ci t0,ci t1].all id)&&(cD 0 m 99&&!decide (t0=t1)))) H')->AF K vs H Q E
include B Z Q45 in
theorem Mo (Q41:Fn P w K mg b8 "two_hands_right" ["hands"] 3 (AE K))(F:aS K "call_right" "call_right" yt f fd)(m:mg "call_right"=some (.ref f)):Fn P w K mg b8 "call_right" ["number","given","taken"] 4 (AF K):=by
 refine bR F EH m λ_ _ _ _ H vs Q E hr h=>?_;obtain⟨m,a,b,g0,g1,t0,t1,rfl,hA,hB,q⟩:=h;refine⟨_,(az (js 3 EH.nd (eU (jl Q41 hr (jn 1 ag)) (fJ (jl Q41 hr (jn 2 ag)))))
   (ay (aJ (eU (pv 3) (eU (jl Q45 hr (jk (jn 0 (dE (dS rfl B.Qs) ag)))) (fJ (jv (jh K hr) (jx K (pv 2) aj) (jx K (pv 2) aj)))))))),?_⟩
 generalize eg:[ci g0,ci g1].all id=bg at q;generalize et:[ci t0,ci t1].all id=bt at q;ac_rfl;refine⟨a,g0,g1,rfl,hA,λH1 s1=>?_⟩;rw[eg];refine ib (λe=>?_) (λe=>?_)
 ·subst e;ac_rfl;refine⟨b,t0,t1,rfl,s1.tup hB,λH2 s2=>?_⟩;rw[et];ac_rfl;have s3:=s1.trans s2;rw[Oi]at q;refine fO (λe=>?_) (λe=>by have q1:=q _ s3;rw[e]at q1;exact q1);rw[e,Oi]at q;ac_rfl;refine mI ?_;refine ib (λe=>?_) (λe=>by have q1:=q _ s3;unfold cD at q1;rw[e]at q1;exact q1);unfold cD at q;rw[e,Oi]at q;ac_rfl;refine aZ (s3.tup hB) (v:=.int t0) rfl ?_;ac_rfl;refine aZ (s3.tup hB) (v:=.int t1) rfl ?_;ac_rfl;exact q _ s3
 ·subst e;ac_rfl;exact q _ s1
inductive AG (K:Fg)(vs:QV)(H:Hp)(Q:VK)(E:XK):Prop
 |mk (lo hi:Int):vs=[.int lo,.int hi]->Q (.bl (iJ lo&&(iJ hi&&decide (lo<=hi)))) H->AG K vs H Q E
include B Z Q43 in
theorem MD (F:aS K "range_right" "range_right" yi f fd)(m:mg "range_right"=some (.ref f)):Fn P w K mg b8 "range_right" ["low","high"] 3 (AG K):=by refine bR F MK m λ_ _ _ _ H vs Q E hr h=>?_;obtain⟨lo,hi,rfl,q⟩:=h;nomatch _,(ay (aJ (eU (jl Q43 hr (jn 0 ag)) (eU (jl Q43 hr (jn 1 ag)) (fJ (jv nj (pv 0) (pv 1)))))));ac_rfl;refine v_ ?_;refine ib (λe=>?_) (λe=>by rw[e]at q;exact q);rw[e,Oi]at q;ac_rfl;refine v_ ?_;refine ib (λe=>?_) (λe=>by rw[e]at q;exact q);rw[e,Oi]at q;ac_rfl;exact q
inductive AH (K:Fg)(vs:QV)(H:Hp)(Q:VK)(E:XK):Prop
 |mk (v:V) (n:Int) (d:Dd):vs=[v,.int n]->aq K H (dv d) v->gc d->(∀ H',ae H H'->Q (.bl (b_ n d)) H')->AH K vs H Q E
variable {d:D}
theorem eV{ds:List D}(h:av K H (d::ds) xs):∃ v r,xs=v::r/\aq K H d v/\av K H ds r:=by unfold av at h;exact h
theorem mF(h:av K H [] xs):xs=[]:=by unfold av at h;exact h
theorem jG(h:aq K H (.int i) v):v=.int i:=by unfold aq at h;exact h
theorem nW{i:Str}(h:aq K H (.str i) v):v=.str i:=by unfold aq at h;exact h
theorem C2{j:Int}(h:aq K H (.tup [.int i,.int j]) v):∃ a,v=.ref a/\aH K H a [.int i,.int j]:=by obtain⟨a,xs,rfl,h1,h2⟩:=mB h;obtain⟨v1,r1,rfl,e1,h2⟩:=eV h2;obtain⟨v2,r2,rfl,e2,h2⟩:=eV h2;cases mF h2;cases jG e1;cases jG e2;exact⟨a,rfl,h1⟩
theorem Ht:decide (("part":Str)="set")=false:=by decide+kernel
theorem Ct:decide (("draw":Str)="set")=false/\decide (("draw":Str)="part")=false:=by decide+kernel
theorem v9:decide (("turn":Str)="set")=false/\decide (("turn":Str)="part")=false/\decide (("turn":Str)="draw")=false:=by decide+kernel
theorem tS:decide (("hold":Str)="set")=false/\decide (("hold":Str)="part")=false/\decide (("hold":Str)="draw")=false/\decide (("hold":Str)="turn")=false:=by decide+kernel
theorem ph:decide (("call":Str)="set")=false/\decide (("call":Str)="part")=false/\decide (("call":Str)="draw")=false/\decide (("call":Str)="turn")=false/\decide (("call":Str)="hold")=false:=by decide+kernel
include B Z Q45 Q39 Q42 in
theorem Mn (Q3f:Fn P w K mg b8 "call_right" ["number","given","taken"] 4 (AF K))(Q3d:Fn P w K mg b8 "range_right" ["low","high"] 3 (AG K))(F:aS K "deed_right" "deed_right" yu f fd)(m:mg "deed_right"=some (.ref f)):Fn P w K mg b8 "deed_right" ["deed","last_place"] 5 (AH K):=by
 refine bR F EI m λ_ _ _ _ H vs Q E hr h=>?_;obtain⟨v,n,d,rfl,hR,h9,q⟩:=h;obtain⟨gl,g_LEFT_SPOTS,hL⟩:=B.Qm;refine⟨_,(az (js 2 EI.nd (jx K (pv 0) aj))
   (az (bq (jt K hr (pv 2) bY) (ay (aJ (eU (jl Q42 hr (bn (jx K (pv 0) aj) ag)) (fJ (jl Q39 hr (bn (jx K (pv 0) aj) (dE (jK rfl g_LEFT_SPOTS) ag))))))) bE)
   (az (bq (jt K hr (pv 2) bY) (ay (aJ (eU (jl Q42 hr (bn (jx K (pv 0) aj) ag)) (eU (jl Q39 hr (bn (jx K (pv 0) aj) (dE (jK rfl g_LEFT_SPOTS) ag))) (fJ (jl Q45 hr (jk (bn (jx K (pv 0) aj) (dE (dS rfl B.Qt) ag))))))))) bE)
   (az (bq (jt K hr (pv 2) bY) (ay (aJ (eU (jl Q42 hr (bn (jx K (pv 0) aj) ag)) (fJ (jl Q3d hr (bn (jx K (pv 0) aj) (bn (jx K (pv 0) aj) ag))))))) bE)
   (az (bq (jt K hr (pv 2) bY) (ay (aJ (eU (jl Q39 hr (bn (jx K (pv 0) aj) (dE (jK rfl g_LEFT_SPOTS) ag))) (fJ (jl Q45 hr (jk (bn (jx K (pv 0) aj) (jn 1 ag)))))))) bE)
   (az (bq (jt K hr (pv 2) bY) (ay (aJ (jl Q39 hr (bn (jx K (pv 0) aj) (dE (jK rfl g_LEFT_SPOTS) ag))))) bE)
   (ay (aJ (jl Q3f hr (bn (jx K (pv 0) aj) (bn (jx K (pv 0) aj) (bn (jx K (pv 0) aj) ag)))))))))))),?_⟩
 have sp9:∀ s∈([7,8]:List Nat),s<9:=by decide
 cases d with
 |set hd l=>refine fz λG kG=>?_;obtain⟨a,xs,rfl,hA,hx⟩:=mB hR;obtain⟨v1,r1,rfl,e1,hx⟩:=eV hx;obtain⟨v2,r2,rfl,e2,hx⟩:=eV hx;obtain⟨v3,r3,rfl,e3,hx⟩:=eV hx;cases mF hx;cases nW e1;cases jG e2;obtain⟨la,rfl,P8⟩:=gz.mp e3;refine kG ?_;ac_rfl;refine aZ hA (v:=.str "set") rfl ?_;ac_rfl;rw[N0 rfl];ac_rfl;refine aZ hA (v:=.int hd) rfl ?_;ac_rfl;refine tj ?_;show ∃ c,V.bl (ci hd)=.bl c/\_;simp only[b_]at q;refine ib (λe=>?_) (λe=>by have q1:=q _ (ae.refl _);rw[e]at q1;exact q1);rw[e,Oi]at q;ac_rfl;refine aZ hA (v:=.ref la) rfl ?_;ac_rfl;exact⟨la,gl,l,[7,8],rfl,P8,hL _,h9,by decide,sp9,λH1 s1=>q _ s1⟩
 |part hd l b=>refine fz λG kG=>?_;obtain⟨a,xs,rfl,hA,hx⟩:=mB hR;obtain⟨v1,r1,rfl,e1,hx⟩:=eV hx;obtain⟨v2,r2,rfl,e2,hx⟩:=eV hx;obtain⟨v3,r3,rfl,e3,hx⟩:=eV hx;obtain⟨v4,r4,rfl,e4,hx⟩:=eV hx;cases mF hx;cases nW e1;cases jG e2;cases jG e4;obtain⟨la,rfl,P8⟩:=gz.mp e3;refine kG ?_;ac_rfl;refine aZ hA (v:=.str "part") rfl ?_;ac_rfl;rw[Ht];ac_rfl;rw[N0 rfl];ac_rfl;refine aZ hA (v:=.int hd) rfl ?_;ac_rfl;refine tj ?_;show ∃ c,V.bl (ci hd)=.bl c/\_;simp only[b_]at q;refine ib (λe=>?_) (λe=>by have q1:=q _ (ae.refl _);rw[e]at q1;exact q1);rw[e,Oi]at q;ac_rfl;refine aZ hA (v:=.ref la) rfl ?_;ac_rfl;refine⟨la,gl,l,[7,8],rfl,P8,hL _,h9,by decide,sp9,λH1 s1=>?_⟩;refine ib (λe=>?_) (λe=>by have q1:=q _ s1;rw[e]at q1;exact q1);rw[e,Oi]at q;ac_rfl;refine aZ (s1.tup hA) (v:=.int b) rfl ?_;ac_rfl;refine mI ?_;exact q _ s1
 |draw hd lo hi=>refine fz λG kG=>?_;obtain⟨a,xs,rfl,hA,hx⟩:=mB hR;obtain⟨v1,r1,rfl,e1,hx⟩:=eV hx;obtain⟨v2,r2,rfl,e2,hx⟩:=eV hx;obtain⟨v3,r3,rfl,e3,hx⟩:=eV hx;obtain⟨v4,r4,rfl,e4,hx⟩:=eV hx;cases mF hx;cases nW e1;cases jG e2;cases jG e3;cases jG e4;refine kG ?_;ac_rfl;refine aZ hA (v:=.str "draw") rfl ?_;ac_rfl;rw[Ct.1];ac_rfl;rw[Ct.2];ac_rfl;rw[N0 rfl];ac_rfl;refine aZ hA (v:=.int hd) rfl ?_;ac_rfl;refine tj ?_;show ∃ c,V.bl (ci hd)=.bl c/\_;simp only[b_]at q;refine ib (λe=>?_) (λe=>by have q1:=q _ (ae.refl _);rw[e]at q1;exact q1);rw[e,Oi]at q;ac_rfl;refine aZ hA (v:=.int lo) rfl ?_;ac_rfl;refine aZ hA (v:=.int hi) rfl ?_;ac_rfl;exact⟨lo,hi,rfl,q _ (ae.refl _)⟩
 |turn l p=>refine fz λG kG=>?_;obtain⟨a,xs,rfl,hA,hx⟩:=mB hR;obtain⟨v1,r1,rfl,e1,hx⟩:=eV hx;obtain⟨v2,r2,rfl,e2,hx⟩:=eV hx;obtain⟨v3,r3,rfl,e3,hx⟩:=eV hx;cases mF hx;cases nW e1;cases jG e3;obtain⟨la,rfl,P8⟩:=gz.mp e2;refine kG ?_;ac_rfl;refine aZ hA (v:=.str "turn") rfl ?_;ac_rfl;rw[v9.1];ac_rfl;rw[v9.2.1];ac_rfl;rw[v9.2.2];ac_rfl;rw[N0 rfl];ac_rfl;refine aZ hA (v:=.ref la) rfl ?_;ac_rfl;simp only[b_]at q;refine⟨la,gl,l,[7,8],rfl,P8,hL _,h9,by decide,sp9,λH1 s1=>?_⟩;refine ib (λe=>?_) (λe=>by have q1:=q _ s1;rw[e]at q1;exact q1);rw[e,Oi]at q;ac_rfl;refine aZ (s1.tup hA) (v:=.int p) rfl ?_;ac_rfl;refine mI ?_;exact q _ s1
 |hold l=>refine fz λG kG=>?_;obtain⟨a,xs,rfl,hA,hx⟩:=mB hR;obtain⟨v1,r1,rfl,e1,hx⟩:=eV hx;obtain⟨v2,r2,rfl,e2,hx⟩:=eV hx;cases mF hx;cases nW e1;obtain⟨la,rfl,P8⟩:=gz.mp e2;refine kG ?_;ac_rfl;refine aZ hA (v:=.str "hold") rfl ?_;ac_rfl;rw[tS.1];ac_rfl;rw[tS.2.1];ac_rfl;rw[tS.2.2.1];ac_rfl;rw[tS.2.2.2];ac_rfl;rw[N0 rfl];ac_rfl;refine aZ hA (v:=.ref la) rfl ?_;ac_rfl;exact⟨la,gl,l,[7,8],rfl,P8,hL _,h9,by decide,sp9,λH1 s1=>q _ s1⟩
 |call m g0 g1 t0 t1=>refine fz λG kG=>?_;obtain⟨a,xs,rfl,hA,hx⟩:=mB hR;obtain⟨v1,r1,rfl,e1,hx⟩:=eV hx;obtain⟨v2,r2,rfl,e2,hx⟩:=eV hx;obtain⟨v3,r3,rfl,e3,hx⟩:=eV hx;obtain⟨v4,r4,rfl,e4,hx⟩:=eV hx;cases mF hx;cases nW e1;cases jG e2;obtain⟨ga,rfl,hga⟩:=C2 e3;obtain⟨ta,rfl,hta⟩:=C2 e4;refine kG ?_;ac_rfl;refine aZ hA (v:=.str "call") rfl ?_;ac_rfl;rw[ph.1];ac_rfl;rw[ph.2.1];ac_rfl;rw[ph.2.2.1];ac_rfl;rw[ph.2.2.2.1];ac_rfl;rw[ph.2.2.2.2];ac_rfl;refine aZ hA (v:=.int m) rfl ?_;ac_rfl;refine aZ hA (v:=.ref ga) rfl ?_;ac_rfl;refine aZ hA (v:=.ref ta) rfl ?_;ac_rfl;exact⟨m,ga,ta,g0,g1,t0,t1,rfl,hga,hta,λH1 s1=>q _ s1⟩
inductive AL (K:Fg)(vs:QV)(H:Hp)(Q:VK)(E:XK):Prop
 |mk (a:Addr) (ds:List Dd):vs=[.ref a]->aq K H (.lst (ds.map dv)) (.ref a)->ds.length<=1000->(∀ d∈ds,gc d)->(∀ H',ae H H'->Q (.bl (mz ds)) H')->AL K vs H Q E
include B Z Q45 in
theorem MC (Q3b:Fn P w K mg b8 "deed_right" ["deed","last_place"] 5 (AH K))(F:aS K "deeds_right" "deeds_right" yl f fd)(m:mg "deeds_right"=some (.ref f)):Fn P w K mg b8 "deeds_right" ["deeds"] 6 (AL K):=by
 refine bR F yD m λ_ _ _ _ H vs Q E hr h=>?_;obtain⟨a,ds,rfl,hA,l1000,h9,q⟩:=h;refine⟨_,(az (js 1 yD.nd (cq (eQ K) rfl B.len L2.boot_len (jn 0 ag)))
   (ay (aJ (eU (jl Q45 hr (jk (jn 1 (dE (dS rfl B.QC) ag)))) (fJ (cq (ju K rfl) rfl B.all L2.jO (ie (jC (bG.f yD ["deeds","count","deed"] [false,false,true]) (db K (pv 0)) (λn=>(jg 2 n)) (jl Q3b hr (jn 2 (jn 1 ag)))) ag))))))),?_⟩
 unfold aq at hA;obtain⟨a',xs,e,hA,hx⟩:=hA;cases e;have lx:=hx.length;rw[aV]at lx;unfold mz cD at q;ac_rfl;refine eW (.inl hA) ?_;rw[<-lx];ac_rfl;refine mI ?_;refine ib (λe=>?_) (λe=>by have q1:=q _ (ae.refl _);rw[e]at q1;exact q1);rw[e,Oi]at q;ac_rfl;nomatch a,rfl,⟨_,hA⟩;refine cX (dY hA) ((ds.map (b_ (ds.length:Int))).map D.bl) (by simp;omega) (bF (by omega)) (λk x d H1 R hk hd s1 hx' hR=>?_) (λv H1 s1 n1=>?_)
 ·obtain⟨d2,hd2,hrx⟩:=av.get' hx hx';rw[aR]at hd2;obtain⟨l,hl,rfl⟩:=ce.mp hd2;rw[aR,aR,hl]at hd;cases hd;ac_rfl;refine⟨_,_,l,rfl,aq.same s1 _ hrx,h9 l (bT hl),λH2 s2=>?_⟩;exact hR _ _ s2 ao.bl
 obtain⟨la,rfl,la0,la1⟩:=ao.bls n1;ac_rfl;refine jw (ar.of la1) ?_;exact q _ s1
inductive AK (K:Fg)(C:Nat->Addr)(vs:QV)(H:Hp)(Q:VK)(E:XK):Prop
 |mk (p:Addr) (PJ PB:QT) (ds:List Dd) (PF:QU):vs=[.ref p]->fh K (C 7) H p PJ PB (ds.map dv) PF->PF.length<=1000->(∀ ls∈PF,ls.length<=1000/\∀ l∈ls,l.length=9)->(∀ H',ae H H'->Q (.bl (my ds PF)) H')->AK K C vs H Q E
include B Z Q37 in
theorem MB (F:aS K "notes_right" "notes_right" yk f fd)(m:mg "notes_right"=some (.ref f)):Fn P w K mg b8 "notes_right" ["craft"] 5 (AK K C):=by
 refine bR F yC m λ_ _ _ _ H vs Q E hr h=>?_;obtain⟨p,PJ,PB,ds,PF,rfl,hC,l1000,h9,q⟩:=h;obtain⟨gl,g_LEFT_SPOTS,hL⟩:=B.Qm;have sp9:∀ s∈([7,8]:List Nat),s<9:=by decide
 refine⟨_,(az (js 1 yC.nd (jE K hr (cq (eQ K) rfl B.len L2.boot_len (dR (jf K 0) ag)) (cq (eQ K) rfl B.len L2.boot_len (dR (jf K 0) ag))))
   (ay (aJ (eU (pv 1) (fJ (cq (ju K rfl) rfl B.all L2.jO (ie (jC (bG.f yC ["craft","as_many","lines"] [false,false,true]) (db K (jf K 0)) (λn=>(jg 2 n)) (jl Q37 hr (jn 2 (dE (jK rfl g_LEFT_SPOTS) ag)))) ag))))))),?_⟩
 obtain⟨dx,w1,w2,w3,w4,hp,r1,r2,r3,r4⟩:=hC;unfold aq at r3 r4;obtain⟨b3,xs3,rfl,q3,z3⟩:=r3;obtain⟨b4,xs4,rfl,q4,z4⟩:=r4;have m3:=z3.length;have m4:=z4.length;rw[aV]at m3 m4;unfold my at q;ac_rfl;nomatch p,(C 7),dx,_,_,rfl,hp,Z.PU,Z.P7,lC _ _ _ _;ac_rfl;refine eW (.inl q4) ?_;ac_rfl;nomatch p,(C 7),dx,_,_,rfl,hp,Z.PU,Z.PZ,ip _ _ _ _;ac_rfl;refine eW (.inl q3) ?_;rw[<-m3,<-m4];ac_rfl;refine fO (λe=>?_) (λe=>by have q1:=q _ (ae.refl _);rw[e]at q1;exact q1);rw[e,Oi]at q;ac_rfl;nomatch p,(C 7),dx,_,_,rfl,hp,Z.PU,Z.P7,lC _ _ _ _;nomatch b4,rfl,⟨_,q4⟩;refine cX (dY q4) ((PF.map (iN [7,8])).map D.bl) (by simp;omega) (bF (by omega)) (λk x d H1 R hk hd s1 hx' hR=>?_) (λv H1 s1 n1=>?_)
 ·obtain⟨d2,hd2,hrx⟩:=av.get' z4 hx';rw[aR]at hd2;obtain⟨l,hl,rfl⟩:=ce.mp hd2;rw[aR,aR,hl]at hd;cases hd;have hr':=aq.same s1 _ hrx;obtain⟨xa,rfl⟩:∃ b,x=.ref b:=by unfold bx aq at hrx;obtain⟨a,_,e,_⟩:=hrx;exact⟨a,e⟩
  have h9':=h9 l (bT hl);ac_rfl;refine⟨xa,gl,l,[7,8],rfl,hr',hL _,h9'.1,h9'.2,by decide,sp9,λH2 s2=>?_⟩;exact hR _ _ s2 ao.bl
 obtain⟨la,rfl,la0,la1⟩:=ao.bls n1;ac_rfl;refine jw (ar.of la1) ?_;exact q _ s1
inductive AN (K:Fg)(C:Nat->Addr)(vs:QV)(H:Hp)(Q:VK)(E:XK):Prop
 |mk (p:Addr) (PJ PB:QT) (ds:List Dd) (PF:QU):vs=[.ref p]->fh K (C 7) H p PJ PB (ds.map dv) PF->PJ.length<=1000->PB.length<=1000->ds.length<=1000->PF.length<=1000->(∀ l∈PJ,l.length=9)->(∀ l∈PB,l.length=9)->(∀ d∈ds,gc d)->(∀ ls∈PF,ls.length<=1000/\∀ l∈ls,l.length=9)->(∀ H',ae H H'->Q (.bl (gm PJ PB ds PF)) H')->AN K C vs H Q E
include B Z in
theorem H_ (Q31:Fn P w K mg b8 "oath_right" ["craft"] 5 (AM K C))(Q33:Fn P w K mg b8 "deeds_right" ["deeds"] 6 (AL K))(Q35:Fn P w K mg b8 "notes_right" ["craft"] 5 (AK K C))(F:aS K "right" "right" wz f fd)(m:mg "right"=some (.ref f)):Fn P w K mg b8 "right" ["craft"] 7 (AN K C):=by
 refine bR F Js m λ_ _ _ _ H vs Q E hr h=>?_;obtain⟨p,PJ,PB,ds,PF,rfl,hC,ln,ll,ld,lo,h9n,h9l,h9d,h9o,q⟩:=h;nomatch _,(ay (aJ (eU (jl Q31 hr (jn 0 ag)) (eU (jl Q33 hr (dR (jf K 0) ag)) (fJ (jl Q35 hr (jn 0 ag)))))));unfold gm at q;ac_rfl;refine⟨p,PJ,PB,_,PF,rfl,hC,ln,ll,h9n,h9l,λH1 s1=>?_⟩;refine ib (λe=>?_) (λe=>by have q1:=q _ s1;rw[e]at q1;exact q1);rw[e,Oi]at q;ac_rfl;obtain⟨dx,w1,w2,w3,w4,hp,r1,r2,r3,r4⟩:=fh.same s1 hC;obtain⟨b3,rfl⟩:∃ b,w3=.ref b:=by unfold aq at r3;obtain⟨a,_,e,_⟩:=r3;exact⟨a,e⟩
 nomatch p,(C 7),dx,_,_,rfl,hp,Z.PU,Z.PZ,ip _ _ _ _;ac_rfl;refine⟨b3,ds,rfl,r3,ld,h9d,λH2 s2=>?_⟩;have s3:=s1.trans s2;refine ib (λe=>?_) (λe=>by have q1:=q _ s3;rw[e]at q1;exact q1);rw[e,Oi]at q;ac_rfl;exact⟨p,PJ,PB,ds,PF,rfl,fh.same s3 hC,lo,h9o,λH4 s4=>q _ (s3.trans s4)⟩
inductive uV (K:Fg)(C:Nat->Addr)(vs:QV)(H:Hp)(Q:VK)(E:XK):Prop
 |mk (p:Addr) (place:Int) (PJ PB:QT) (PD:List D) (PF:QU):vs=[.ref p,.int place]->fh K (C 7) H p PJ PB PD PF->0<=place->place<=(PD.length:Int)->PD.length=PF.length->PD.length<=1000->PB.length<=1000->(∀ l∈PB,l.length=9)->(∀ ls∈PF,ls.length<=1000)->(∀ v H',ae H H'->ao H H' (bx (aG PB PF place)) v->Q v H')->uV K C vs H Q E
variable (Q3:Fn P w K mg b8 "bare" ["i"] 1 (yx K))(Q7:Fn P w K mg b8 "turned" ["line","eight"] 2 (Q6 K))
include B Z Q28 Q45 Q3 Q7 in
theorem JM (F:aS K "due_at" "due_at" wM f fd)(m:mg "due_at"=some (.ref f)):Fn P w K mg b8 "due_at" ["craft","place"] 3 (uV K C):=by
 refine bR F uk m λ_ _ _ _ H vs Q E hr h=>?_;obtain⟨p,place,PJ,PB,PD,PF,rfl,hC,h0,hn,hdn,h1000,hl1000,h9,hns,q⟩:=h;obtain⟨ga,g_LEFT_AS_HANDS,hT⟩:=B.Qp;refine⟨_,(az (bq (jt K hr (pv 1) (cq (eQ K) rfl B.len L2.boot_len (dR (jf K 0) ag))) (az (js 2 uk.nd (jC (bG.f uk ["craft","place","eight","i"] [false,false,false,true]) (oQ K (jK rfl g_LEFT_AS_HANDS)) (λn=>(jg 3 n)) (jl Q3 hr (jn 3 ag))))
   (ay (aJ (jC (bG.f uk ["craft","place","eight","line"] [false,false,false,true]) (db K (jf K 0)) (λn=>(jg 3 n)) (jl Q7 hr (jn 3 (jn 2 ag))))))) bE)
   (az (bq (fg (jl Q45 hr (jk (jn 1 (bN (aO mh (cq (sh rfl) rfl B.min L2.Jq (bH (cq (eQ K) rfl B.len L2.boot_len (dR (jf K 0) ag)) (bH (cq (eQ K) rfl B.len L2.boot_len (dR (jf K 0) ag)) ag))) aj) ag))))) (ay (aJ (jl Q28 hr (bn (jx K (jf K 0) (pv 1)) ag)))) bE)
   (ay (aJ (bv ag))))),?_⟩
 obtain⟨dx,w1,w2,w3,w4,hp,r1,r2,r3,r4⟩:=hC;unfold bx aq at r2;unfold aq at r3 r4;obtain⟨b2,xs2,rfl,q2,z2⟩:=r2;obtain⟨b3,xs3,rfl,q3,z3⟩:=r3;obtain⟨b4,xs4,rfl,q4,z4⟩:=r4;have m2:=z2.length;have m3:=z3.length;have m4:=z4.length;rw[aV]at m2 m4;ac_rfl;nomatch p,(C 7),dx,_,_,rfl,hp,Z.PU,Z.PZ,ip _ _ _ _;ac_rfl;refine eW (.inl q3) ?_;ac_rfl;unfold aG at q;refine cj (λe=>?_) (λe=>?_)
 ·have e':place=(xs3.length:Int):=N8 e;rw[NU (by omega)]at q;ac_rfl;nomatch ga,rfl,⟨_,hT _⟩;refine cX (n:=8) (pE (xs:=oY.map V.int) (hT H)) (gq.map nums) (by simp[gq,oY]) (by decide) (λj x d H1 R hj hd s1 hx hR=>?_) (λv H1 s1 n1=>?_)
  ·unfold gq at hd;rw[aR]at hx;obtain⟨i,hi,rfl⟩:=ce.mp hx;rw[aR,aR,hi]at hd;cases hd;ac_rfl;refine g6 λv H2 s2 n2=>?_;exact hR _ _ s2 n2
  have hE:aq K H1 (.lst (gq.map nums)) v:=ao.rep n1;obtain⟨ea,evs,rfl,ea0,ea1,ew⟩:=ao.news n1;ac_rfl;nomatch p,(C 7),dx,_,_,rfl,s1 _ _ hp,Z.PU,Z.P6,j9 _ _ _ _;nomatch b2,rfl,⟨_,s1.seq q2⟩;refine cX (dY (s1.seq q2)) ((PB.map λl=>bo l gq).map nums) (by rw[aV,aV];omega) (bF (by omega)) (λj x d H2 R hj hd s2 hx hR=>?_) (λv H2 s2 n2=>?_)
  ·obtain⟨d2,hd2,hrx⟩:=av.get' z2 hx;rw[aR]at hd2;obtain⟨l,hl,rfl⟩:=ce.mp hd2;rw[aR,aR,hl]at hd;cases hd;obtain⟨xa,rfl,hxa⟩:=gz.mp (aq.same (s1.trans s2) _ hrx);have l9:=h9 l (bT hl);cases l with
   |nil=>simp at l9
   |cons c fs=>
    ac_rfl;refine⟨xa,ea,c,fs,gq,rfl,hxa,aq.same s2 _ hE,by simpa using l9,by simp[gq,oY],KU,λi l w el _ n hn=>?_,λv' H3 s3 n3=>?_⟩
    ·rcases KS l (bT el) n hn with z|z<;>subst z<;>exact .inl ⟨by decide,by decide⟩
    ·exact hR _ _ s3 n3
  exact q _ _ (s1.trans s2) (n2.back s1)
 ·have e':¬ place=(xs3.length:Int):=N9 (Oc.mpr e);rw[NR (by omega)]at q;ac_rfl;nomatch p,(C 7),dx,_,_,rfl,hp,Z.PU,Z.PZ,ip _ _ _ _;ac_rfl;refine eW (.inl q3) ?_;ac_rfl;nomatch p,(C 7),dx,_,_,rfl,hp,Z.PU,Z.P7,lC _ _ _ _;ac_rfl;refine eW (.inl q4) ?_;ac_rfl;refine rB ?_;ac_rfl;refine mI ?_;rw[show(if((xs4.length:Nat):Int)<((xs3.length:Nat):Int)then((xs4.length:Nat):Int)else((xs3.length:Nat):Int))=(xs3.length:Int)by rw[NR (by omega)],N0 h0,N0 (show place<=(xs3.length:Int) - 1 by omega)];show ∃ c,V.bl true=.bl c/\_;ac_rfl;nomatch p,(C 7),dx,_,_,rfl,hp,Z.PU,Z.P7,lC _ _ _ _;ac_rfl;have pl:place.toNat<PF.length:=by omega
  obtain⟨x,hx,hr4⟩:=z4.get (i:=place.toNat) (d:=bx PF[place.toNat]) (by simp[pl]);have ei:fe xs4 place=some x:=by have:=bJ hx;rwa [show((place.toNat:Nat):Int)=place by omega]at this
  obtain⟨b,rfl⟩:∃ b,x=.ref b:=by unfold bx aq at hr4;obtain⟨a,_,e,_⟩:=hr4;exact⟨a,e⟩
  refine bW q4 ei ?_;ac_rfl;refine⟨b,_,rfl,hr4,hns _ (Om pl),λv H1 s1 n1=>?_⟩;refine q _ _ s1 ?_;rw[show PF.getD place.toNat []=PF[place.toNat]by simp[List.getD,pl]];exact n1
inductive Au (K:Fg)(vs:QV)(H:Hp)(Q:VK)(E:XK):Prop
 |mk (d:Addr) (kvs:List (bp×V)) (ch:Nat->Option QS):vs=[.ref d]->H d=some (.dK kvs)->(∀ i:Nat,i<8->(ch i=none/\aI kvs (.inl (0+(i:Int)))=none)\/∃ a l,ch i=some l/\aI kvs (.inl (0+(i:Int)))=some (.ref a)/\l.length=9/\H a=some (.lst (l.map V.int)))->(∀ a H',ae H H'->H a=none->Ls H' a (bf ch)->Q (.ref a) H')->Au K vs H Q E
theorem LE (i:Int):(ah i).length=9:=by simp[ah]
theorem mO (ch:Nat->Option QS):(bf ch).length=8:=by simp[bf]
theorem Km(h:n∈ah i):n=0\/n=1:=by
 unfold ah at h;rcases NP.mp h with h|h
 ·exact .inl h
 ·obtain⟨k,_,rfl⟩:=bB.mp h;split
  ·exact .inr rfl
  ·exact .inl rfl
theorem hU (i:Int):Sm (ah i):=λn hn=>by rcases Km hn with z|z<;>subst z<;>exact⟨by decide,by decide⟩
theorem mE {eight:QT}{ws:QS}(h:∀ l∈eight,Sm l):sW eight ws:=λi l w e _ n hn=>.inl (h l (bT e) n hn)
theorem iP {ch:Nat->Option QS}{P:QS->Prop}(hb:∀ i:Int,P (ah i))(hc:∀ i l,ch i=some l->P l):∀ l∈bf ch,P l:=λl hl=>by
 obtain⟨i,_,rfl⟩:=bB.mp hl;cases e:ch i with
 |none=>exact hb _
 |some l=>exact hc i l e
theorem nV{k:Int}{P:QS->Prop}(h:P l):∀ i m,cA k l i=some m->P m:=λi m e=>by
 unfold cA at e;split at e
 ·cases e;exact h
 ·cases e
theorem vI{k:Int}(h9:l.length=9)(ha:H a=some (.lst (l.map V.int))):∀ i:Nat,i<8->(cA k l i=none/\aI (eR [] [(Sum.inl k,V.ref a)]) (.inl (0+(i:Int)))=none)\/∃ b m,cA k l i=some m/\aI (eR [] [(Sum.inl k,V.ref a)]) (.inl (0+(i:Int)))=some (.ref b)/\m.length=9/\H b=some (.lst (m.map V.int)):=λi _=>by
 have e:aI (eR [] [((Sum.inl k:bp),V.ref a)]) (.inl (0+(i:Int)))=if(Sum.inl (0+(i:Int)):bp)=Sum.inl k then some (.ref a)else none:=by show aI (bi [] _ _) _=_;rw[ol];rfl
 by_cases z:k=0+(i:Int)
 ·refine .inr ⟨a,l,by unfold cA;rw[NU z],?_,h9,ha⟩;rw[e,NU (by rw[z])]
 ·refine .inl ⟨by unfold cA;rw[NR z],?_⟩;rw[e,NR (by intro w;injection w with w;exact z w.symm)]
theorem tR{P:QS->Prop}(h0:P l0)(h1:P l1):∀ i m,bS k0 l0 k1 l1 i=some m->P m:=λi m e=>by
 unfold bS at e;split at e
 ·cases e;exact h1
 split at e
 ·cases e;exact h0
 ·cases e
theorem B1{a0 a1:Addr}(h90:l0.length=9)(h91:l1.length=9)(ha0:H a0=some (.lst (l0.map V.int)))(ha1:H a1=some (.lst (l1.map V.int))):∀ i:Nat,i<8->(bS k0 l0 k1 l1 i=none/\aI (eR [] [(Sum.inl k0,V.ref a0),(Sum.inl k1,V.ref a1)]) (.inl (0+(i:Int)))=none)\/∃ b m,bS k0 l0 k1 l1 i=some m/\aI (eR [] [(Sum.inl k0,V.ref a0),(Sum.inl k1,V.ref a1)]) (.inl (0+(i:Int)))=some (.ref b)/\m.length=9/\H b=some (.lst (m.map V.int)):=λi _=>by
 have e:aI (eR [] [((Sum.inl k0:bp),V.ref a0),(Sum.inl k1,V.ref a1)]) (.inl (0+(i:Int)))=if(Sum.inl (0+(i:Int)):bp)=Sum.inl k1 then some (.ref a1)else if(Sum.inl (0+(i:Int)):bp)=Sum.inl k0 then some (.ref a0)else none:=by show aI (bi (bi [] _ _) _ _) _=_;rw[ol,ol];rfl
 by_cases z1:k1=0+(i:Int)
 ·refine .inr ⟨a1,l1,by unfold bS;rw[NU z1],?_,h91,ha1⟩;rw[e,NU (by rw[z1])]
 ·have n1:¬ (Sum.inl (0+(i:Int)):bp)=Sum.inl k1:=by intro w;injection w with w;exact z1 w.symm
  by_cases z0:k0=0+(i:Int)
  ·refine .inr ⟨a0,l0,by unfold bS;rw[NR z1,NU z0],?_,h90,ha0⟩;rw[e,NR n1,NU (by rw[z0])]
  ·refine .inl ⟨by unfold bS;rw[NR z1,NR z0],?_⟩;rw[e,NR n1,NR (by intro w;injection w with w;exact z0 w.symm)]
include B Z Q3 in
theorem Mm (F:aS K "eight_with" "eight_with" yp f fd)(m:mg "eight_with"=some (.ref f)):Fn P w K mg b8 "eight_with" ["changes"] 2 (Au K):=by
 refine bR F EF m λ_ _ _ _ H vs Q E hr h=>?_;obtain⟨d,kvs,ch,rfl,hd,hch,q⟩:=h;nomatch _,(ay (aJ (jC (bG.f EF ["changes","i"] [false,true]) (iQ rfl B.range (dE (dS rfl B.Ql) ag)) (λn=>(jg 1 n)) (IL (cu hr) (pv 0) (pv 1) (jl Q3 hr (jn 1 ag)) ⟨rfl,rfl,rfl,rfl⟩))));have h9:∀ l∈bf ch,l.length=9:=λl hl=>by
  obtain⟨i,hi,rfl⟩:=bB.mp hl;rcases hch i (List.mem_range.mp hi)with⟨e,_⟩|⟨a,l,e,_,hl9,_⟩
  ·rw[e];exact LE _
  ·rw[e];exact hl9
 ac_rfl;refine iX (by decide) (by decide) ?_;refine GV (n:=8) lH (bf ch) (mO ch) (by decide) h9 (λi x l H1 R hi hl s1 hx hR=>?_) (λa H1 s1 ha hL=>?_)
 ·subst hx;have el:l=(ch i).getD (ah (0+(i:Int))):=by unfold bf at hl;rw[aR,OL hi]at hl;cases hl;rfl
  ac_rfl;nomatch d,rfl,.inl ⟨kvs,.inl (s1 _ _ hd)⟩;ac_rfl;refine g6 λv H2 s2 n2=>?_;obtain⟨b,rfl,b0,b1⟩:=ao.iif.mp n2;have hg:bj H2 d (.int (0+(i:Int))) (aI kvs (.inl (0+(i:Int)))):=bj.k (k:=.inl (0+(i:Int))) (s2 _ _ (s1 _ _ hd));nomatch _,hg;rcases hch i hi with⟨e,ev⟩|⟨a,l',e,ev,_,ha⟩
  ·rw[ev];exact hR b _ s2 (by rw[el,e];exact b1)
  ·rw[ev];exact hR a _ s2 (by rw[el,e];exact s2 _ _ (s1 _ _ ha))
 ·ac_rfl;exact q a H1 s1 ha hL
inductive Aw (K:Fg)(vs:QV)(H:Hp)(Q:VK)(E:XK):Prop
 |mk (a b:Addr) (goals PM:QT):vs=[.ref a,.ref b]->aq K H (bx goals) (.ref a)->aq K H (bx PM) (.ref b)->goals.length<=1000->PM.length<=1000->(∀ v H',ae H H'->ao H H' (.lst (goals.map λg=>fG g PM)) v->Q v H')->Aw K vs H Q E
include B Z Q28 in
theorem LD (F:aS K "each_from" "each_from" xR f fd)(m:mg "each_from"=some (.ref f)):Fn P w K mg b8 "each_from" ["goals","hypotheses"] 2 (Aw K):=by
 refine bR F EL m λ_ _ _ _ H vs Q E hr h=>?_;obtain⟨a,b,goals,PM,rfl,hA,hB,hg,hh,q⟩:=h;nomatch _,(ay (aJ (jC (bG.f EL ["goals","hypotheses","goal"] [false,false,true]) (db K (pv 0)) (λn=>(jg 2 n)) (cx (bH (mL (tu K) rfl B.list L2.om (jn 2 ag)) (bH (jl Q28 hr (jn 1 ag)) ag))))));unfold bx aq at hA;obtain⟨_,xs,e,hA,hx⟩:=hA;cases e;have lx:=hx.length;rw[aV]at lx;ac_rfl;nomatch a,rfl,⟨_,hA⟩;refine cX (dY hA) (goals.map λg=>fG g PM) (by simp[lx]) (bF (by omega)) (λi x d H1 R hi hd s1 hx' hR=>?_) (λv H1 s1 n1=>?_)
 ·obtain⟨d2,hd2,hrx⟩:=hx.get' hx';rw[aR]at hd2;obtain⟨l,hl',rfl⟩:=ce.mp hd2;rw[aR,hl']at hd;cases hd;obtain⟨xa,rfl,hxa⟩:=gz.mp (aq.same s1 _ hrx);ac_rfl;refine tZ (.inl hxa) λp hp=>?_;have t1:=aB hp (.lst (l.map V.int));ac_rfl;refine⟨b,PM,rfl,aq.same (s1.trans t1) _ hB,hh,λv H2 s2 n2=>?_⟩;ac_rfl;refine⟨(by right),λT hT=>?_⟩;have t3:=aB hT (.tup [.ref p,v]);obtain⟨fp,f1,f2,f3⟩:=n2;have pn:p∉fp:=λm=>by have:=f3 p m;rw[aw]at this;cases this
  refine hR _ _ (t1.trans (s2.trans t3)) (ao.tup (fp:=p::fp) (ak.cany (f:=[p]) (fp:=fp) (ai.line (t3 _ _ (s2 _ _ aw))) ?_) (Og.mpr ⟨pn,f2⟩) (λc hc=>?_) aw)
  ·have:=ak.cany (ai.sq t3.sq _ f1) (ak.nil (H:=upd H2 T (.tup [.ref p,v])));rw[Oo]at this;exact this
  ·rcases NP.mp hc with z|z
   ·rw[z];exact hp
   ·exact t1.free (f3 c z)
 ·ac_rfl;exact q _ _ s1 n1
inductive Av (K:Fg)(vs:QV)(H:Hp)(Q:VK)(E:XK):Prop
 |mk (a b:Addr) (ls eight:QT):vs=[.ref a,.ref b]->aq K H (bx ls) (.ref a)->aq K H (.lst (eight.map nums)) (.ref b)->ls.length<=1000->(∀ l∈ls,l.length=9/\sW eight l.tail)->eight.length=8->(∀ l∈eight,l.length=9)->(∀ v H',ae H H'->ao H H' (bx (ls.map λl=>bo l eight)) v->Q v H')->Av K vs H Q E
include B Z Q7 in
theorem Ml (F:aS K "all_turned" "all_turned" yq f fd)(m:mg "all_turned"=some (.ref f)):Fn P w K mg b8 "all_turned" ["lines","eight"] 3 (Av K):=by
 refine bR F EG m λ_ _ _ _ H vs Q E hr h=>?_;obtain⟨a,b,ls,eight,rfl,hA,hB,hl,hk,l8,e9,q⟩:=h;nomatch _,(ay (aJ (jC (bG.f EG ["lines","eight","line"] [false,false,true]) (db K (pv 0)) (λn=>(jg 2 n)) (jl Q7 hr (jn 2 (jn 1 ag))))));unfold bx aq at hA;obtain⟨_,xs,e,hA,hx⟩:=hA;cases e;have lx:=hx.length;rw[aV]at lx;ac_rfl;nomatch a,rfl,⟨_,hA⟩;refine cX (dY hA) ((ls.map λl=>bo l eight).map nums) (by simp[lx]) (bF (by omega)) (λi x d H1 R hi hd s1 hx' hR=>?_) (λv H1 s1 n1=>?_)
 ·obtain⟨d2,hd2,hrx⟩:=hx.get' hx';rw[aR]at hd2;obtain⟨l,hl',rfl⟩:=ce.mp hd2;rw[aR,aR,hl']at hd;cases hd;obtain⟨xa,rfl,hxa⟩:=gz.mp (aq.same s1 _ hrx);obtain⟨l9,ok⟩:=hk l (bT hl');obtain⟨c,fs,rfl⟩:∃ c fs,l=c::fs:=by
   cases l with
   |nil=>simp at l9
   |cons c fs=>exact⟨c,fs,rfl⟩
  ac_rfl;refine⟨xa,b,c,fs,eight,rfl,hxa,aq.same s1 _ hB,by simpa using l9,l8,e9,ok,λv H2 s2 n2=>?_⟩;exact hR _ _ s2 n2
 ·ac_rfl;exact q _ _ s1 n1
abbrev B0:=kL
def y_ (K:Fg):Sp:=λvs H Q _=>∃ i:Int,vs=[.int i]/\∀ v H',ae H H'->ao H H' (nums (B0 i)) v->Q v H'
theorem nU(q:∀ v H',ae H H'->ao H H' (nums (B0 i)) v->Q v H'):y_ K [.int i] H Q E:=⟨i,rfl,q⟩
include B Z in
theorem Ly (F:aS K "constant" "constant" xA f fd)(m:mg "constant"=some (.ref f)):Fn P w K mg b8 "constant" ["number"] 1 (y_ K):=by refine bR F Lp m λ_ _ _ _ H vs Q E hr h=>?_;obtain⟨i,rfl,q⟩:=h;nomatch _,(ay (aJ (jp K (bv (jn 0 ag)) (aO ik (bv (jk ag)) (dS rfl B.Ql)))));ac_rfl;refine⟨(by right),λp hp=>?_⟩;ac_rfl;refine⟨(by right),λp2 hp2=>?_⟩;ac_rfl;refine .inr ⟨p2,8,[.int 0],rfl,rfl,aw,by decide,by decide,by decide,λp3 hp3=>?_⟩;have t1:=aB hp (.lst [.int i]);have t2:=aB hp2 (.lst [.int 0]);have t3:=aB hp3 (.lst (List.replicate (8:Int).toNat [V.int 0]).flatten);ac_rfl;refine fi (t3 _ _ (t2 _ _ aw)) aw (bF (by show 1+8<=1000;decide)) λp4 hp4=>?_;have s:=t1.trans (t2.trans t3);exact q _ _ (s.trans (aB hp4 _)) (ao.iif.mpr ⟨p4,rfl,s.free hp4,aw⟩)
theorem zt(h:-(2 ^ 64)<n/\n<2 ^ 64):Sm (kL n):=λm hm=>by
 unfold kL at hm;rcases NP.mp hm with z|z
 ·rw[z];exact h
 ·rw[(List.mem_replicate.mp z).2];exact⟨by decide,by decide⟩
theorem Cs {P:QS->Prop}(h4:P (ah 4))(h5:P (ah 5))(hk:P (kL 0)):∀ i m,fc i=some m->P m:=λi m e=>by
 unfold fc at e;split at e
 ·cases e;exact h4
 split at e
 ·cases e;exact h5
 split at e
 ·cases e;exact hk
 split at e
 ·cases e;exact hk
 ·cases e
variable {c:Addr}
theorem FT{d:Addr}(ha:H a=some (.lst ((ah 4).map V.int)))(hb:H b=some (.lst ((ah 5).map V.int)))(hc:H c=some (.lst ((kL 0).map V.int)))(hd:H d=some (.lst ((kL 0).map V.int))):∀ i:Nat,i<8->(fc i=none/\aI (eR [] [(Sum.inl 0,V.ref a),(Sum.inl 1,V.ref b),(Sum.inl 2,V.ref c),(Sum.inl 3,V.ref d)]) (.inl (0+(i:Int)))=none)\/∃ x m,fc i=some m/\aI (eR [] [(Sum.inl 0,V.ref a),(Sum.inl 1,V.ref b),(Sum.inl 2,V.ref c),(Sum.inl 3,V.ref d)]) (.inl (0+(i:Int)))=some (.ref x)/\m.length=9/\H x=some (.lst (m.map V.int)):=λi hi=>by
 have e:∀ k:bp,aI (eR [] [((Sum.inl 0:bp),V.ref a),(Sum.inl 1,V.ref b),(Sum.inl 2,V.ref c),(Sum.inl 3,V.ref d)]) k=if k=Sum.inl 3 then some (.ref d)else if k=Sum.inl 2 then some (.ref c)else if k=Sum.inl 1 then some (.ref b)else if k=Sum.inl 0 then some (.ref a)else none:=λk=>by simp only[eR,List.foldl_cons,List.foldl_nil,ol];rfl
 rw[e];match i,hi with
 |0,_=>exact .inr ⟨a,_,rfl,rfl,bh 4,ha⟩|1,_=>exact .inr ⟨b,_,rfl,rfl,bh 5,hb⟩|2,_=>exact .inr ⟨c,_,rfl,rfl,fM 0,hc⟩|3,_=>exact .inr ⟨d,_,rfl,rfl,fM 0,hd⟩|4,_=>exact .inl ⟨rfl,rfl⟩|5,_=>exact .inl ⟨rfl,rfl⟩|6,_=>exact .inl ⟨rfl,rfl⟩|7,_=>exact .inl ⟨rfl,rfl⟩
inductive AC (K:Fg)(C:Nat->Addr)(vs:QV)(H:Hp)(Q:VK)(E:XK):Prop
 |mk (p:Addr) (PJ PB:QT) (PD:List D) (PF:QU):vs=[.ref p]->fh K (C 7) H p PJ PB PD PF->fY PJ PB PD.length PF->(∀ v H',ae H H'->ao H H' (.lst (oV PJ PB PF)) v->Q v H')->AC K C vs H Q E
variable (Q5a:Fn P w K mg b8 "eight_with" ["changes"] 2 (Au K))(Q56:Fn P w K mg b8 "each_from" ["goals","hypotheses"] 2 (Aw K))(Q58:Fn P w K mg b8 "all_turned" ["lines","eight"] 3 (Av K))(Q5b:Fn P w K mg b8 "constant" ["number"] 1 (y_ K))(Q47:Fn P w K mg b8 "due_at" ["craft","place"] 3 (uV K C))
include B Z Q3 Q5a Q56 Q58 Q5b Q47 in
theorem MS (F:aS K "first_duties" "first_duties" yJ f fd)(m:mg "first_duties"=some (.ref f)):Fn P w K mg b8 "first_duties" ["craft"] 4 (AC K C):=by
 refine bR F E1 m λ_ _ _ _ H vs Q E hr h=>?_;obtain⟨p,PJ,PB,PD,PF,rfl,hC,hg,q⟩:=h;refine⟨_,(az (js 1 E1.nd (jl Q5a hr (eL (oh (iZ aj (jl Q3 hr (dE (dS rfl B.Qy) ag)) (iZ aj (jl Q3 hr (dE (dS rfl B.Qx) ag)) (iZ aj (jl Q5b hr (jk ag)) (iZ aj (jl Q5b hr (jk ag)) oi)))) rfl rfl (by simp) (by simp)) ag)))
   (ay (aJ (jl Q56 hr (bH (jl Q58 hr (bH (jl Q47 hr (jn 0 (jk ag))) (jn 1 ag))) (dR (jf K 0) ag)))))),?_⟩
 left;nofun;refine nN λdp hdp=>?_;have u0:=aB hdp (.dK []);nofun;refine g6 λv H1 s1 n1=>?_;obtain⟨b1,rfl,b10,b11⟩:=ao.iif.mp n1;nofun;refine g6 λv H2 s2 n2=>?_;obtain⟨b2,rfl,b20,b21⟩:=ao.iif.mp n2;nofun;refine nU λv H3 s3 n3=>?_;obtain⟨b3,rfl,b30,b31⟩:=ao.iif.mp n3;nofun;refine nU λv H4 s4 n4=>?_;obtain⟨b4,rfl,b40,b41⟩:=ao.iif.mp n4;nofun;have d1:H1 dp=some (.dK []):=s1 _ _ aw;have d4:H4 dp=some (.dK []):=s4 _ _ (s3 _ _ (s2 _ _ d1));have ne:∀{b:Addr}{l:QS},H4 b=some (.lst (l.map V.int))->b≠dp:=λe z=>by rw[z,d4]at e;cases e
 have f1:=s4 _ _ (s3 _ _ (s2 _ _ b11));have f2:=s4 _ _ (s3 _ _ b21);have f3:=s4 _ _ b31;nomatch d4,[(.inl 0,.ref b1),(.inl 1,.ref b2),(.inl 2,.ref b3),(.inl 3,.ref b4)],rfl,by simp
 have s05:ae H (upd H4 dp (.dK (eR [] [(.inl 0,.ref b1),(.inl 1,.ref b2),(.inl 2,.ref b3),(.inl 3,.ref b4)]))):=(u0.trans (s1.trans (s2.trans (s3.trans s4)))).put hdp;nofun;refine⟨dp,_,fc,rfl,aw,FT (by rw[aE (ne f1)];exact f1) (by rw[aE (ne f2)];exact f2) (by rw[aE (ne f3)];exact f3) (by rw[aE (ne b41)];exact b41),λea H6 s6 ea0 hE=>?_⟩;have s06:=s05.trans s6;have m9:∀ l∈bf fc,l.length=9:=iP (λi=>bh i) (Cs (bh 4) (bh 5) (fM 0));have msm:∀ l∈bf fc,Sm l:=iP (λi=>hU i) (Cs (hU 4) (hU 5) (zt ⟨by decide,by decide⟩));have gd:=hg.due 0;nofun;refine⟨p,0,PJ,PB,PD,PF,rfl,hC.same s06,by decide,by omega,hg.dn,by have:=hg.d;omega,by have:=hg.l;omega,hg.l9,λls hl=>by have:=(hg.o ls hl).1;omega,λv H7 s7 n7=>?_⟩;have rv:=ao.rep (K:=K) n7;obtain⟨da,rfl⟩:∃ b,v=.ref b:=by obtain⟨b,_,e,_⟩:=ao.news n7;exact⟨b,e⟩
 nofun;refine⟨da,ea,_,bf fc,rfl,rv,(hE.same s7).rep,by omega,λl hl=>⟨gd.2 l hl,mE msm⟩,mO _,m9,λv H8 s8 n8=>?_⟩;have rv8:=ao.rep (K:=K) n8;obtain⟨ga,rfl⟩:∃ b,v=.ref b:=by obtain⟨b,_,e,_⟩:=ao.news n8;exact⟨b,e⟩
 have s08:=s06.trans (s7.trans s8);obtain⟨dx,w1,w2,w3,w4,hp,r1,r2,r3,r4⟩:=hC.same s08;obtain⟨y1,rfl⟩:∃ b,w1=.ref b:=by unfold bx aq at r1;obtain⟨a,_,e,_⟩:=r1;exact⟨a,e⟩
 nofun;exists p,(C 7),dx,_,_,rfl,hp,Z.PU,Z.P4,jM _ _ _ _;refine⟨ga,y1,_,PJ,rfl,rv8,r1,by simp;omega,by have:=hg.n;omega,λv H9 s9 n9=>?_⟩;exact q _ _ (s08.trans s9) (n9.back s08)
inductive Ax (K:Fg)(C:Nat->Addr)(vs:QV)(H:Hp)(Q:VK)(E:XK):Prop
 |mk (t na aa o g2 t2:Addr) (m g0 g1 t0 t1:Int) (PF after PJ PB:QT) (PD:List D) (ns:QU):vs=[.ref t,.ref na,.ref aa,.ref o]->aH K H t [.str "call",.int m,.ref g2,.ref t2]->aH K H g2 [.int g0,.int g1]->aH K H t2 [.int t0,.int t1]->Ls H na PF->aq K H (bx after) (.ref aa)->PF.length<=100->after.length<=100->(∀ l∈PF,l.length=9)->(∀ l∈after,l.length=9)->fh K (C 7) H o PJ PB PD ns->fY PJ PB PD.length ns->(∀ v H',ae H H'->ao H H' (.lst (((PJ.map λl=>bo l (bf (bS 4 (ah g0) 5 (ah g1)))).map λg=>fG g PF)++(after.map λl=>bo l (bf (bS t0 (ah 6) t1 (ah 7)))).map λg=>fG g (PF++PB.map λl=>bo l (bf (bS 4 (ah g0) 5 (ah g1)))))) v->Q v H')->Ax K C vs H Q E
include B Z Q3 Q5a Q56 Q58 in
theorem MA (F:aS K "call_duties" "call_duties" yd f fd)(m:mg "call_duties"=some (.ref f)):Fn P w K mg b8 "call_duties" ["deed","notes","after","other"] 4 (Ax K C):=by
 refine bR F ou m (λ_ _ _ _ H vs Q E hr h=>?_) (ln:=by intro vs H Q E h;(obtain⟨_,_,_,_,_,_,_,_,_,_,_,_,_,_,_,_,_,rfl,_⟩:=h;rfl));obtain⟨t,na,aa,o,g2,t2,m,g0,g1,t0,t1,PF,after,PJ,PB,PD,ns,rfl,hT,hG,hK,hN,hA,ln,lf,o9,a9,hC,hg,q⟩:=h;refine⟨_,(az (js 4 ou.nd (jx K (pv 0) aj))
   (az (js 5 ou.nd (jx K (pv 0) aj))
   (az (js 6 ou.nd (jl Q5a hr (eL (oh (iZ (dS rfl B.Qy) (jl Q3 hr (bn (jx K (pv 4) aj) ag)) (iZ (dS rfl B.Qx) (jl Q3 hr (bn (jx K (pv 4) aj) ag)) oi)) rfl rfl (by simp) (by simp)) ag)))
   (az (js 7 ou.nd (jl Q5a hr (eL (oh (iZ (jx K (pv 5) aj) (jl Q3 hr (dE (dS rfl B.Qk) ag)) (iZ (jx K (pv 5) aj) (jl Q3 hr (dE (dS rfl B.QN) ag)) oi)) rfl rfl (by simp) (by simp)) ag)))
   (az (js 8 ou.nd (jl Q56 hr (bH (jl Q58 hr (dR (jf K 3) (jn 6 ag))) (jn 1 ag))))
   (ay (aJ (jp K (pv 8) (jl Q56 hr (bH (jl Q58 hr (jn 2 (jn 7 ag))) (bN (jp K (pv 1) (jl Q58 hr (dR (jf K 3) (jn 6 ag)))) ag))))))))))),?_⟩
 left;nofun;refine aZ hT (v:=.ref g2) (bJ (j:=2) rfl) ?_;nofun;left;nofun;refine aZ hT (v:=.ref t2) (bJ (j:=3) rfl) ?_;nofun;left;nofun;refine nN λdp hdp=>?_;have u0:=aB hdp (.dK []);nofun;refine aZ (u0.tup hG) (v:=.int g0) dU ?_;nofun;refine g6 λv H1 s1 n1=>?_;obtain⟨b1,rfl,b10,b11⟩:=ao.iif.mp n1;nofun;refine aZ ((u0.trans s1).tup hG) (v:=.int g1) (bJ (j:=1) rfl) ?_;nofun;refine g6 λv H2 s2 n2=>?_;obtain⟨b2,rfl,b20,b21⟩:=ao.iif.mp n2;nofun;have d2:H2 dp=some (.dK []):=s2 _ _ (s1 _ _ aw);have ne:∀{b:Addr}{l:QS},H2 b=some (.lst (l.map V.int))->b≠dp:=λe z=>by rw[z,d2]at e;cases e
 have f1:=s2 _ _ b11;nomatch d2,[(.inl 4,.ref b1),(.inl 5,.ref b2)],rfl,by simp
 have s03:ae H (upd H2 dp (.dK (eR [] [(.inl 4,.ref b1),(.inl 5,.ref b2)]))):=(u0.trans (s1.trans s2)).put hdp;nofun;refine⟨dp,_,bS 4 (ah g0) 5 (ah g1),rfl,aw,B1 (bh g0) (bh g1) (by rw[aE (ne f1)];exact f1) (by rw[aE (ne b21)];exact b21),λea H4 s4 ea0 hE=>?_⟩;have s04:=s03.trans s4;have e9:∀ l∈bf (bS 4 (ah g0) 5 (ah g1)),l.length=9:=iP (λi=>bh i) (tR (bh g0) (bh g1));have esm:∀ l∈bf (bS 4 (ah g0) 5 (ah g1)),Sm l:=iP (λi=>hU i) (tR (hU g0) (hU g1));have elen:=mO (bS 4 (ah g0) 5 (ah g1));generalize bf (bS 4 (ah g0) 5 (ah g1))=giving at hE e9 esm elen q;nofun;left;nofun;refine nN λdq hdq=>?_;have w0:=aB hdq (.dK []);nofun;refine aZ ((s04.trans w0).tup hK) (v:=.int t0) dU ?_;nofun;refine g6 λv H5 s5 n5=>?_;obtain⟨b3,rfl,b30,b31⟩:=ao.iif.mp n5;nofun;refine aZ ((s04.trans (w0.trans s5)).tup hK) (v:=.int t1) (bJ (j:=1) rfl) ?_;nofun;refine g6 λv H6 s6 n6=>?_;obtain⟨b4,rfl,b40,b41⟩:=ao.iif.mp n6;nofun;have d6:H6 dq=some (.dK []):=s6 _ _ (s5 _ _ aw);have ne6:∀{b:Addr}{l:QS},H6 b=some (.lst (l.map V.int))->b≠dq:=λe z=>by rw[z,d6]at e;cases e
 have f3:=s6 _ _ b31;nomatch d6,[(.inl t0,.ref b3),(.inl t1,.ref b4)],rfl,by simp
 have s47:ae H4 (upd H6 dq (.dK (eR [] [(.inl t0,.ref b3),(.inl t1,.ref b4)]))):=(w0.trans (s5.trans s6)).put hdq;nofun;refine⟨dq,_,bS t0 (ah 6) t1 (ah 7),rfl,aw,B1 (bh 6) (bh 7) (by rw[aE (ne6 f3)];exact f3) (by rw[aE (ne6 b41)];exact b41),λta H8 s8 ta0 hF=>?_⟩;have s48:=s47.trans s8;have s08:=s04.trans s48;have k9:∀ l∈bf (bS t0 (ah 6) t1 (ah 7)),l.length=9:=iP (λi=>bh i) (tR (bh 6) (bh 7));have ksm:∀ l∈bf (bS t0 (ah 6) t1 (ah 7)),Sm l:=iP (λi=>hU i) (tR (hU 6) (hU 7));have klen:=mO (bS t0 (ah 6) t1 (ah 7));generalize bf (bS t0 (ah 6) t1 (ah 7))=taking at hF k9 ksm klen q;obtain⟨dx,w1,w2,w3,w4,hp,r1,r2,r3,r4⟩:=hC;obtain⟨y1,rfl⟩:∃ b,w1=.ref b:=by unfold bx aq at r1;obtain⟨a,_,e,_⟩:=r1;exact⟨a,e⟩
 obtain⟨y2,rfl⟩:∃ b,w2=.ref b:=by unfold bx aq at r2;obtain⟨a,_,e,_⟩:=r2;exact⟨a,e⟩
 nofun;left;nofun;exists o,(C 7),dx,_,_,rfl,s08 _ _ hp,Z.PU,Z.P4,jM _ _ _ _;have hE8:=hE.same s48;refine⟨y1,ea,PJ,giving,rfl,aq.same s08 _ r1,hE8.rep,by have:=hg.n;omega,λl hl=>⟨hg.n9 l hl,mE esm⟩,elen,e9,λv H9 s9 n9=>?_⟩;have rv9:=ao.rep (K:=K) n9;obtain⟨ga,rfl⟩:∃ b,v=.ref b:=by obtain⟨b,_,e,_⟩:=ao.news n9;exact⟨b,e⟩
 nofun;have hN9:=hN.same (s08.trans s9);refine⟨ga,na,_,PF,rfl,rv9,hN9.rep,by simp;have:=hg.n;omega,by omega,λv1 Ha sa n1'=>?_⟩;have s0a:=s08.trans (s9.trans sa);nofun;refine⟨aa,ta,after,taking,rfl,aq.same s0a _ hA,(hF.same (s9.trans sa)).rep,by omega,λl hl=>⟨a9 l hl,mE ksm⟩,klen,k9,λv Hb sb nb=>?_⟩;have rvb:=ao.rep (K:=K) nb;obtain⟨ha,rfl⟩:∃ b,v=.ref b:=by obtain⟨b,_,e,_⟩:=ao.news nb;exact⟨b,e⟩
 have s0b:=s0a.trans sb;nofun;exists o,(C 7),dx,_,_,rfl,s0b _ _ hp,Z.PU,Z.P6,j9 _ _ _ _;refine⟨y2,ea,PB,giving,rfl,aq.same s0b _ r2,(hE8.same (s9.trans (sa.trans sb))).rep,by have:=hg.l;omega,λl hl=>⟨hg.l9 l hl,mE esm⟩,elen,e9,λv Hc sc nc=>?_⟩;obtain⟨la,rfl,la0,hL⟩:=nc.ls;have s0c:=s0b.trans sc;obtain⟨xs,hxs,lxs⟩:=(hN.same s0c).len;have hLl:=hL.len;obtain⟨bs,hbs,lbs,ibs⟩:=hL;rw[aV]at lbs;nofun;refine fi hxs hbs (bF (by rw[aV];have:=hg.l;omega)) λp7 hp7=>?_;have hM:=Ls.more (p:=p7) (bs:=bs) (ms:=PB.map λl=>bo l giving) (hN.same s0c) hxs (by rw[aV];exact lbs) ibs hp7;have t7:=aB hp7 (.lst (xs++bs.map V.ref));nofun;refine⟨ha,p7,_,PF++PB.map λl=>bo l giving,rfl,aq.same (sc.trans t7) _ rvb,hM.rep,by simp;omega,by simp;have:=hg.l;omega,λv2 Hd sd nd=>?_⟩;obtain⟨a1,vs1,fa1,rfl,z1,y1',r1',_⟩:=ao.lso n1';obtain⟨a2,vs2,fa2,rfl,z2,y2',r2',_⟩:=ao.lso nd;have l1:=r1'.length;have l2:=r2'.length;simp only[aV]at l1 l2;have sad:=sb.trans (sc.trans (t7.trans sd));nofun;refine fi (sad _ _ y1') y2' (bF (by have:=hg.n;omega)) λp8 hp8=>?_;exact q _ _ ((s0a.trans sad).trans (aB hp8 _)) (ao.cat (n1'.back (s08.trans s9)) s0a sad (nd.back (sb.trans (sc.trans t7))) (sad _ _ y1') y2' hp8)
theorem Lx{d:Addr}{k j:QS}(h:H a=some (.lst (l.map V.int)))(h':H c=some (.lst (k.map V.int)))(h2:H d=some (.lst (j.map V.int))):∀(i:Nat) b m,[a,c,d][i]?=some b->[l,k,j][i]?=some m->H b=some (.lst (m.map V.int)):=λi b m e1 e2=>by
 cases i with
 |zero=>simp at e1 e2;subst e1;subst e2;exact h
 |succ i=>exact mK h' h2 i b m (by simpa using e1) (by simpa using e2)
inductive AA (K:Fg)(vs:QV)(H:Hp)(Q:VK)(E:XK):Prop
 |mk (t na aa la:Addr) (h by':Int) (line:QS) (PF after:QT):vs=[.ref t,.ref na,.ref aa]->aH K H t [.str "part",.int h,.ref la,.int by']->H la=some (.lst (line.map V.int))->line.length=9->(-1000000<by'/\by'<1000000)->Ls H na PF->aq K H (bx after) (.ref aa)->PF.length<=100->after.length<=100->(∀ l∈after,l.length=9)->(∀ v H',ae H H'->ao H H' (.lst ((after.map λl=>bo l (bf (cA h (ah 6)))).map λg=>fG g (PF++[cp line by',al line by']))) v->Q v H')->AA K vs H Q E
include B Z Q5 Q3 Q5a Q56 Q58 Q5b in
theorem MW (F:aS K "part_duties" "part_duties" yg f fd)(m:mg "part_duties"=some (.ref f)):Fn P w K mg b8 "part_duties" ["deed","notes","after"] 4 (AA K):=by
 refine bR F pP m λ_ _ _ _ H vs Q E hr h=>?_;obtain⟨t,na,aa,la,h,by',line,PF,after,rfl,hT,P8,l9,hby,hN,hA,ln,lf,a9,q⟩:=h;refine⟨_,(az (js 3 pP.nd (jx K (pv 0) aj))
   (az (js 4 pP.nd (jx K (pv 0) aj))
   (az (js 5 pP.nd (jl Q5 hr (dJ (bv (jn 3 (bH (jl Q3 hr (dE (dS rfl B.Qk) ag)) ag))) (dJ (bv (jk (iE (dP dX (pv 4)) ag))) ag))))
   (az (js 6 pP.nd (jl Q5 hr (dJ (bv (bH (jl Q3 hr (dE (dS rfl B.Qk) ag)) (bH (jl Q5b hr (bN (aO mh (pv 4) aj) ag)) (jn 3 ag)))) (dJ (bv (jn 4 (jk (iE (dP dX aj) ag)))) ag))))
   (ay (aJ (jl Q56 hr (bH (jl Q58 hr (jn 2 (bH (jl Q5a hr (eL (oh (iZ (jx K (pv 0) aj) (jl Q3 hr (dE (dS rfl B.Qk) ag)) oi) rfl rfl (by simp) (by simp)) ag)) ag))) (bN (jp K (pv 1) (bv (jn 5 (jn 6 ag)))) ag))))))))),?_⟩
 left;nofun;refine aZ hT (v:=.ref la) (bJ (j:=2) rfl) ?_;nofun;left;nofun;refine aZ hT (v:=.int by') (bJ (j:=3) rfl) ?_;nofun;left;nofun;refine g6 λv H1 s1 n1=>?_;obtain⟨b1,rfl,b10,b11⟩:=ao.iif.mp n1;nofun;refine⟨(by right),λp hp=>?_⟩;have t1:=aB hp (.lst [V.ref la,.ref b1]);nofun;refine⟨(by right),λp2 hp2=>?_⟩;have t2:=aB hp2 (.lst [V.int 1,.int (-by')]);have s02:=s1.trans (t1.trans t2);nofun;refine⟨p,p2,[line,ah 6],[1,-by'],rfl,ot (bs:=[la,b1]) (t2 _ _ aw) rfl (mK (s02 _ _ P8) ((t1.trans t2) _ _ b11)),ar.of aw,rfl,by simp,λl hl=>?_,λi l w _ e2 n _=>?_,λv H3 s3 n3=>?_⟩
 ·simp at hl;rcases hl with rfl|rfl
  ·exact l9
  ·exact bh 6
 ·have:w=1\/w=-by':=by have:=bT e2;simp at this;exact this
  rcases this with z|z<;>subst z<;>exact .inr ⟨by omega,by omega⟩
 obtain⟨fa,rfl,fa0,fa1⟩:=ao.iif.mp n3;have s03:=s02.trans s3;nofun;left;nofun;refine g6 λv H4 s4 n4=>?_;obtain⟨b2,rfl,b20,b21⟩:=ao.iif.mp n4;nofun;refine nU λv H5 s5 n5=>?_;obtain⟨c2,rfl,c20,c21⟩:=ao.iif.mp n5;nofun;refine⟨(by right),λp3 hp3=>?_⟩;have t3:=aB hp3 (.lst [V.ref b2,.ref c2,.ref la]);nofun;refine⟨(by right),λp4 hp4=>?_⟩;have t4:=aB hp4 (.lst [V.int by',.int 1,.int (-1)]);have s35:=s4.trans (s5.trans (t3.trans t4));nofun;refine⟨p3,p4,[ah 6,kL (by' - 1),line],[by',1,-1],rfl,ot (bs:=[b2,c2,la]) (t4 _ _ aw) rfl (Lx ((s5.trans (t3.trans t4)) _ _ b21) ((t3.trans t4) _ _ c21) ((s03.trans s35) _ _ P8)),ar.of aw,rfl,by simp,λl hl=>?_,λi l w _ e2 n _=>?_,λv H6 s6 n6=>?_⟩
 ·simp at hl;rcases hl with rfl|rfl|rfl
  ·exact bh 6
  ·exact fM _
  ·exact l9
 ·have:w=by'\/w=1\/w=-1:=by have:=bT e2;simp at this;exact this
  rcases this with z|z|z<;>subst z<;>exact .inr ⟨by omega,by omega⟩
 obtain⟨ta,rfl,ta0,ta1⟩:=ao.iif.mp n6;have s36:=s35.trans s6;have s06:=s03.trans s36;nofun;refine nN λdp hdp=>?_;have u0:=aB hdp (.dK []);nofun;refine aZ ((s06.trans u0).tup hT) (v:=.int h) (bJ (j:=1) rfl) ?_;nofun;refine g6 λv H7 s7 n7=>?_;obtain⟨b3,rfl,b30,b31⟩:=ao.iif.mp n7;nofun;nomatch s7 _ _ aw,[(.inl h,.ref b3)],rfl,by simp
 have b3d:b3≠dp:=λz=>by rw[z,aw]at b30;cases b30
 have s67:ae H6 (upd H7 dp (.dK (eR [] [(.inl h,.ref b3)]))):=(u0.trans s7).put hdp;have s07:=s06.trans s67;nofun;refine⟨dp,_,cA h (ah 6),rfl,aw,vI (bh 6) (by rw[aE b3d];exact b31),λea H8 s8 ea0 hE=>?_⟩;have s08:=s07.trans s8;have m9:∀ l∈bf (cA h (ah 6)),l.length=9:=iP (λi=>bh i) (nV (bh 6));have msm:∀ l∈bf (cA h (ah 6)),Sm l:=iP (λi=>hU i) (nV (hU 6));nofun;refine⟨aa,ea,after,bf (cA h (ah 6)),rfl,aq.same s08 _ hA,hE.rep,by omega,λl hl=>⟨a9 l hl,mE msm⟩,mO _,m9,λv H9 s9 n9=>?_⟩;have gv:=ao.rep (K:=K) n9;obtain⟨ga,rfl⟩:∃ b,v=.ref b:=by obtain⟨b,_,e,_⟩:=ao.news n9;exact⟨b,e⟩
 have s09:=s08.trans s9;have s69:=s67.trans (s8.trans s9);nofun;refine⟨(by right),λp5 hp5=>?_⟩;have t5:=aB hp5 (.lst [V.ref fa,.ref ta]);obtain⟨xs,hxs,lxs⟩:=(hN.same s09).len;nofun;refine fi (t5 _ _ hxs) aw (bF (by simp;omega)) λp6 hp6=>?_;have hL:=Ls.more (p:=p6) (bs:=[fa,ta]) (ms:=[cp line by',al line by']) ((hN.same s09).same t5) (t5 _ _ hxs) rfl (mK (t5 _ _ (s69 _ _ (s36 _ _ fa1))) (t5 _ _ (s69 _ _ ta1))) hp6;have t6:=aB hp6 (.lst (xs++[V.ref fa,.ref ta]));have t56:=t5.trans t6;nofun;refine⟨ga,p6,_,PF++[cp line by',al line by'],rfl,aq.same t56 _ gv,hL.rep,by simp;omega,by simp;omega,λv Ha sa na'=>?_⟩;exact q _ _ (s09.trans (t56.trans sa)) (na'.back (s09.trans t56))
inductive Az (K:Fg)(vs:QV)(H:Hp)(Q:VK)(E:XK):Prop
 |mk (t na aa:Addr) (h lo hi:Int) (PF after:QT):vs=[.ref t,.ref na,.ref aa]->aH K H t [.str "draw",.int h,.int lo,.int hi]->Ls H na PF->aq K H (bx after) (.ref aa)->PF.length<=100->after.length<=100->(∀ l∈after,l.length=9)->(∀ v H',ae H H'->ao H H' (.lst ((after.map λl=>bo l (bf (cA h (ah 6)))).map λg=>fG g (PF++[cI lo,cJ hi]))) v->Q v H')->Az K vs H Q E
include B Z Q5 Q3 Q5a Q56 Q58 Q5b in
theorem MV (F:aS K "draw_duties" "draw_duties" yf f fd)(m:mg "draw_duties"=some (.ref f)):Fn P w K mg b8 "draw_duties" ["deed","notes","after"] 4 (Az K):=by
 refine bR F yB m λ_ _ _ _ H vs Q E hr h=>?_;obtain⟨t,na,aa,h,lo,hi,PF,after,rfl,hT,hN,hA,ln,lf,a9,q⟩:=h;refine⟨_,(az (js 3 yB.nd (jl Q5 hr (dJ (bv (bH (jl Q3 hr (dE (dS rfl B.Qk) ag)) (bH (jl Q5b hr (bn (jx K (pv 0) aj) ag)) ag))) (dJ (bv (jk (iE (dP dX aj) ag))) ag))))
   (az (js 4 yB.nd (jl Q5 hr (dJ (bv (bH (jl Q5b hr (bn (jx K (pv 0) aj) ag)) (bH (jl Q3 hr (dE (dS rfl B.Qk) ag)) ag))) (dJ (bv (jk (iE (dP dX aj) ag))) ag))))
   (ay (aJ (jl Q56 hr (bH (jl Q58 hr (jn 2 (bH (jl Q5a hr (eL (oh (iZ (jx K (pv 0) aj) (jl Q3 hr (dE (dS rfl B.Qk) ag)) oi) rfl rfl (by simp) (by simp)) ag)) ag))) (bN (jp K (pv 1) (bv (jn 3 (jn 4 ag)))) ag))))))),?_⟩
 obtain⟨c6,hc6⟩:=B.Qk;left;nofun;refine g6 λv H1 s1 n1=>?_;obtain⟨b1,rfl,b10,b11⟩:=ao.iif.mp n1;nofun;refine aZ (s1.tup hT) (v:=.int lo) (bJ (j:=2) rfl) ?_;nofun;refine nU λv H2 s2 n2=>?_;obtain⟨c1,rfl,c10,c11⟩:=ao.iif.mp n2;nofun;refine⟨(by right),λp hp=>?_⟩;have t1:=aB hp (.lst [V.ref b1,.ref c1]);nofun;refine⟨(by right),λp2 hp2=>?_⟩;have t2:=aB hp2 (.lst [V.int 1,.int (-1)]);have s02:=s1.trans (s2.trans (t1.trans t2));nofun;refine⟨p,p2,[ah 6,kL lo],[1,-1],rfl,ot (bs:=[b1,c1]) (t2 _ _ aw) rfl (mK ((s2.trans (t1.trans t2)) _ _ b11) ((t1.trans t2) _ _ c11)),ar.of aw,rfl,by simp,λl hl=>?_,λi l w _ e2 n _=>?_,λv H3 s3 n3=>?_⟩
 ·simp at hl;rcases hl with rfl|rfl
  ·exact bh 6
  ·exact fM lo
 ·have:w=1\/w=-1:=by have:=bT e2;simp at this;exact this
  rcases this with z|z<;>subst z<;>exact .inr ⟨by decide,by decide⟩
 obtain⟨fa,rfl,fa0,fa1⟩:=ao.iif.mp n3;have s03:=s02.trans s3;nofun;left;nofun;refine aZ (s03.tup hT) (v:=.int hi) (bJ (j:=3) rfl) ?_;nofun;refine nU λv H4 s4 n4=>?_;obtain⟨c2,rfl,c20,c21⟩:=ao.iif.mp n4;nofun;refine g6 λv H5 s5 n5=>?_;obtain⟨b2,rfl,b20,b21⟩:=ao.iif.mp n5;nofun;refine⟨(by right),λp3 hp3=>?_⟩;have t3:=aB hp3 (.lst [V.ref c2,.ref b2]);nofun;refine⟨(by right),λp4 hp4=>?_⟩;have t4:=aB hp4 (.lst [V.int 1,.int (-1)]);have s35:=s4.trans (s5.trans (t3.trans t4));nofun;refine⟨p3,p4,[kL hi,ah 6],[1,-1],rfl,ot (bs:=[c2,b2]) (t4 _ _ aw) rfl (mK ((s5.trans (t3.trans t4)) _ _ c21) ((t3.trans t4) _ _ b21)),ar.of aw,rfl,by simp,λl hl=>?_,λi l w _ e2 n _=>?_,λv H6 s6 n6=>?_⟩
 ·simp at hl;rcases hl with rfl|rfl
  ·exact fM hi
  ·exact bh 6
 ·have:w=1\/w=-1:=by have:=bT e2;simp at this;exact this
  rcases this with z|z<;>subst z<;>exact .inr ⟨by decide,by decide⟩
 obtain⟨ta,rfl,ta0,ta1⟩:=ao.iif.mp n6;have s36:=s35.trans s6;have s06:=s03.trans s36;nofun;refine nN λdp hdp=>?_;have u0:=aB hdp (.dK []);nofun;refine aZ ((s06.trans u0).tup hT) (v:=.int h) (bJ (j:=1) rfl) ?_;nofun;refine g6 λv H7 s7 n7=>?_;obtain⟨b3,rfl,b30,b31⟩:=ao.iif.mp n7;nofun;nomatch s7 _ _ aw,[(.inl h,.ref b3)],rfl,by simp
 have b3d:b3≠dp:=λz=>by rw[z,aw]at b30;cases b30
 have s67:ae H6 (upd H7 dp (.dK (eR [] [(.inl h,.ref b3)]))):=(u0.trans s7).put hdp;have s07:=s06.trans s67;nofun;refine⟨dp,_,cA h (ah 6),rfl,aw,vI (bh 6) (by rw[aE b3d];exact b31),λea H8 s8 ea0 hE=>?_⟩;have s08:=s07.trans s8;have m9:∀ l∈bf (cA h (ah 6)),l.length=9:=iP (λi=>bh i) (nV (bh 6));have msm:∀ l∈bf (cA h (ah 6)),Sm l:=iP (λi=>hU i) (nV (hU 6));nofun;refine⟨aa,ea,after,bf (cA h (ah 6)),rfl,aq.same s08 _ hA,hE.rep,by omega,λl hl=>⟨a9 l hl,mE msm⟩,mO _,m9,λv H9 s9 n9=>?_⟩;have gv:=ao.rep (K:=K) n9;obtain⟨ga,rfl⟩:∃ b,v=.ref b:=by obtain⟨b,_,e,_⟩:=ao.news n9;exact⟨b,e⟩
 have s09:=s08.trans s9;have s69:=s67.trans (s8.trans s9);nofun;refine⟨(by right),λp5 hp5=>?_⟩;have t5:=aB hp5 (.lst [V.ref fa,.ref ta]);obtain⟨xs,hxs,lxs⟩:=(hN.same s09).len;nofun;refine fi (t5 _ _ hxs) aw (bF (by simp;omega)) λp6 hp6=>?_;have hL:=Ls.more (p:=p6) (bs:=[fa,ta]) (ms:=[cI lo,cJ hi]) ((hN.same s09).same t5) (t5 _ _ hxs) rfl (mK (t5 _ _ (s69 _ _ (s36 _ _ fa1))) (t5 _ _ (s69 _ _ ta1))) hp6;have t6:=aB hp6 (.lst (xs++[V.ref fa,.ref ta]));have t56:=t5.trans t6;nofun;refine⟨ga,p6,_,PF++[cI lo,cJ hi],rfl,aq.same t56 _ gv,hL.rep,by simp;omega,by simp;omega,λv Ha sa na'=>?_⟩;exact q _ _ (s09.trans (t56.trans sa)) (na'.back (s09.trans t56))
inductive Ay (K:Fg)(vs:QV)(H:Hp)(Q:VK)(E:XK):Prop
 |mk (la na ta aa:Addr) (line:QS) (PF there after:QT):vs=[.ref la,.ref na,.ref ta,.ref aa]->H la=some (.lst (line.map V.int))->line.length=9->Ls H na PF->aq K H (bx there) (.ref ta)->aq K H (bx after) (.ref aa)->PF.length<=100->there.length<=100->after.length<=100->(∀ v H',ae H H'->ao H H' (.lst ((there.map λg=>fG g (PF++[line]))++after.map λg=>fG g (PF++[iI line]))) v->Q v H')->Ay K vs H Q E
include B Z Q5 Q56 Q5b in
theorem MU (F:aS K "turn_duties" "turn_duties" ye f fd)(m:mg "turn_duties"=some (.ref f)):Fn P w K mg b8 "turn_duties" ["line","notes","there","after"] 3 (Ay K):=by
 refine bR F ES m λ_ _ _ _ H vs Q E hr h=>?_;obtain⟨la,na,ta,aa,line,PF,there,after,rfl,P8,l9,hN,hT,hA,ln,lt,lf,q⟩:=h;refine⟨_,(az (js 4 ES.nd (jl Q5 hr (dJ (bv (jn 0 (bH (jl Q5b hr (jk ag)) ag))) (dJ (bv (iE (dP dX aj) (iE (dP dX aj) ag))) ag))))
   (ay (aJ (jp K (jl Q56 hr (jn 2 (bN (jp K (pv 1) (bv (jn 0 ag))) ag))) (jl Q56 hr (jn 3 (bN (jp K (pv 1) (bv (jn 4 ag))) ag))))))),?_⟩
 left;nofun;refine nU λv H1 s1 n1=>?_;obtain⟨ca,rfl,ca0,ca1⟩:=ao.iif.mp n1;nofun;refine⟨(by right),λp hp=>?_⟩;have t1:=aB hp (.lst [V.ref la,.ref ca]);nofun;refine⟨(by right),λp2 hp2=>?_⟩;have t2:=aB hp2 (.lst [V.int (-1),.int (-1)]);have s12:=s1.trans (t1.trans t2);nofun;refine⟨p,p2,[line,kL 1],[-1,-1],rfl,ot (bs:=[la,ca]) (t2 _ _ aw) rfl (mK (s12 _ _ P8) ((t1.trans t2) _ _ ca1)),ar.of aw,rfl,by simp,λl hl=>?_,λi l w _ e2 n _=>?_,λv H2 s2 n2=>?_⟩
 ·simp at hl;rcases hl with rfl|rfl
  ·exact l9
  ·exact fM 1
 ·have:w=-1:=by have:=bT e2;simp at this;exact this
  subst this;exact .inr ⟨by decide,by decide⟩
 obtain⟨ba,rfl,ba0,ba1⟩:=ao.iif.mp n2;have sA:=s12.trans s2;obtain⟨xs,hxs,lxs⟩:=(hN.same sA).len;nofun;refine⟨(by right),λp3 hp3=>?_⟩;have t3:=aB hp3 (.lst [V.ref la]);nofun;refine fi (t3 _ _ hxs) aw (bF (by simp;omega)) λp4 hp4=>?_;have hL4:=Ls.more (p:=p4) (bs:=[la]) (ms:=[line]) ((hN.same sA).same t3) (t3 _ _ hxs) rfl (tW (t3 _ _ (sA _ _ P8))) hp4;have t4:=aB hp4 (.lst (xs++[V.ref la]));have sB:=sA.trans (t3.trans t4);nofun;refine⟨ta,p4,there,PF++[line],rfl,aq.same sB _ hT,hL4.rep,by omega,by simp;omega,λv1 H3 s3 n3=>?_⟩;have sC:=sB.trans s3;have sAC:=(t3.trans t4).trans s3;nofun;refine⟨(by right),λp5 hp5=>?_⟩;have t5:=aB hp5 (.lst [V.ref ba]);nofun;refine fi (t5 _ _ (sAC _ _ hxs)) aw (bF (by simp;omega)) λp6 hp6=>?_;have hL6:=Ls.more (p:=p6) (bs:=[ba]) (ms:=[iI line]) ((hN.same sC).same t5) (t5 _ _ (sAC _ _ hxs)) rfl (tW (t5 _ _ (sAC _ _ ba1))) hp6;have t6:=aB hp6 (.lst (xs++[V.ref ba]));have t56:=t5.trans t6;nofun;refine⟨aa,p6,after,PF++[iI line],rfl,aq.same (sC.trans t56) _ hA,hL6.rep,by omega,by simp;omega,λv2 H4 s4 n4=>?_⟩;obtain⟨a1,vs1,f1,rfl,z1,y1,r1,_⟩:=ao.lso n3;obtain⟨a2,vs2,f2,rfl,z2,y2,r2,_⟩:=ao.lso n4;have l1:=r1.length;have l2:=r2.length;simp only[aV]at l1 l2;have sD:=t56.trans s4;nofun;refine fi (sD _ _ y1) y2 (bF (by omega)) λp7 hp7=>?_;exact q _ _ ((sC.trans sD).trans (aB hp7 _)) (ao.cat (n3.back sB) sC sD (n4.back t56) (sD _ _ y1) y2 hp7)
theorem HZ:decide (("part":Str)="set")=false/\decide (("draw":Str)="set")=false/\decide (("draw":Str)="part")=false/\decide (("turn":Str)="set")=false/\decide (("turn":Str)="part")=false/\decide (("turn":Str)="draw")=false/\decide (("hold":Str)="set")=false/\decide (("hold":Str)="part")=false/\decide (("hold":Str)="draw")=false/\decide (("hold":Str)="turn")=false/\decide (("call":Str)="set")=false/\decide (("call":Str)="part")=false/\decide (("call":Str)="draw")=false/\decide (("call":Str)="turn")=false/\decide (("call":Str)="hold")=false:=by decide+kernel
inductive AB (K:Fg)(C:Nat->Addr)(vs:QV)(H:Hp)(Q:VK)(E:XK):Prop
 |mk (p ca:Addr) (place:Nat) (PJ PB:QT) (PD:List Dd) (PF:QU) (kvs:List (bp×V)) (oath:df) (d:Dd):vs=[.ref p,.int place,.ref ca]->iV K (C 7) H p PJ PB PD PF->fY PJ PB PD.length PF->PD[place]?=some d->oE PD.length d->H ca=some (.dK kvs)->calls K (C 7) H kvs oath d->(∀ v H',ae H H'->ao H H' (.lst (j6 (aG PB PF place) (aG PB PF (place+1)) (aG PB PF) oath d)) v->Q v H')->AB K C vs H Q E
include B Z Q5a Q56 Q58 Q47 in
theorem MT (Q54:Fn P w K mg b8 "call_duties" ["deed","notes","after","other"] 4 (Ax K C))(Q4e:Fn P w K mg b8 "part_duties" ["deed","notes","after"] 4 (AA K))(Q50:Fn P w K mg b8 "draw_duties" ["deed","notes","after"] 4 (Az K))(Q52:Fn P w K mg b8 "turn_duties" ["line","notes","there","after"] 3 (Ay K))(F:aS K "deed_duties" "deed_duties" yh f fd)(m:mg "deed_duties"=some (.ref f)):Fn P w K mg b8 "deed_duties" ["craft","place","crafts"] 5 (AB K C):=by
 refine bR F pQ m λ_ _ _ _ H vs Q E hr h=>?_;obtain⟨p,ca,place,PJ,PB,PD,PF,kvs,oath,d,rfl,hT,hg,hd,ok,hca,hcl,q⟩:=h;refine⟨_,(az (js 3 pQ.nd (jx K (jf K 0) (pv 1)))
   (az (js 4 pQ.nd (jl Q47 hr (jn 0 (jn 1 ag))))
   (az (js 5 pQ.nd (jl Q47 hr (jn 0 (bN (jp K (pv 1) aj) ag))))
   (az (js 6 pQ.nd (jx K (pv 3) aj))
   (az (bq (jt K hr (pv 6) bY) (ay (aJ (jl Q56 hr (bH (jl Q58 hr (jn 5 (bH (jl Q5a hr (eL (oh (iZ (jx K (pv 3) aj) (jx K (pv 3) aj) oi) rfl rfl (by simp) (by simp)) ag)) ag))) (jn 4 ag))))) bE)
   (az (bq (jt K hr (pv 6) bY) (ay (aJ (jl Q4e hr (jn 3 (jn 4 (jn 5 ag)))))) bE)
   (az (bq (jt K hr (pv 6) bY) (ay (aJ (jl Q50 hr (jn 3 (jn 4 (jn 5 ag)))))) bE)
   (az (bq (jt K hr (pv 6) bY) (ay (aJ (jl Q52 hr (bn (jx K (pv 3) aj) (jn 4 (bH (jl Q47 hr (jn 0 (bn (jx K (pv 3) aj) ag))) (jn 5 ag))))))) bE)
   (az (bq (jt K hr (pv 6) bY) (ay (aJ (jp K (jl Q56 hr (dJ (bv (bn (jx K (pv 3) aj) ag)) (jn 4 ag))) (jl Q56 hr (jn 5 (bN (jp K (pv 4) (bv (bn (jx K (pv 3) aj) ag))) ag)))))) bE)
   (ay (aJ (jl Q54 hr (jn 3 (jn 4 (jn 5 (bn (ly (cu hr) (pv 2) (jx K (pv 3) aj) (λ_ _=>rfl)) ag)))))))))))))))),?_⟩
 obtain⟨k1,k2,k3,k4,k5,k6,k7,k8,k9,k10,k11,k12,k13,k14,k15⟩:=HZ;have lp:place<PD.length:=(dF.mp hd).1;obtain⟨hC,dx,w1,w2,bd,w4,P9,hp,hbd,hD⟩:=hT;obtain⟨x,hx,rx⟩:=R2.get hD lp;rw[NQ lp]at hd;cases hd;generalize hdd:PD[place]=d at rx ok hcl q;obtain⟨t,ys,rfl,htup⟩:=Ck rx;left;nofun;exists p,(C 7),dx,_,_,rfl,hp,Z.PU,Z.PZ,ip _ _ _ _;refine bW (ar.of hbd) (v:=.ref t) (bJ hx) ?_;nofun;have due:∀{Hx:Hp}{Q':VK}(k:Int),ae H Hx->0<=k->k<=(PD.length:Int)->(∀ a H',ae Hx H'->Hx a=none->Ls H' a (aG PB PF k)->Q' (.ref a) H')->uV K C [.ref p,.int k] Hx Q' E0:=λ{Hx Q'} k s k0 kn hq=>
  ⟨p,k,PJ,PB,PD.map dv,PF,rfl,hC.same s,k0,by rw[aV];exact kn,by rw[aV];exact hg.dn,by rw[aV];have:=hg.d;omega,by have:=hg.l;omega,hg.l9,λls hl=>by have:=(hg.o ls hl).1;omega,λv H' s' n'=>by obtain⟨a,rfl,a0,hL⟩:=n'.ls;exact hq a H' s' a0 hL⟩
 left;nofun;refine due _ (ae.refl _) (by omega) (by omega) λna H1 s1 na0 hN=>?_;nofun;left;nofun;refine due _ s1 (by omega) (by omega) λaa H2 s2 aa0 hA=>?_;have s02:=s1.trans s2;have hN2:=hN.same s2;have gN:=hg.due (place:Int);have gA:=hg.due ((place:Int)+1);have h2:=s02 _ _ htup;nofun;left;nofun;refine aZ (aH.of h2) dU ?_;nofun;have rx2:jJ H2 (dv d) (.ref t):=rx.sq s02.sq;generalize aG PB PF (place:Int)=N at hN2 gN q;generalize aG PB PF ((place:Int)+1)=A at hA gA q;cases d with
 |set h l=>
  refine fz λG kG=>?_;obtain⟨t',xs,et,hT2,px⟩:=gJ rx2;cases et;obtain⟨x0,r,rfl,e0,px⟩:=b9 px;obtain⟨x1,r,rfl,e1,px⟩:=b9 px;obtain⟨x2,r,rfl,e2,px⟩:=b9 px;cases i4 px;cases ij e0;cases fU e1;obtain⟨b2,rfl,hb2⟩:=lI e2;refine kG ?_;with_reducible refine o7 (λQ2 q2=>?_) (λNX=>?_)
  ·nofun;rw[N0 (show eJ (Dd.set h l)="set" from rfl)];exact q2
  nofun;refine nN λdp hdp=>?_;have u0:=aB hdp (.dK []);nofun;refine aZ (aH.of (u0 _ _ hT2)) (v:=.int h) (bJ (j:=1) rfl) ?_;nofun;refine aZ (aH.of (u0 _ _ hT2)) (v:=.ref b2) (bJ (j:=2) rfl) ?_;nofun;nomatch aw,[(.inl h,.ref b2)],rfl,by simp
  have s23:ae H2 (upd (upd H2 dp (.dK [])) dp (.dK (eR [] [(.inl h,.ref b2)]))):=u0.put hdp;nofun;refine⟨dp,_,cA h l,rfl,aw,vI ok.1 (s23 _ _ hb2),λea H4 s4 ea0 hE=>?_⟩;have s24:=s23.trans s4;nofun;refine⟨aa,ea,A,bf (cA h l),rfl,(hA.same s24).rep,hE.rep,by omega,λz hz=>⟨gA.2 z hz,mE (iP (λi=>hU i) (nV ok.2))⟩,mO _,iP (λi=>bh i) (nV ok.1),λv H5 s5 n5=>?_⟩;have rv:=ao.rep (K:=K) n5;obtain⟨ga,rfl⟩:∃ b,v=.ref b:=by obtain⟨b,_,e,_⟩:=ao.news n5;exact⟨b,e⟩
  have s25:=s24.trans s5;nofun;refine⟨ga,na,_,N,rfl,rv,(hN2.same s25).rep,by simp;omega,by omega,λv H6 s6 n6=>?_⟩;exact q _ _ (s02.trans (s25.trans s6)) (n6.back (s02.trans s25))
 |part h l b=>
  refine fz λG kG=>?_;obtain⟨t',xs,et,hT2,px⟩:=gJ rx2;cases et;obtain⟨x0,r,rfl,e0,px⟩:=b9 px;obtain⟨x1,r,rfl,e1,px⟩:=b9 px;obtain⟨x2,r,rfl,e2,px⟩:=b9 px;obtain⟨x3,r,rfl,e3,px⟩:=b9 px;cases i4 px;cases ij e0;cases fU e1;obtain⟨b2,rfl,hb2⟩:=lI e2;cases fU e3;refine kG ?_;with_reducible refine gx (λQ2 q2=>?_) ?_
  ·nofun;rw[show decide (eJ (Dd.part h l b)="set")=false from k1];exact q2
  with_reducible refine o7 (λQ2 q2=>?_) (λNX=>?_)
  ·nofun;rw[N0 (show eJ (Dd.part h l b)="part" from rfl)];exact q2
  nofun;refine⟨t,na,aa,b2,h,b,l,N,A,rfl,aH.of hT2,hb2,ok.1,ok.2,hN2,hA.rep,by omega,by omega,gA.2,λv H3 s3 n3=>?_⟩;exact q _ _ (s02.trans s3) (n3.back s02)
 |draw h lo hi=>
  refine fz λG kG=>?_;obtain⟨t',xs,et,hT2,px⟩:=gJ rx2;cases et;obtain⟨x0,r,rfl,e0,px⟩:=b9 px;obtain⟨x1,r,rfl,e1,px⟩:=b9 px;obtain⟨x2,r,rfl,e2,px⟩:=b9 px;obtain⟨x3,r,rfl,e3,px⟩:=b9 px;cases i4 px;cases ij e0;cases fU e1;cases fU e2;cases fU e3;refine kG ?_;with_reducible refine gx (λQ2 q2=>?_) ?_
  ·nofun;rw[show decide (eJ (Dd.draw h lo hi)="set")=false from k2];exact q2
  with_reducible refine gx (λQ2 q2=>?_) ?_
  ·nofun;rw[show decide (eJ (Dd.draw h lo hi)="part")=false from k3];exact q2
  with_reducible refine o7 (λQ2 q2=>?_) (λNX=>?_)
  ·nofun;rw[N0 (show eJ (Dd.draw h lo hi)="draw" from rfl)];exact q2
  nofun;refine⟨t,na,aa,h,lo,hi,N,A,rfl,aH.of hT2,hN2,hA.rep,by omega,by omega,gA.2,λv H3 s3 n3=>?_⟩;exact q _ _ (s02.trans s3) (n3.back s02)
 |turn l p2=>
  refine fz λG kG=>?_;obtain⟨t',xs,et,hT2,px⟩:=gJ rx2;cases et;obtain⟨x0,r,rfl,e0,px⟩:=b9 px;obtain⟨x1,r,rfl,e1,px⟩:=b9 px;obtain⟨x2,r,rfl,e2,px⟩:=b9 px;cases i4 px;cases ij e0;obtain⟨b1,rfl,hb1⟩:=lI e1;cases fU e2;refine kG ?_;with_reducible refine gx (λQ2 q2=>?_) ?_
  ·nofun;rw[show decide (eJ (Dd.turn l p2)="set")=false from k4];exact q2
  with_reducible refine gx (λQ2 q2=>?_) ?_
  ·nofun;rw[show decide (eJ (Dd.turn l p2)="part")=false from k5];exact q2
  with_reducible refine gx (λQ2 q2=>?_) ?_
  ·nofun;rw[show decide (eJ (Dd.turn l p2)="draw")=false from k6];exact q2
  with_reducible refine o7 (λQ2 q2=>?_) (λNX=>?_)
  ·nofun;rw[N0 (show eJ (Dd.turn l p2)="turn" from rfl)];exact q2
  nofun;refine aZ (aH.of hT2) (v:=.ref b1) (bJ (j:=1) rfl) ?_;nofun;refine aZ (aH.of hT2) (v:=.int p2) (bJ (j:=2) rfl) ?_;nofun;refine due _ s02 ok.2.1 ok.2.2 λta H3 s3 ta0 hTh=>?_;have gT:=hg.due p2;have s03:=s02.trans s3;nofun;refine⟨b1,na,ta,aa,l,N,_,A,rfl,s3 _ _ hb1,ok.1,hN2.same s3,hTh.rep,(hA.same s3).rep,by omega,by omega,by omega,λv H4 s4 n4=>?_⟩;exact q _ _ (s03.trans s4) (n4.back s03)
 |hold l=>
  refine fz λG kG=>?_;obtain⟨t',xs,et,hT2,px⟩:=gJ rx2;cases et;obtain⟨x0,r,rfl,e0,px⟩:=b9 px;obtain⟨x1,r,rfl,e1,px⟩:=b9 px;cases i4 px;cases ij e0;obtain⟨b1,rfl,hb1⟩:=lI e1;refine kG ?_;with_reducible refine gx (λQ2 q2=>?_) ?_
  ·nofun;rw[show decide (eJ (Dd.hold l)="set")=false from k7];exact q2
  with_reducible refine gx (λQ2 q2=>?_) ?_
  ·nofun;rw[show decide (eJ (Dd.hold l)="part")=false from k8];exact q2
  with_reducible refine gx (λQ2 q2=>?_) ?_
  ·nofun;rw[show decide (eJ (Dd.hold l)="draw")=false from k9];exact q2
  with_reducible refine gx (λQ2 q2=>?_) ?_
  ·nofun;rw[show decide (eJ (Dd.hold l)="turn")=false from k10];exact q2
  with_reducible refine o7 (λQ2 q2=>?_) (λNX=>?_)
  ·nofun;rw[N0 (show eJ (Dd.hold l)="hold" from rfl)];exact q2
  nofun;refine aZ (aH.of hT2) (v:=.ref b1) (bJ (j:=1) rfl) ?_;nofun;refine⟨(by right),λp3 hp3=>?_⟩;have t3:=aB hp3 (.lst [V.ref b1]);nofun;refine⟨p3,na,[l],N,rfl,ot (bs:=[b1]) aw rfl (tW (t3 _ _ hb1)),(hN2.same t3).rep,by simp,by omega,λv1 H3 s3 n3=>?_⟩;have s23:=t3.trans s3;nofun;refine aZ (aH.of (s23 _ _ hT2)) (v:=.ref b1) (bJ (j:=1) rfl) ?_;nofun;refine⟨(by right),λp5 hp5=>?_⟩;have t5:=aB hp5 (.lst [V.ref b1]);obtain⟨xs,hxs,lxs⟩:=(hN2.same s23).len;nofun;refine fi (t5 _ _ hxs) aw (bF (by simp;omega)) λp6 hp6=>?_;have hL6:=Ls.more (p:=p6) (bs:=[b1]) (ms:=[l]) ((hN2.same s23).same t5) (t5 _ _ hxs) rfl (tW (t5 _ _ (s23 _ _ hb1))) hp6;have t6:=aB hp6 (.lst (xs++[V.ref b1]));have t56:=t5.trans t6;nofun;refine⟨aa,p6,A,N++[l],rfl,(hA.same (s23.trans t56)).rep,hL6.rep,by omega,by simp;omega,λv2 H4 s4 n4=>?_⟩;obtain⟨a1,vs1,f1,rfl,z1,y1,r1,_⟩:=ao.lso n3;obtain⟨a2,vs2,f2,rfl,z2,y2,r2,_⟩:=ao.lso n4;have l1:=r1.length;have l2:=r2.length;simp only[aV]at l1 l2;have sD:=t56.trans s4;nofun;refine fi (sD _ _ y1) y2 (bF (by simp at l1;omega)) λp7 hp7=>?_;exact q _ _ ((s02.trans (s23.trans sD)).trans (aB hp7 _)) (ao.cat (n3.back (s02.trans t3)) (s02.trans s23) sD (n4.back t56) (sD _ _ y1) y2 hp7)
 |call m g0 g1 t0 t1=>
  refine fz λG kG=>?_;obtain⟨t',xs,et,hT2,px⟩:=gJ rx2;cases et;obtain⟨x0,r,rfl,e0,px⟩:=b9 px;obtain⟨x1,r,rfl,e1,px⟩:=b9 px;obtain⟨x2,r,rfl,e2,px⟩:=b9 px;obtain⟨x3,r,rfl,e3,px⟩:=b9 px;cases i4 px;cases ij e0;cases fU e1;obtain⟨b2,rfl,hb2⟩:=uz e2;obtain⟨b3,rfl,hb3⟩:=uz e3;refine kG ?_;with_reducible refine gx (λQ2 q2=>?_) ?_
  ·nofun;rw[show decide (eJ (Dd.call m g0 g1 t0 t1)="set")=false from k11];exact q2
  with_reducible refine gx (λQ2 q2=>?_) ?_
  ·nofun;rw[show decide (eJ (Dd.call m g0 g1 t0 t1)="part")=false from k12];exact q2
  with_reducible refine gx (λQ2 q2=>?_) ?_
  ·nofun;rw[show decide (eJ (Dd.call m g0 g1 t0 t1)="draw")=false from k13];exact q2
  with_reducible refine gx (λQ2 q2=>?_) ?_
  ·nofun;rw[show decide (eJ (Dd.call m g0 g1 t0 t1)="turn")=false from k14];exact q2
  with_reducible refine gx (λQ2 q2=>?_) ?_
  ·nofun;rw[show decide (eJ (Dd.call m g0 g1 t0 t1)="hold")=false from k15];exact q2
  obtain⟨o,od,ons,hv,hO,hgo⟩:=hcl;nofun;refine aZ (aH.of hT2) (v:=.int m) (bJ (j:=1) rfl) ?_;nofun;refine⟨ca,.ref o,rfl,by rw[<-hv];exact bj.k (k:=.inl m) (s02 _ _ hca),?_⟩;nofun;refine⟨t,na,aa,o,b2,b3,m,g0,g1,t0,t1,N,A,_,_,od,ons,rfl,aH.of hT2,aH.of hb2,aH.of hb3,hN2,hA.rep,by omega,by omega,gN.2,gA.2,hO.same s02,hgo,λv H3 s3 n3=>?_⟩;exact q _ _ (s02.trans s3) (n3.back s02)
inductive AD (K:Fg)(C:Nat->Addr)(vs:QV)(H:Hp)(Q:VK)(E:XK):Prop
  |mk (p ca:Addr) (PJ PB:QT) (PD:List Dd) (PF:QU) (kvs:List (bp×V)) (oath:df):vs=[.ref p,.ref ca]->iV K (C 7) H p PJ PB PD PF->fY PJ PB PD.length PF->(∀ d∈PD,oE PD.length d)->H ca=some (.dK kvs)->(∀ m∈dB PD,m.natAbs<fL)->(((∃ m∈dB PD,aI kvs (.inl m)=none)/\∀ H',ae H H'->E (.ref (C 3)) none H')\/
   ((∀ m∈dB PD,(aI kvs (.inl m)).isSome=true)/\(∀ d∈PD,calls K (C 7) H kvs oath d)/\(pe PJ PB PD PF oath).length<=1000/\∀ v H',ae H H'->ao H H' (.lst (pe PJ PB PD PF oath)) v->Q v H'))->AD K C vs H Q E
variable (Q2e:Fn P w K mg b8 "called_by" ["craft"] 1 (AO K C))
include B Z Q2e in
theorem J3 (Q4a:Fn P w K mg b8 "first_duties" ["craft"] 4 (AC K C))(Q4c:Fn P w K mg b8 "deed_duties" ["craft","place","crafts"] 5 (AB K C))(F:aS K "duties" "duties" wL f fd)(m:mg "duties"=some (.ref f)):vd P w K mg b8 "duties" ["craft","crafts"] 6 (AD K C):=by
 refine NF F uj m λ_ _ _ _ H vs Q E hr h=>?_;obtain⟨p,ca,PJ,PB,PD,PF,kvs,oath,rfl,hT,hg,hok,hca,hm,hc⟩:=h;refine⟨_,(az (gy PassesOwn.leaving rfl (db K (jl Q2e hr (jn 0 ag))) (jg 2 uj.nd) (ay (bq (mi (pL (cu hr) (pv 2) (pv 1))) (ay (pD Z.QM rfl Z.QJ rfl pA (eL (Bo (pv 2) (by decide+kernel) (by decide+kernel)) ag))) bE)))
   (az (js 3 uj.nd (jl Q4a hr (jn 0 ag)))
   (az (gy PassesOwn.leaving rfl (iQ rfl B.range (bH (cq (eQ K) rfl B.len L2.boot_len (dR (jf K 0) ag)) ag)) (jg 4 uj.nd) (ay (dC (nC Pk PySem.F.slot_list_extend PySem.F.type_list_extend DS (pv 3) (bH (jl Q4c hr (jn 0 (jn 4 (jn 1 ag)))) ag)))))
   (ay (aJ (pv 3)))))),?_⟩
 have hT0:=hT;obtain⟨hC,dx,w1,w2,bd,w4,P9,hp,hbd,hD⟩:=hT;left;nofun;refine⟨p,dx,bd,w1,w2,w4,P9,PD,rfl,hp,hbd,hD,by have:=hg.d;omega,λv H1 s1 n1=>?_⟩;obtain⟨la,rfl,la0,la1⟩:=ao.iif.mp n1;have lc:(dB PD).length<=PD.length:=List.length_filterMap_le _ _;nomatch la,rfl,⟨_,ar.of la1⟩;refine mC (dY (ar.of la1)) (λi σ H2=>∃ x,A3 (σ=[some (.ref p),some (.ref ca),x,none,none]) (ae H1 H2) (∀ m∈(dB PD).take i,(aI kvs (.inl m)).isSome=true))
  ⟨none,rfl,ae.refl _,λm hm=>by simp at hm⟩ (λi σ H2 ⟨_,_,e,_⟩=>e) ?_ ?_
 ·rintro i v σ H2 H3 hi ⟨x,rfl,s2,hpre⟩ s3 hv;rw[aR]at hv;obtain⟨m,hm',rfl⟩:=ce.mp hv;have mm:=bT hm';have s03:=s1.trans (s2.trans s3);nofun;nomatch ca,_,rfl,bj.k (k:=.inl m) (s03 _ _ hca);cases hv':aI kvs (.inl m)with
  |none=>
   nofun;refine fO (λ_=>?_) (λz=>by cases z);nofun;refine⟨hm m mm,λz=>?_⟩;nofun;nomatch (by right);rcases hc with⟨_,hE⟩|⟨hB,_⟩
   ·exact hE _ s03
   ·have:=hB m mm;rw[hv']at this;cases this
  |some y=>
   nofun;refine fO (λz=>by cases z) (λ_=>?_);nofun;refine⟨_,rfl,s2.trans s3,λk hk=>?_⟩;rw[OE,hm']at hk;rcases bC.mp hk with hk|hk
   ·exact hpre k hk
   ·simp at hk;subst hk;rw[hv'];rfl
 rintro σ H2 ⟨x,rfl,s2,hall⟩;rw[aV,N6 (NV _)]at hall;rcases hc with⟨⟨m,mm,hn⟩,_⟩|⟨_,hcl,hlen,q⟩
 ·have:=hall m mm;rw[hn]at this;cases this
 have s02:=s1.trans s2;left;nofun;refine⟨p,PJ,PB,PD.map dv,PF,rfl,hC.same s02,by rw[aV];exact hg,λv H3 s3 n3=>?_⟩;have s03:=s02.trans s3;obtain⟨ta,tvs,rfl,ta0,ac⟩:=(n3.back s02).acc;nofun;left;nofun;exists p,(C 7),dx,_,_,rfl,s03 _ _ hp,Z.PU,Z.PZ,ip _ _ _ _;refine eW (.inl (ar.of (s03 _ _ hbd))) ?_;rw[<-hD.1];refine iX (by omega) (by have:=hg.d;omega) ?_;refine tM (λi σ H4=>∃ x y vs,i<=PD.length/\σ=[some (.ref p),some (.ref ca),x,some (.ref ta),y]/\ae H H4/\cO H H4/\fF H ta H4 (oV PJ PB PF++ig PB PF oath (PD.take i) 0) vs)
  ⟨_,none,tvs,OF _,rfl,s03,s03.fr,by rw[List.take_zero];show fF H ta H3 (_++[]) tvs;rw[Oo];exact ac⟩ ?_ ?_
 ·rintro i σ H4 hi ⟨x',y,vs,him,rfl,s4,f4,ac4⟩;have hi':i<PD.length:=by have:i<((PD.length:Int)).toNat:=hi;omega
  have eT:PD=PD.take i++PD[i]::PD.drop (i+1):=by rw[List.getElem_cons_drop,List.take_append_drop]
  have eS:PD.take (i+1)=PD.take i++[PD[i]]:=by rw[OE,NQ hi'];rfl
  have step:ig PB PF oath (PD.take (i+1)) 0=ig PB PF oath (PD.take i) 0++j6 (aG PB PF i) (aG PB PF ((i:Int)+1)) (aG PB PF) oath PD[i]:=by rw[eS,xX];congr 1;show j6 _ _ _ _ _++[]=_;rw[Oo,OB,Nat.zero_add,Nat.min_eq_left (by omega)]
  have short:(oV PJ PB PF++ig PB PF oath (PD.take (i+1)) 0).length<=1000:=by refine Od ?_ hlen;unfold pe;have:=xX PB PF oath (PD.take (i+1)) (PD.drop (i+1)) 0;rw[List.take_append_drop]at this;rw[this];simp only[N4];omega
  nofun;exists lK ac4.get;rw[Int.zero_add];refine⟨p,ca,i,PJ,PB,PD,PF,kvs,oath,PD[i],rfl,iV.same s4 hT0,hg,NQ hi',hok _ (Om hi'),s4 _ _ hca,(hcl _ (Om hi')).same s4,λv H5 s5 n5=>?_⟩;obtain⟨b,zs,rfl,b0,ab⟩:=n5.acc;have lz:=ab.len;have lv:=ac4.len;nofun;nomatch ta,b,vs,zs,rfl,rfl,s5 _ _ ac4.get,ab.get,?_
  ·rw[step]at short;simp only[N4]at short lv;exact bF (by omega)
  ·nomatch _,_,vs++zs,hi',rfl,(s4.trans s5).put ta0,f4.trans (s5.fr.trans jN);rw[step,<-Ow];exact ac4.ext f4 s5 n5 ab.get
 ·rintro σ H4 ⟨x',y,vs,him,rfl,s4,f4,ac4⟩;nofun;refine q _ _ s4 ?_;rw[show((PD.length:Int)).toNat=PD.length by omega,N6 (NV _)]at ac4;exact ac4.new ta0
def CB (w:Int):Prop:=-(2 ^ 62)<w/\w<2 ^ 62
def C1 (K:Fg):Sp:=λvs H Q _=>(∃ d,vs=[d,.non]/\Q (.bl false) H)\/∃(d r ga ha wa:Addr) (PP:QS) (PM:QT) (xs:QV) (PQ:Int) (ws:QS),vs=[.ref d,.ref r]/\aH K H d [.ref ga,.ref ha]/\H ga=some (.lst (PP.map V.int))/\H ha=some (.lst xs)/\av K H (PM.map nums) xs/\aH K H r [.int PQ,.ref wa]/\ar K H wa (ws.map V.int)/\PP.length=9/\(∀ l∈PM,l.length=9)/\PM.length<=100/\ws.length<=1000/\CB PQ/\(∀ w∈ws,CB w)/\
 ∀ H',ae H H'->Q (.bl (jB PP PM PQ ws)) H'
theorem Hs (ws:QS):(ws.map λw=>decide (w<0)).any id=!ws.all λw=>decide (0<=w):=by
 induction ws with
 |nil=>rfl
 |cons w ws ih=>
  rw[bw,OC,ih,OO,Bool.not_and];congr 1;by_cases h:w<0
  ·rw[id,N0 h,N7 (by omega)];rfl
  ·rw[id,N7 h,N0 (by omega)];rfl
theorem FS:(List.replicate (8:Int).toNat [V.int 0]).flatten=(List.replicate 8 (0:Int)).map V.int:=rfl
include B Z Q5 in
theorem HY (F:aS K "shows" "shows" wy f fd)(m:mg "shows"=some (.ref f)):Fn P w K mg b8 "shows" ["duty","row"] 2 (C1 K):=by
 refine bR F gK m (λ_ _ _ _ H vs Q E hr h=>?_) (ln:=by intro vs H Q E h;(rcases h with⟨_,rfl,_⟩|⟨_,_,_,_,_,_,_,_,_,_,rfl,_⟩<;>rfl));rcases h with⟨d,rfl,q⟩|⟨d,r,ga,ha,wa,PP,PM,xs,PQ,ws,rfl,hd,hga,hha,hx,hrr,hwa,l9,h9,hl,hlw,cw,cws,q⟩
 ·refine⟨_,(az (bq (jc md (pv 1) gH) (ay (aJ gk)) bE)
   (az (js 2 gK.nd (jx K (pv 0) aj))
   (az (js 3 gK.nd (jx K (pv 0) aj))
   (az (js 4 gK.nd (jx K (pv 1) aj))
   (az (js 5 gK.nd (jx K (pv 1) aj))
   (az (bq (PW.pt (kK (jc oM (pv 4) aj) (kK (jc (jh K hr) (cq (eQ K) rfl B.len L2.boot_len (jn 5 ag)) (cq (eQ K) rfl B.len L2.boot_len (jn 3 ag))) (oU (fg (cq (BI K rfl) rfl B.any L2.DE (ie (jC (bG.f gK ["duty","row","goal","hypotheses","whole","weights","rest","weight"] [false,false,false,false,false,false,false,true]) (db K (pv 5)) (λn=>(jg 7 n)) (jv oM (pv 7) aj)) ag))))))) (ay (aJ gk)) bE)
   (az (js 6 gK.nd (jl Q5 hr (bN (jp K (bv (jn 2 ag)) (pv 3)) (bN (jp K (bv (jn 4 ag)) (jC (bG.f gK ["duty","row","goal","hypotheses","whole","weights","rest","weight"] [false,false,false,false,false,false,false,true]) (db K (pv 5)) (λn=>(jg 7 n)) (dP dX (pv 7)))) ag))))
   (ay (aJ (eU (jv vv (jx K (pv 6) aj) (dP dX (pv 4))) (fJ (jE K hr (pF (je K) (pv 6) (pq aj) pw) (aO ik (bv (jk ag)) (dS rfl B.Ql)))))))))))))),?_⟩
  ac_rfl;nomatch rfl;rw[tK];ac_rfl;exact q
 refine⟨_,(az (bq (jc md (pv 1) gH) (ay (aJ gk)) bE)
   (az (js 2 gK.nd (jx K (pv 0) aj))
   (az (js 3 gK.nd (jx K (pv 0) aj))
   (az (js 4 gK.nd (jx K (pv 1) aj))
   (az (js 5 gK.nd (jx K (pv 1) aj))
   (az (bq (PW.pt (kK (jc oM (pv 4) aj) (kK (jc (jh K hr) (cq (eQ K) rfl B.len L2.boot_len (jn 5 ag)) (cq (eQ K) rfl B.len L2.boot_len (jn 3 ag))) (oU (fg (cq (BI K rfl) rfl B.any L2.DE (ie (jC (bG.f gK ["duty","row","goal","hypotheses","whole","weights","rest","weight"] [false,false,false,false,false,false,false,true]) (db K (pv 5)) (λn=>(jg 7 n)) (jv oM (pv 7) aj)) ag))))))) (ay (aJ gk)) bE)
   (az (js 6 gK.nd (jl Q5 hr (bN (jp K (bv (jn 2 ag)) (pv 3)) (bN (jp K (bv (jn 4 ag)) (jC (bG.f gK ["duty","row","goal","hypotheses","whole","weights","rest","weight"] [false,false,false,false,false,false,false,true]) (db K (pv 5)) (λn=>(jg 7 n)) (dP dX (pv 7)))) ag))))
   (ay (aJ (eU (jv vv (jx K (pv 6) aj) (dP dX (pv 4))) (fJ (jE K hr (pF (je K) (pv 6) (pq aj) pw) (aO ik (bv (jk ag)) (dS rfl B.Ql)))))))))))))),?_⟩
 have lx:=hx.length;rw[aV]at lx;ac_rfl;nomatch rfl;rw[wd];ac_rfl;refine aZ hd dU ?_;ac_rfl;refine aZ hd (v:=.ref ha) (bJ (j:=1) rfl) ?_;ac_rfl;refine aZ hrr dU ?_;ac_rfl;refine aZ hrr (v:=.ref wa) (bJ (j:=1) rfl) ?_;ac_rfl;have no:e_ PM PQ ws=false->∀ H',ae H H'->Q (.bl false) H':=λe H' s=>by have:=q H' s;unfold jB at this;rwa [e,OV]at this
 refine fO (λe=>?_) (λe=>?_)
 ·ac_rfl;refine no ?_ _ (ae.refl _);unfold e_;rw[N7 (by have:=N8 e;omega)];rfl
 have w1:1<=PQ:=by have:=N9 e;omega
 ac_rfl;refine eW (.inl hwa) ?_;ac_rfl;refine eW (.inl (ar.of hha)) ?_;ac_rfl;refine fO (λe=>?_) (λe=>?_)
 ·ac_rfl;refine no ?_ _ (ae.refl _);have e1:¬ ((((ws.map V.int).length:Nat):Int)=(xs.length:Int)):=by simpa using e
  unfold e_;rw[N7 (show ¬ (ws.length=PM.length)by rw[aV]at e1;omega),OV,OW]
 have e1:(((ws.map V.int).length:Nat):Int)=(xs.length:Int):=by simpa using e
 have lw:ws.length=PM.length:=by rw[aV]at e1;omega
 ac_rfl;nomatch wa,rfl,⟨_,hwa⟩;refine cX (dY hwa) ((ws.map λw=>decide (w<0)).map D.bl) (by simp) (bF (by simp;omega)) (λj x d' H4 R hj hd' s4 hx' hR=>?_) (λv H4 s4 n4=>?_)
 ·rw[aR]at hx';obtain⟨w,hw,rfl⟩:=ce.mp hx';rw[aR,aR,hw]at hd';cases hd';ac_rfl;exact hR _ _ (ae.refl _) ao.bl
 obtain⟨ba,rfl,ba0,ba1⟩:=ao.bls n4;ac_rfl;refine rN (ar.of ba1) ?_;rw[Hs];ac_rfl;refine fO (λe=>?_) (λe=>?_)
 ·ac_rfl;refine no ?_ _ s4;unfold e_;rw[show(ws.all λw=>decide (0<=w))=false by simpa using e,OW,OW]
 have hrow:e_ PM PQ ws=true:=by unfold e_;rw[N0 w1,N0 lw,show(ws.all λw=>decide (0<=w))=true by simpa using e];rfl
 ac_rfl;refine⟨(by right),λp hp=>?_⟩;have s5:=s4.trans (aB hp (.lst [.ref ga]));ac_rfl;refine fi aw (s5 _ _ hha) (bF (by simp;omega)) λp2 hp2=>?_;have s6:=s5.trans (aB hp2 (.lst ([.ref ga]++xs)));ac_rfl;refine⟨(by right),λp3 hp3=>?_⟩;have s7:=s6.trans (aB hp3 (.lst [.int PQ]));ac_rfl;nomatch wa,rfl,⟨_,s7.seq hwa⟩;refine cX (dY (s7.seq hwa)) ((aM ws).map D.int) (by simp[aM]) (bF (by simp;omega)) (λj x d' H8 R hj hd' s8 hx' hR=>?_) (λv H8 s8 n8=>?_)
 ·rw[aR]at hx';obtain⟨w,hw,rfl⟩:=ce.mp hx';unfold aM at hd';rw[aR,aR,hw]at hd';cases hd';ac_rfl;exact hR _ _ (ae.refl _) ao.int
 obtain⟨na,rfl,na0,na1⟩:=ao.iif.mp n8;ac_rfl;refine fi (s8 _ _ aw) na1 (bF (by simp[aM];omega)) λp4 hp4=>?_;have s9:=s8.trans (aB hp4 (.lst ([.int PQ]++(aM ws).map V.int)));have s09:=s7.trans s9;ac_rfl;have hL:aq K (upd H8 p4 (.lst ([.int PQ]++(aM ws).map V.int))) (.lst ((PP::PM).map nums)) (.ref p2):=by unfold aq;nomatch p2,[.ref ga]++xs,rfl,ar.of (s9 _ _ (aB hp3 _ _ _ aw));rw[bw];unfold av;exact⟨_,_,rfl,gz.mpr ⟨ga,rfl,ar.of (s09 _ _ hga)⟩,av.same s09 _ hx⟩
 refine⟨p2,p4,PP::PM,PQ::aM ws,rfl,hL,ar.of aw,by simp[aM];omega,by simp;omega,λl hl=>?_,λi l w e1 e2 n hn=>?_,λv Ha sa na=>?_⟩
 ·rcases NP.mp hl with hl|hl
  ·subst hl;exact l9
  ·exact h9 l hl
 ·refine .inr ?_;cases i with
  |zero=>simp at e2;subst e2;unfold CB at cw;exact⟨by omega,by omega⟩
  |succ i=>
   have e2':(aM ws)[i]?=some w:=by simpa using e2
   unfold aM at e2';rw[aR]at e2';obtain⟨u,hu,rfl⟩:=ce.mp e2';have:=cws u (bT hu);unfold CB at this;exact⟨by omega,by omega⟩
 obtain⟨ra,rfl,ra0,ra1⟩:=ao.iif.mp na;have hr9:(cg PP PM PQ ws).length=9:=i5 λl hl=>by
  rcases NP.mp hl with hl|hl
  ·subst hl;exact l9
  ·exact h9 l hl
 obtain⟨c,fs,ec⟩:∃ c fs,cg PP PM PQ ws=c::fs:=by
  cases e:cg PP PM PQ ws with
  |nil=>rw[e]at hr9;simp at hr9
  |cons c fs=>exact⟨c,fs,rfl⟩
 have ra2:Ha ra=some (.lst ((c::fs).map V.int)):=by rw[<-ec];exact ra1
 have sf:=s09.trans sa;have yes:∀ H',ae H H'->Q (.bl (decide (-PQ<c)&&decide (fs=List.replicate 8 0))) H':=λH' s=>by have:=q H' s;unfold jB cV at this;rw[hrow,ec,Oi]at this;exact this
 ac_rfl;refine bW (ar.of ra2) (v:=.int c) dU ?_;ac_rfl;cases hb:decide (-PQ<c)with
 |false=>ac_rfl;have:=yes _ sf;rw[hb,OV]at this;exact this
 |true=>ac_rfl;refine Bp (ar.of ra2) λp5 hp5=>?_;rw[show cK ((c::fs).map V.int) (some 1) none=fs.map V.int from Jl (k:=1) (by simp)];ac_rfl;refine⟨(by right),λp6 hp6=>?_⟩;ac_rfl;refine .inr ⟨p6,8,[.int 0],rfl,rfl,aw,by decide,by decide,by decide,λp7 hp7=>?_⟩;rw[FS];have t5:=aB hp5 (.lst (fs.map V.int));have t6:=aB hp6 (.lst [.int 0]);have t7:=aB hp7 (.lst ((List.replicate 8 (0:Int)).map V.int));ac_rfl;refine vg (d:=nums fs) (e:=nums (List.replicate 8 0)) (gz.mpr ⟨p5,rfl,ar.of (t7 _ _ (t6 _ _ aw))⟩) (gz.mpr ⟨p7,rfl,ar.of aw⟩) (Od (t_ _) (by decide)) ?_;have:=yes _ (sf.trans (t5.trans (t6.trans t7)));rw[hb,Oi]at this;unfold aF;rw[xM];exact this
def E7 (K:Fg):Sp:=λvs H Q _=>∃ n:Nat,vs=[.int n]/\n<=8/\∀ v H',ae H H'->ao H H' (.lst ((cM n).map nums)) v->Q v H'
variable {n:Nat}
theorem CH(h:n<=8):(cM n).length<=256:=by rw[EN];exact Od (Nat.pow_le_pow_right (by decide) h) (by decide)
theorem HX{r:Addr}(hp:H p=none)(hr:(upd H p (.lst [])) r=none):ao H (upd (upd H p (.lst [])) r (.lst [.ref p])) (.lst ((cM 0).map nums)) (.ref r):=by
 have s1:=aB hp (.lst []);have s2:=aB hr (.lst [.ref p]);have pr:r≠p:=λz=>by rw[z,aw]at hr;cases hr
 refine ao.lst (fp:=[p]) ?_ (by simp) (λb hb=>?_) (s1.free hr) (by simpa using pr) aw
 ·show ak _ [nums []] [.ref p] [p];exact ak.cany (f:=[p]) (fp:=[]) (ai.line (ns:=[]) (s2 _ _ aw)) ak.nil
 ·rw[bu.mp hb];exact hp
include B Z in
theorem Ni (F:aS K "noughts_and_ones" "noughts_and_ones" yV f fd)(m:mg "noughts_and_ones"=some (.ref f)):Fn P w K mg b8 "noughts_and_ones" ["count"] 1 (E7 K):=by
 refine bR F ox m λ_ _ _ _ H vs Q E hr h=>?_;obtain⟨n,rfl,hn,q⟩:=h;refine⟨_,(az (js 1 ox.nd (bv (dJ (bv ag) ag)))
   (az (gy PassesOwn.never rfl (iQ rfl B.range (jn 0 ag)) (jg 2 ox.nd) (ay (js 1 ox.nd (jp K (jC (bG.f ox ["count","found","bit","weights"] [false,false,false,true]) (db K (pv 1)) (λn=>(jg 3 n)) (jp K (pv 3) (bv (jk ag)))) (jC (bG.f ox ["count","found","bit","weights"] [false,false,false,true]) (db K (pv 1)) (λn=>(jg 3 n)) (jp K (pv 3) (bv (jk ag))))))))
   (ay (aJ (pv 1))))),?_⟩
 ac_rfl;refine⟨(by right),λp1 hp1=>?_⟩;ac_rfl;refine⟨(by right),λp2 hp2=>?_⟩;have n0:=HX hp1 hp2;have s0:=(aB hp1 (.lst [])).trans (aB hp2 (.lst [.ref p1]));ac_rfl;refine iX (by omega) (by omega) ?_;refine tM (λi σ H2=>∃ x fa,i<=n/\σ=[some (.int n),some (.ref fa),x]/\ae H H2/\ao H H2 (.lst ((cM i).map nums)) (.ref fa))
  ⟨none,p2,OF _,rfl,s0,n0⟩ ?_ ?_
 ·rintro i σ H2 hi ⟨x,fa,him,rfl,s2,n2⟩;have hi':i<n:=by have:i<((n:Int)).toNat:=hi;omega
  have lr:=CH (n:=i) (by omega);obtain⟨_,ef,fa0,lsf⟩:=n2.ls;cases ef;obtain⟨vs,hvs,lvs⟩:=lsf.len;ac_rfl;nomatch fa,rfl,⟨_,ar.of hvs⟩;refine cX (dY (ar.of hvs)) (((cM i).map λr=>r++[0]).map nums) (by simp[lvs]) (bF (by omega)) (λj x' d H4 R hj hd s4 hx' hR=>?_) (λv H3 s3 n3=>?_)
  ·obtain⟨wa,r,rfl,hr',hwa⟩:=lsf.item hvs hx';rw[aR,aR,hr']at hd;cases hd;have lr2:=(j_ _ _ (bT hr')).1;ac_rfl;refine⟨(by right),λp hp=>?_⟩;have t1:=aB hp (.lst [.int 0]);ac_rfl;refine fi (t1 _ _ (s4 _ _ hwa)) aw (bF (by simp;omega)) λp' hp'=>?_;exact hR _ _ (t1.trans (aB hp' _)) (ao.iif.mpr ⟨p',rfl,t1.free hp',by rw[aw,Oe];rfl⟩)
  ac_rfl;nomatch fa,rfl,⟨_,ar.of (s3 _ _ hvs)⟩;refine cX (dY (ar.of (s3 _ _ hvs))) (((cM i).map λr=>r++[1]).map nums) (by simp[lvs]) (bF (by omega)) (λj x' d H4 R hj hd s4 hx' hR=>?_) (λv' H4 s4 n4=>?_)
  ·obtain⟨wa,r,rfl,hr',hwa⟩:=lsf.item hvs hx';rw[aR,aR,hr']at hd;cases hd;have lr2:=(j_ _ _ (bT hr')).1;ac_rfl;refine⟨(by right),λp hp=>?_⟩;have t1:=aB hp (.lst [.int 1]);ac_rfl;refine fi (t1 _ _ (s4 _ _ (s3 _ _ hwa))) aw (bF (by simp;omega)) λp' hp'=>?_;exact hR _ _ (t1.trans (aB hp' _)) (ao.iif.mpr ⟨p',rfl,t1.free hp',by rw[aw,Oe];rfl⟩)
  obtain⟨a1,vs1,f1,rfl,z1,y1,r1,_⟩:=ao.lso n3;obtain⟨a2,vs2,f2,rfl,z2,y2,r2,_⟩:=ao.lso n4;have l1:=r1.length;have l2:=r2.length;simp only[aV]at l1 l2;ac_rfl;refine fi (s4 _ _ y1) y2 (bF (by omega)) λp hp=>?_;ac_rfl;nomatch _,p,by omega,rfl,(s2.trans (s3.trans s4)).trans (aB hp _)
  have:=ao.cat (n3.back s2) (s2.trans s3) s4 n4 (s4 _ _ y1) y2 hp;rw[<-Oe]at this;exact this
 ·rintro σ H2 ⟨x,fa,him,rfl,s2,n2⟩;ac_rfl;exact q _ _ s2 n2
inductive As (K:Fg)(vs:QV)(H:Hp)(Q:VK)(E:XK):Prop
 |mk (d ga ha:Addr) (PP:QS) (PM:QT) (xs:QV):vs=[.ref d]->aH K H d [.ref ga,.ref ha]->H ga=some (.lst (PP.map V.int))->H ha=some (.lst xs)->av K H (PM.map nums) xs->PP.length=9->(∀ l∈PM,l.length=9)->PM.length<=8->(∀ v H',ae H H'->ao H H' (fm (eX PP PM)) v->Q v H')->As K vs H Q E
theorem Hr{r:QS}(h:r∈cM n):∀ w∈r,CB w:=λw hw=>by have:=(j_ _ _ h).2 w hw;unfold CB;rcases this with z|z<;>exact⟨by omega,by omega⟩
include B Z in
theorem J2 (Q5d:Fn P w K mg b8 "noughts_and_ones" ["count"] 1 (E7 K))(G_shows:Fn P w K mg b8 "shows" ["duty","row"] 2 (C1 K))(F:aS K "sought" "sought" wK f fd)(m:mg "sought"=some (.ref f)):Fn P w K mg b8 "sought" ["duty"] 3 (As K):=by
 refine bR F ui m λ_ _ _ _ H vs Q E hr h=>?_;obtain⟨d,ga,ha,PP,PM,xs,rfl,hd,hga,hha,hx,l9,h9,hl,q⟩:=h;obtain⟨gw,g_WHOLES,hT⟩:=B.QI;have lx:=hx.length;rw[aV]at lx;refine⟨_,(az (js 1 ui.nd (jl Q5d hr (bH (cq (eQ K) rfl B.len L2.boot_len (bn (jx K (pv 0) aj) ag)) ag)))
   (az (gy PassesOwn.never rfl (oQ K (jK rfl g_WHOLES)) (jg 2 ui.nd) (ay (gy PassesOwn.never rfl (db K (pv 1)) (jg 3 ui.nd) (ay (bq (fg (jl G_shows hr (jn 0 (g7 (cx (jn 2 (jn 3 ag))) ag)))) (ay (aJ (cx (jn 2 (jn 3 ag))))) bE)))))
   (ay (aJ gH)))),?_⟩
 ac_rfl;refine aZ hd (v:=.ref ha) (bJ (j:=1) rfl) ?_;ac_rfl;refine eW (.inl (ar.of hha)) ?_;ac_rfl;refine⟨xs.length,rfl,by omega,λv H1 s1 n1=>?_⟩;rw[<-lx]at n1;obtain⟨ra,rfl,ra0,lsr⟩:=n1.ls;obtain⟨vs,hvs,lvs⟩:=lsr.len;have lr:=CH (n:=PM.length) hl;ac_rfl;nomatch gw,rfl,⟨_,hT _⟩;refine mC (n:=4) (pE (xs:=([1,2,3,4]:QS).map V.int) (hT H1)) (λi σ H2=>∃ x y,A3 (σ=[some (.ref d),some (.ref ra),x,y]) (ae H1 H2) ((([1,2,3,4]:QS).take i).findSome? (pH PP PM)=none))
  ⟨none,none,rfl,ae.refl _,rfl⟩ (λi σ H2 ⟨_,_,_,e,_⟩=>e) ?_ ?_
 ·rintro i v σ H2 H3 hi ⟨x,y,rfl,s2,f2⟩ s3 hv;rw[aR]at hv;obtain⟨w,hw,rfl⟩:=ce.mp hv;have w4:1<=w/\w<=4:=by have:=bT hw;simp at this;omega
  have s13:=s2.trans s3;ac_rfl;nomatch ra,rfl,⟨_,ar.of (s13 _ _ hvs)⟩;refine mC (dY (ar.of (s13 _ _ hvs))) (λj σ H4=>∃ y,A3 (σ=[some (.ref d),some (.ref ra),some (.int w),y]) (ae H3 H4) (((cM PM.length).take j).findSome? (ml PP PM w)=none))
   ⟨y,rfl,ae.refl _,rfl⟩ (λi σ H2 ⟨_,_,e,_⟩=>e) ?_ ?_
  ·rintro j v σ H4 H5 hj ⟨y',rfl,s4,f4⟩ s5 hv;obtain⟨wa,r,rfl,hr',hwa⟩:=lsr.item hvs hv;have hm:=bT hr';have lr2:=(j_ _ _ hm).1;have s15:=s13.trans (s4.trans s5);have s05:=s1.trans s15;ac_rfl;refine⟨(by right),λT hTT=>?_⟩;have t1:=aB hTT (.tup [.int w,.ref wa]);have s06:=s05.trans t1;ac_rfl;refine .inr ⟨d,T,ga,ha,wa,PP,PM,xs,w,r,rfl,s06.tup hd,s06 _ _ hga,s06 _ _ hha,av.same s06 _ hx,aH.of aw,ar.of (t1 _ _ (s15 _ _ hwa)),l9,h9,by omega,by omega,by unfold CB;exact⟨by omega,by omega⟩,Hr hm,λH7 s7=>?_⟩;have s17:=s15.trans (t1.trans s7);cases hb:jB PP PM w r with
   |true=>
    ac_rfl;refine⟨(by right),λT2 hT2=>?_⟩;have e1:ml PP PM w r=some (w,r):=by unfold ml;rw[NU hb]
    have e2:pH PP PM w=some (w,r):=wY f4 hr' e1;have e3:eX PP PM=some (w,r):=wY f2 hw e2;have n7:ao H H7 (nums r) (.ref wa):=(ao.item (d:=nums r) n1 hvs (by rw[aR,hr'];rfl) hv).same s17;refine q _ _ ((s1.trans s17).trans (aB hT2 _)) ?_;rw[e3];exact n7.pairT hT2
   |false=>ac_rfl;refine⟨_,rfl,s4.trans (s5.trans (t1.trans s7)),xu f4 hr' ?_⟩;unfold ml;rw[NR (by rw[hb];decide)]
  ·rintro σ H4 ⟨y',rfl,s4,f4⟩;refine⟨_,_,rfl,s13.trans s4,xu f2 hw ?_⟩;exact Dj f4 (by omega)
 ·rintro σ H2 ⟨x,y,rfl,s2,f2⟩;ac_rfl;refine q _ _ (s1.trans s2) ?_;have e3:eX PP PM=none:=Dj f2 (by decide);rw[e3];exact ao.non
inductive Ar (K:Fg)(C:Nat->Addr)(vs:QV)(H:Hp)(Q:VK)(E:XK):Prop
 |mk (ha dx:Addr):vs=[.ref ha]->H ha=some (.ins (C 8) dx [])->(∀ la va H',H la=none->H va=none->la≠va->bc [ha] H H'->H' ha=some (.ins (C 8) dx (iz la va))->H' la=some (.dK [])->H' va=some (.dK [])->Q .non H')->Ar K C vs H Q E
include B Z in
theorem Hq (F:aS K "__init__" "Hall.__init__" ze f fd)(M:Mk K (C 8) f):kE P w K mg b8 "Hall" (C 8) ["self"] 1 (Ar K C):=by
 refine zP F M M4 Z.QQ λ_ _ _ _ H vs Q E hr h=>?_;obtain⟨ha,dx,rfl,hh,q⟩:=h;refine⟨_,(az (eG (pv 0) ud rfl)
   (ay (eG (pv 0) ud rfl))),?_⟩
 left;nofun;intro la la0;have e1:(upd H la (.dK [])) ha=some (.ins (C 8) dx []):=by rw[aE (bX hh la0)];exact hh
 nofun;refine⟨ha,(C 8),dx,[],rfl,e1,Z.P3,Z.P5,by show 0<1000;decide,?_⟩;nofun;intro va va0;have nha:va≠ha:=λz=>by rw[z,aw]at va0;cases va0
 have nla:va≠la:=λz=>by rw[z,aE (bX hh la0).symm,aw]at va0;cases va0
 have v0:H va=none:=by rw[aE nha,aE nla]at va0;exact va0
 nofun;nomatch ha,(C 8),dx,_,rfl,by rw[aE nha.symm,aw],Z.P3,Z.P_,N1 (eN (n:=1) (by decide)) (by decide)
 have nl:la≠ha:=(bX hh la0).symm;refine q la va _ la0 v0 nla.symm (λb o n e=>?_) aw ?_ ?_
 ·have n1:b≠ha:=λz=>n (by simp[z]);rw[aE n1,aE (bX e v0),aE n1,aE (bX e la0)];exact e
 ·rw[aE nl,aE nla.symm,aE nl,aw]
 ·rw[aE nha,aw]
inductive Ag (K:Fg)(C:Nat->Addr)(vs:QV)(H:Hp)(Q:VK)(E:XK):Prop
 |mk (ha la va:Addr) (n:Int) (ks:QS) (cr:Int->Cr) (ws:QS) (fp:QW):vs=[.ref ha,.int n]->cn (C 8) (C 7) H ha la va ks cr ws fp->(∀ H' ws',bc [va] H H'->cn (C 8) (C 7) H' ha la va ks cr ws' fp->(∀ m,m∈ws'↔m∈ws/\m≠n)->Q .non H')->Ag K C vs H Q E
include B Z in
theorem MR (F:aS K "release" "Hall.release" yI f fd)(M:br K (C 8) "release" f):bK bL P w K mg b8 (C 8) "release" ["self","number"] 1 (Ag K C):=by
 refine eP F M Mu λ_ _ _ _ H vs Q E hr h=>?_;obtain⟨ha,la,va,n,ks,cr,ws,fp,rfl,hA,q⟩:=h;nomatch _,(ay (dC (IK (jf K 0) (pv 1) gH ⟨rfl,rfl,rfl,rfl⟩)));obtain⟨dx,hh⟩:=hA.ins;obtain⟨kvs,hva,hk⟩:=hA.vou;nofun;nomatch ha,(C 8),dx,_,_,rfl,hh,Z.P3,Z.P_,ut _ _;exists va,rfl,.inl ⟨_,.inl hva⟩;refine⟨kvs,.inl n,hva,rfl,λv hv=>?_,λhv=>?_⟩
 ·nofun;refine q _ _ (ii (by simp)) (hA.putV hk.drop λm hm=>hA.sub m (OY.mp hm).1) λm=>?_;rw[OY,NY]
 ·nofun;refine q _ ws (ae.refl _).offA hA λm=>⟨λhm=>⟨hm,λz=>?_⟩,λhm=>hm.1⟩;subst z;obtain⟨v,e,_⟩:=hk.2.2 m hm;rw[e]at hv;cases hv
inductive Ah (K:Fg)(C:Nat->Addr)(vs:QV)(H:Hp)(Q:VK)(E:XK):Prop
 |mk (ha la va:Addr) (n:Int) (ks:QS) (cr:Int->Cr) (ws:QS) (fp:QW):vs=[.ref ha,.int n]->cn (C 8) (C 7) H ha la va ks cr ws fp->(∀ v H',ae H H'->ao H H' (nums (fK ks cr n)) v->Q v H')->Ah K C vs H Q E
include B Z Q2e in
theorem Nc (F:aS K "called_at" "Hall.called_at" yW f fd)(M:br K (C 8) "called_at" f):bK bL P w K mg b8 (C 8) "called_at" ["self","number"] 2 (Ah K C):=by
 refine eP F M Nf λ_ _ _ _ H vs Q E hr h=>?_;obtain⟨ha,la,va,n,ks,cr,ws,fp,rfl,hA,q⟩:=h;refine⟨_,(az (bq (mi (vO (cu hr) (pv 1) (jf K 0))) (ay (aJ (jl Q2e hr (bn (ly (cu hr) (jf K 0) (pv 1) (λ_ _=>rfl)) ag)))) bE)
   (ay (aJ (bv ag)))),?_⟩
 obtain⟨dx,hh⟩:=hA.ins;obtain⟨kvs,P8,hk⟩:=hA.laid;unfold fK at q;left;nofun;nomatch ha,(C 8),dx,_,_,rfl,hh,Z.P3,Z.P5,jI _ _;nomatch la,_,rfl,bj.k (k:=.inl n) P8;by_cases hm:n∈ks
 ·obtain⟨v,hv,p,f,rfl,hC,hf⟩:=hk.2.2 n hm;rw[NU hm]at q;have rt:=hA.rt n hm;obtain⟨_,dx',w1,w2,b3,w4,P9,hp,hb3,hD⟩:=hC.t (K:=K) rt.nine.d9;rw[hv];nofun;refine fO (λ_=>?_) (λz=>by cases z);nofun;exists ha,(C 8),dx,_,_,rfl,hh,Z.P3,Z.P5,jI _ _;refine⟨la,.ref p,rfl,by rw[<-hv];exact bj.k (k:=.inl n) P8,?_⟩;nofun;exact⟨p,dx',b3,w1,w2,w4,P9,(cr n).PD,rfl,hp,hb3,hD,by have:=rt.nine.d;omega,q⟩
 ·rw[NR hm]at q;rw[hk.no hm];nofun;refine fO (λz=>by cases z) (λ_=>?_);nofun;refine⟨(by right),λp hp=>?_⟩;exact q _ _ (aB hp _) (ao.iif.mpr ⟨p,rfl,hp,aw⟩)
inductive Af (K:Fg)(C:Nat->Addr)(vs:QV)(H:Hp)(Q:VK)(E:XK):Prop
 |mk (ha la va:Addr) (n:Int) (ks:QS) (cr:Int->Cr) (ws:QS) (fp:QW):vs=[.ref ha,.int n]->cn (C 8) (C 7) H ha la va ks cr ws fp->(∀ H' ws',bc [va] H H'->cn (C 8) (C 7) H' ha la va ks cr ws' fp->(∀ m,m∈ws'↔m∈ws/\n∉fK ks cr m)->Q .non H')->Af K C vs H Q E
variable (Q71:bK bL P w K mg b8 (C 8) "called_at" ["self","number"] 2 (Ah K C))(Q73:bK bL P w K mg b8 (C 8) "release" ["self","number"] 1 (Ag K C))
include B Z Q71 Q73 in
theorem Nj (F:aS K "release_callers" "Hall.release_callers" zk f fd)(M:br K (C 8) "release_callers" f):bK bL P w K mg b8 (C 8) "release_callers" ["self","number"] 3 (Af K C):=by
 refine eP F M E9 λ_ _ _ _ H vs Q E hr h=>?_;obtain⟨ha,la,va,n,ks,cr,ws,fp,rfl,hA,q⟩:=h;nomatch _,(ay (gy PassesOwn.never rfl (db K (mL (KW rfl) rfl B.list L2.om (dR (jf K 0) ag))) (jg 2 E9.nd) (ay (bq (jc (qW K) (pv 1) (cS Q71 Z.P3 hr cf (pv 0) (jn 2 ag))) (ay (dC (cS Q73 Z.P3 hr cf (pv 0) (jn 2 ag)))) bE))));obtain⟨dx,hh⟩:=hA.ins;obtain⟨kvs,hva,hk⟩:=hA.vou;have nd:=hk.2.1;nofun;exists ha,(C 8),dx,_,_,rfl,hh,Z.P3,Z.P_,ut _ _;refine HI hva hk.1 λl hl=>?_;have s0:=aB hl (.lst (ws.map V.int));have nlv:l≠va:=(bX hva hl).symm;nomatch l,rfl,⟨_,ar.of aw⟩;refine pj (xs:=ws.map V.int) (λi σ H'=>∃ x ws',A4 (σ=[some (.ref ha),some (.int n),x]) (bc [va] (upd H l (.lst (ws.map V.int))) H') (cn (C 8) (C 7) H' ha la va ks cr ws' fp) (∀ m,m∈ws'↔m∈ws/\(m∈ws.take i->n∉fK ks cr m)))
  ⟨none,ws,rfl,(ae.refl _).offA,hA.same s0,λm=>by simp⟩ (λi σ H' _ ⟨_,_,_,e,_,_⟩=>ar.of (e _ _ (by simp[nlv]) aw)) ?_ ?_
 ·rintro i v σ H2 hv ⟨x,ws',rfl,o2,hA2,hm2⟩;rw[aR]at hv;obtain⟨m0,hm0,rfl⟩:=ce.mp hv;obtain⟨dx2,hh2⟩:=hA2.ins;nofun;exists ha,dx2,_,rfl,hh2,gZ;refine⟨ha,la,va,m0,ks,cr,ws',fp,rfl,hA2,λv H3 s3 n3=>?_⟩;obtain⟨ca,rfl,ca0,ca1⟩:=ao.iif.mp n3;refine Bm (ar.of ca1) ?_;have tk:∀ m,m∈ws.take (i+1)↔m∈ws.take i\/m=m0:=λm=>by rw[OE,hm0];simp
  by_cases hc:n∈fK ks cr m0
  ·rw[N0 hc];nofun;exists ha,dx2,_,rfl,s3 _ _ hh2,gZ;refine⟨ha,la,va,m0,ks,cr,ws',fp,rfl,hA2.same s3,λH4 ws4 o4 hA4 hm4=>?_⟩;nofun;refine⟨_,ws4,rfl,o2.trans (s3.offA.trans o4),hA4,λm=>?_⟩;rw[hm4,hm2,tk];constructor
   ·rintro⟨⟨h1,h2⟩,h3⟩;exact⟨h1,λz=>by rcases z with z|z;exact h2 z;exact Oa z h3⟩
   ·rintro⟨h1,h2⟩;exact⟨⟨h1,λz=>h2 (.inl z)⟩,λz=>h2 (.inr z) (by rw[z];exact hc)⟩
  ·rw[N7 hc];nofun;refine⟨_,ws',rfl,o2.trans s3.offA,hA2.same s3,λm=>?_⟩;rw[hm2,tk];constructor
   ·rintro⟨h1,h2⟩;exact⟨h1,λz=>by rcases z with z|z;exact h2 z;rw[z];exact hc⟩
   ·rintro⟨h1,h2⟩;exact⟨h1,λz=>h2 (.inl z)⟩
 ·rintro σ H2 ⟨x,ws',rfl,o2,hA2,hm2⟩;nofun;refine q _ ws' (s0.offA.trans o2) hA2 λm=>?_;rw[hm2,aV,N6 (NV _)];exact⟨λh=>⟨h.1,h.2 h.1⟩,λh=>⟨h.1,λ_=>h.2⟩⟩
inductive Ae (K:Fg)(C:Nat->Addr)(vs:QV)(H:Hp)(Q:VK)(E:XK):Prop
 |mk (p q:Addr) (n1 l1 n2 l2:QT) (d1 d2:List D) (o1 o2:QU):vs=[.ref p,.ref q]->fh K (C 7) H p n1 l1 d1 o1->fh K (C 7) H q n2 l2 d2 o2->Q (.bl (decide (n1=n2)&&decide (l1=l2))) H->Ae K C vs H Q E
include B Z in
theorem LC (F:aS K "same_oath" "same_oath" xO f fd)(m:mg "same_oath"=some (.ref f)):Fn P w K mg b8 "same_oath" ["craft","other"] 1 (Ae K C):=by
 refine bR F LK m λ_ _ _ _ H vs Q E hr h=>?_;obtain⟨p,q,n1,l1,n2,l2,d1,d2,o1,o2,rfl,hP,hQ,k⟩:=h;nomatch _,(ay (aJ (eU (jE K hr (jf K 0) (jf K 1)) (fJ (jE K hr (jf K 0) (jf K 1))))));obtain⟨dx,w1,w2,w3,w4,hp,r1,r2,_,_⟩:=hP;obtain⟨dy,u1,u2,u3,u4,hq,t1,t2,_,_⟩:=hQ;obtain⟨a1,rfl⟩:∃ b,w1=.ref b:=by unfold bx aq at r1;obtain⟨a,_,e,_⟩:=r1;exact⟨a,e⟩
 obtain⟨a2,rfl⟩:∃ b,w2=.ref b:=by unfold bx aq at r2;obtain⟨a,_,e,_⟩:=r2;exact⟨a,e⟩
 obtain⟨b1,rfl⟩:∃ b,u1=.ref b:=by unfold bx aq at t1;obtain⟨a,_,e,_⟩:=t1;exact⟨a,e⟩
 obtain⟨b2,rfl⟩:∃ b,u2=.ref b:=by unfold bx aq at t2;obtain⟨a,_,e,_⟩:=t2;exact⟨a,e⟩
 nofun;exists p,(C 7),dx,_,_,rfl,hp,Z.PU,Z.P4,jM _ _ _ _;nomatch q,(C 7),dy,_,_,rfl,hq,Z.PU,Z.P4,jM _ _ _ _;refine vg r1 t1 (Od (Ea _) (by decide)) ?_;rw[Ei];refine ib (λe=>?_) (λe=>by rw[e,OV]at k;exact k);rw[e,Oi]at k;nofun;exists p,(C 7),dx,_,_,rfl,hp,Z.PU,Z.P6,j9 _ _ _ _;nomatch q,(C 7),dy,_,_,rfl,hq,Z.PU,Z.P6,j9 _ _ _ _;refine vg r2 t2 (Od (Ea _) (by decide)) ?_;rw[Ei];exact k
inductive Aq (K:Fg)(C:Nat->Addr)(vs:QV)(H:Hp)(Q:VK)(E:XK):Prop
 |mk (ha la va p:Addr) (n:Int) (ks:QS) (cr:Int->Cr) (ws:QS) (fp:QW) (c:Cr):vs=[.ref ha,.int n,.ref p]->cn (C 8) (C 7) H ha la va ks cr ws fp->iV K (C 7) H p c.PJ c.PB c.PD c.PF->c.Nine->n.natAbs<fL->(n∈ks\/ks.length<60)->(c.right=false->∀ H',ae H H'->E (.ref (C 1)) none H')->(c.right=true->∀ H' ks' ws' fp',bc [la,va] H H'->cn (C 8) (C 7) H' ha la va ks' (iu cr n c) ws' fp'->(∀ m,m∈ks'↔m∈ks\/m=n)->(n∈ks->ks'=ks)->(n∉ks->ks'=ks++[n])->
  (∀ m,m∈ws'↔m∈ws/\m≠n/\(n∈ks->¬ ((cr n).PJ=c.PJ/\(cr n).PB=c.PB)->n∉fK ks cr m))->(∀ b∈fp',b∈fp\/H b=none)->Q .non H')->Aq K C vs H Q E
include B Z Q2c Q73 in
theorem Lw (G_right:Fn P w K mg b8 "right" ["craft"] 7 (AN K C))(Q75:bK bL P w K mg b8 (C 8) "release_callers" ["self","number"] 3 (Af K C))(Q77:Fn P w K mg b8 "same_oath" ["craft","other"] 1 (Ae K C))(F:aS K "lay" "Hall.lay" xy f fd)(M:br K (C 8) "lay" f):bK (cU P w) P w K mg b8 (C 8) "lay" ["self","number","craft"] 8 (Aq K C):=by
 refine uP F M Lo λ_ _ _ _ H vs Q E hr h=>?_;obtain⟨ha,la,va,p,n,ks,cr,ws,fp,c,rfl,hA,hT,nine,hn,hfew,qE,qQ⟩:=h;refine⟨_,(az (bq (iU (fg (jl G_right hr (jn 2 ag)))) (ay (pD Z.QF rfl Z.QE rfl pA (eL (Bo (pv 1) (by decide+kernel) (by decide+kernel)) ag))) bE)
   (az (bq (PW.pt (vM (mi (vO (cu hr) (pv 1) (jf K 0))) (ww (iU (fg (jl Q77 hr (bn (ly (cu hr) (jf K 0) (pv 1) (λ_ _=>rfl)) (jn 2 ag)))))))) (ay (dC (cS Q75 Z.P3 hr cf (pv 0) (jn 1 ag)))) bE)
   (az (dC (cS Q73 Z.P3 hr cf (pv 0) (jn 1 ag)))
   (ay (tO (cu hr) (jf K 0) (pv 1) (jl Q2c hr (jn 2 ag)) rfl))))),?_⟩
 have g1:=nine.n;have g2:=nine.l;have g3:=nine.d;have g4:=nine.o;left;nofun;refine⟨p,c.PJ,c.PB,c.PD,c.PF,rfl,hT.1,by omega,by omega,by omega,by omega,nine.n9,nine.l9,nine.d9,λls hl=>⟨by have:=(nine.o9 ls hl).1;omega,(nine.o9 ls hl).2⟩,λH1 s1=>?_⟩;cases hr':gm c.PJ c.PB c.PD c.PF with
 |false=>nofun;refine⟨hn,λz=>?_⟩;nofun;exact⟨(by right),qE hr' _ s1⟩
 |true=>
 have qQ:=qQ hr';clear qE;have rtc:c.Rt:=⟨nine,hr'⟩;nofun;have hA1:=hA.same s1;have hT1:=iV.same s1 hT;have oA:∀{Hx:Hp},bc [va] H1 Hx->iV K (C 7) Hx p c.PJ c.PB c.PD c.PF:=λ{Hx} o=>by
  obtain⟨kv,hv,_⟩:=hA1.vou;have nd:=o.nod λa ha=>by rw[bu.mp ha];exact⟨_,hv⟩
  obtain⟨k0,dx,w1,w2,b3,w4,P9,k1,k2,k3⟩:=hT1;exact⟨k0.nod nd,dx,w1,w2,b3,w4,P9,nd _ _ k1 (λ_ z=>by cases z),nd _ _ k2 (λ_ z=>by cases z),R2.mono k3 λ_ _ z=>z.sq nd.sq⟩
 with_reducible refine jD (λσ H'=>σ=[some (.ref ha),some (.int n),some (.ref p)]/\∃ ws',bc [va] H1 H'/\cn (C 8) (C 7) H' ha la va ks cr ws' fp/\∀ m,m∈ws'↔m∈ws/\(n∈ks->¬ ((cr n).PJ=c.PJ/\(cr n).PB=c.PB)->n∉fK ks cr m)) (λNX tail=>?_) ?_
 ·obtain⟨dx,hh⟩:=hA1.ins;obtain⟨kvs,P8,hk⟩:=hA1.laid;nofun;nomatch ha,(C 8),dx,_,_,rfl,hh,Z.P3,Z.P5,jI _ _;nomatch la,_,rfl,bj.k (k:=.inl n) P8;by_cases hm:n∈ks
  ·obtain⟨v,hv,q,f,rfl,hC,hf⟩:=hk.2.2 n hm;rw[hv];nofun;refine fO (λ_=>?_) (λz=>by cases z);nofun;exists ha,(C 8),dx,_,_,rfl,hh,Z.P3,Z.P5,jI _ _;refine⟨la,.ref q,rfl,by rw[<-hv];exact bj.k (k:=.inl n) P8,?_⟩;nofun;nomatch q,p,(cr n).PJ,(cr n).PB,c.PJ,c.PB,_,_,_,_,rfl,hC.at,hT1.1;cases hs:(decide ((cr n).PJ=c.PJ)&&decide ((cr n).PB=c.PB))with
   |true=>nofun;rw[NS,NY,NY]at hs;exact tail _ _ ⟨rfl,ws,(ae.refl _).offA,hA1,λm=>⟨λz=>⟨z,λ_ w=>Oa hs w⟩,λz=>z.1⟩⟩
   |false=>
    have hs':¬ ((cr n).PJ=c.PJ/\(cr n).PB=c.PB):=λz=>by rw[N0 z.1,N0 z.2]at hs;cases hs
    nofun;exists ha,dx,_,rfl,hh,gZ;refine⟨ha,la,va,n,ks,cr,ws,fp,rfl,hA1,λH2 ws2 o2 hA2 hm2=>?_⟩;nofun;refine tail _ _ ⟨rfl,ws2,o2,hA2,λm=>?_⟩;rw[hm2];exact⟨λz=>⟨z.1,λ_ _=>z.2⟩,λz=>⟨z.1,z.2 hm hs'⟩⟩
  ·rw[hk.no hm];nofun;refine fO (λz=>by cases z) (λ_=>?_);nofun;exact tail _ _ ⟨rfl,ws,(ae.refl _).offA,hA1,λm=>⟨λz=>⟨z,λw=>Oa w hm⟩,λz=>z.1⟩⟩
 rintro σ H2 ⟨rfl,ws2,o2,hA2,hm2⟩;obtain⟨dx2,hh2⟩:=hA2.ins;left;nofun;exists ha,dx2,_,rfl,hh2,gZ;refine⟨ha,la,va,n,ks,cr,ws2,fp,rfl,hA2,λH3 ws3 o3 hA3 hm3=>?_⟩;have o13:=o2.trans o3;nofun;refine⟨p,c,rfl,oA o13,nine,λq f H4 s4 hC hf fn=>?_⟩;have hA4:=hA3.same s4;obtain⟨dx4,hh4⟩:=hA4.ins;obtain⟨kvs,P8,hk⟩:=hA4.laid;nofun;exists ha,(C 8),dx4,_,_,rfl,hh4,Z.P3,Z.P5,jI _ _;have hkl:=hk.len;have h60:=hA.few;nomatch la,_,rfl,fE.k (k:=.inl n) P8 (kc (by omega));have nd5:gE H4 (upd H4 la (.dK (bi kvs (.inl n) (.ref q)))):=pz P8;obtain⟨kv,hva,hkv⟩:=hA4.vou;have put:=hk.put' (m:=n) (v:=.ref q) (P':=ni (C 7) (upd H4 la (.dK (bi kvs (.inl n) (.ref q)))) (iu cr n c) (f++fp)) ⟨q,f,rfl,by unfold iu;rw[NU rfl];exact hC.nod nd5,λb hb=>Ob _ hb⟩ (λk v ne ⟨p',f',e1,e2,e3⟩=>⟨p',f',e1,by unfold iu;rw[NR ne];exact e2.nod nd5,λb hb=>N3 _ (e3 b hb)⟩);have kss:∀ m,m∈(if n∈ks then ks else ks++[n])↔m∈ks\/m=n:=λm=>by
  by_cases z:n∈ks
  ·rw[NU z];exact⟨.inl,λw=>by rcases w with w|w;exact w;rw[w];exact z⟩
  ·rw[NR z];simp
 refine qQ _ (if n∈ks then ks else ks++[n]) ws3 (f++fp) ?_ ⟨?_,⟨_,aw,put⟩,⟨kv,by rw[aE hA4.ne.symm];exact hva,hkv⟩,hA4.ne,λm hm=>?_,?_,λm hm=>?_,λb hb=>?_⟩ kss (λz=>by rw[NU z]) (λz=>by rw[NR z]) (λm=>?_) (λb hb=>?_)
 ·refine bc.trans (s1.offA.trans ?_) (s4.offA.trans (ii (by simp)));exact bc.putDict o13 λb hb=>by rw[bu.mp hb];simp
 ·exact⟨dx4,nd5 _ _ hh4 (λ_ z=>by cases z)⟩
 ·unfold iu;by_cases z:m=n
  ·rw[NU z];exact rtc
  ·rw[NR z];exact hA.rt m (by rcases(kss m).mp hm with w|w;exact w;exact Oa w z)
 ·by_cases z:n∈ks
  ·rw[NU z];exact hA.few
  ·rw[NR z,N4,List.length_singleton];rcases hfew with w|w
   ·exact Oa w z
   ·omega
 ·exact(kss m).mpr (.inl (hA4.sub m hm))
 ·rcases bC.mp hb with z|z
  ·obtain⟨o,e,n⟩:=hC.hasN b z;exact⟨o,nd5 b o e n,n⟩
  ·obtain⟨o,e,n⟩:=hA4.has b z;exact⟨o,nd5 b o e n,n⟩
 ·rw[hm3,hm2];exact⟨λz=>⟨z.1.1,z.2,z.1.2⟩,λz=>⟨⟨z.1,z.2.2⟩,z.2.1⟩⟩
 ·rcases bC.mp hb with z|z
  ·refine .inr ?_;have e3:=hf b z;cases eb:H b with
   |none=>rfl
   |some o=>
    exfalso;by_cases nb:b=va
    ·obtain⟨kv3,hv3,_⟩:=hA3.vou;rw[nb,hv3]at e3;cases e3
    ·have:=o13 b o (by simp[nb]) (s1 _ _ eb);rw[this]at e3;cases e3
  ·exact .inl z
inductive Aj (K:Fg)(C:Nat->Addr)(vs:QV)(H:Hp)(Q:VK)(E:XK):Prop
 |mk (ha dx la va:Addr) (n:Int) (kvs:List (bp×V)):vs=[.ref ha,.int n]->H ha=some (.ins (C 8) dx (iz la va))->H la=some (.dK kvs)->n.natAbs<fL->(aI kvs (.inl n)=none->E (.ref (C 2)) none H)->((aI kvs (.inl n)).isSome=true->Q .non H)->Aj K C vs H Q E
include B Z in
theorem M9 (F:aS K "must_stand" "Hall.must_stand" yS f fd)(M:br K (C 8) "must_stand" f):bK (cU P w) P w K mg b8 (C 8) "must_stand" ["self","number"] 1 (Aj K C):=by
 refine uP F M Na λ_ _ _ _ H vs Q E hr h=>?_;obtain⟨ha,dx,la,va,n,kvs,rfl,hh,P8,hn,qE,qQ⟩:=h;exists _,(ay (bq (mi (pL (cu hr) (pv 1) (jf K 0))) (ay (pD Z.Qw rfl Z.Qu rfl pA (eL (vE (pv 1) (by decide+kernel)) ag))) bE));nomatch ha,(C 8),dx,_,_,rfl,hh,Z.P3,Z.P5,jI _ _;nomatch la,_,rfl,bj.k (k:=.inl n) P8;cases hv:aI kvs (.inl n)with
 |none=>nofun;refine fO (λ_=>?_) (λz=>by cases z);nofun;refine⟨hn,λz=>?_⟩;nofun;exact⟨(by right),qE hv⟩
 |some y=>nofun;refine fO (λz=>by cases z) (λ_=>?_);nofun;exact qQ (by rw[hv];rfl)
inductive Ai (K:Fg)(C:Nat->Addr)(vs:QV)(H:Hp)(Q:VK)(E:XK):Prop
 |mk (ha la va:Addr) (n:Int) (ks:QS) (cr:Int->Cr) (ws:QS) (fp:QW):vs=[.ref ha,.int n]->cn (C 8) (C 7) H ha la va ks cr ws fp->n.natAbs<fL->(n∉ks->E (.ref (C 2)) none H)->(n∈ks->(∃ m∈dB (cr n).PD,m∉ks)->∀ H',ae H H'->E (.ref (C 3)) none H')->(n∈ks->(∀ m∈dB (cr n).PD,m∈ks)->∀ v H',ae H H'->ao H H' (.lst (((cr n).gs cr).map jT)) v->Q v H')->Ai K C vs H Q E
include B Z in
theorem Nb (Q6d:bK (cU P w) P w K mg b8 (C 8) "must_stand" ["self","number"] 1 (Aj K C))(G_duties:vd P w K mg b8 "duties" ["craft","crafts"] 6 (AD K C))(F:aS K "duties_at" "Hall.duties_at" yX f fd)(M:br K (C 8) "duties_at" f):bK (cU P w) P w K mg b8 (C 8) "duties_at" ["self","number"] 7 (Ai K C):=by
 refine uP F M Ng λ_ _ _ _ H vs Q E hr h=>?_;obtain⟨ha,la,va,n,ks,cr,ws,fp,rfl,hA,hn,q1,q2,q3⟩:=h;refine⟨_,(az (dC (cS Q6d Z.P3 hr we (pv 0) (jn 1 ag)))
   (ay (aJ (GJ G_duties hr rfl we (bn (ly (cu hr) (jf K 0) (pv 1) (λ_ _=>rfl)) (dR (jf K 0) ag)))))),?_⟩
 obtain⟨dx,hh⟩:=hA.ins;obtain⟨kvs,P8,hk⟩:=hA.laid;left;nofun;exists ha,dx,_,rfl,hh,gZ;refine⟨ha,dx,la,va,n,kvs,rfl,hh,P8,hn,λhv=>?_,λhv=>?_⟩
 ·refine q1 λz=>?_;obtain⟨v,e,_⟩:=hk.2.2 n z;rw[hv]at e;cases e
 have hm:n∈ks:=by refine O1 λz=>?_;rw[hk.no z]at hv;cases hv
 obtain⟨v,hv,p,f,rfl,hC,hf⟩:=hk.2.2 n hm;have rt:=hA.rt n hm;nofun;exists ha,(C 8),dx,_,_,rfl,hh,Z.P3,Z.P5,jI _ _;refine⟨la,.ref p,rfl,by rw[<-hv];exact bj.k (k:=.inl n) P8,?_⟩;nofun;exists ha,(C 8),dx,_,_,rfl,hh,Z.P3,Z.P5,jI _ _;nomatch p,la,(cr n).PJ,(cr n).PB,(cr n).PD,(cr n).PF,kvs,kY cr,rfl,hC.t rt.nine.d9,rt.good,rt.dok,P8,rt.calledMost;by_cases hu:∃ m∈dB (cr n).PD,m∉ks
 ·obtain⟨m,mm,mk⟩:=hu;exact .inl ⟨⟨m,mm,hk.no mk⟩,q2 hm ⟨m,mm,mk⟩⟩
 ·have hall:∀ m∈dB (cr n).PD,m∈ks:=λm mm=>O1 λz=>hu ⟨m,mm,z⟩;refine .inr ⟨λm mm=>?_,λd hd=>?_,?_,λv H' s' n'=>q3 hm hall v H' s' ?_⟩
  ·obtain⟨v,e,_⟩:=hk.2.2 m (hall m mm);rw[e];rfl
  ·cases d with
   |call m g0 g1 t0 t1=>have mk:=hall m (Je hd);obtain⟨v,e,o,fo,rfl,hO,_⟩:=hk.2.2 m mk;have g:=(hA.rt m mk).good;exact⟨o,_,_,e,hO.at,by rw[aV];exact g⟩|_=>trivial
  ·rw[<-Ek,aV];have:=(rt.gs (cr:=cr) λm mm=>hA.rt m (hall m mm)).1;unfold Cr.gs at this;omega
  ·unfold Cr.gs;rw[Ek];exact n'
inductive An (K:Fg)(C:Nat->Addr)(vs:QV)(H:Hp)(Q:VK)(E:XK):Prop
 |mk (ha la va:Addr) (n:Int) (ks:QS) (cr:Int->Cr) (ws:QS) (fp:QW):vs=[.ref ha,.int n]->cn (C 8) (C 7) H ha la va ks cr ws fp->n.natAbs<fL->(n∉ks->E (.ref (C 2)) none H)->(n∈ks->(∃ m∈dB (cr n).PD,m∉ks)->∀ H',ae H H'->E (.ref (C 3)) none H')->(n∈ks->(∀ m∈dB (cr n).PD,m∈ks)->∀ v H' ws',bc [va] H H'->cn (C 8) (C 7) H' ha la va ks cr ws' fp->(∀ m,m∈ws'↔m∈ws\/(m=n/\ke ((cr n).gs cr)))->ao H H' (.lst (((cr n).gs cr).map λg=>fm (eX g.1 g.2))) v->Q v H')->An K C vs H Q E
include B Z in
theorem LB (G_sought:Fn P w K mg b8 "sought" ["duty"] 3 (As K))(Q6f:bK (cU P w) P w K mg b8 (C 8) "duties_at" ["self","number"] 7 (Ai K C))(F:aS K "seek" "Hall.seek" xQ f fd)(M:br K (C 8) "seek" f):bK (cU P w) P w K mg b8 (C 8) "seek" ["self","number"] 8 (An K C):=by
 refine uP F M uF λ_ _ _ _ H vs Q E hr h=>?_;obtain⟨ha,la,va,n,ks,cr,ws,fp,rfl,hA,hn,q1,q2,q3⟩:=h;refine⟨_,(az (jS 2 uF.nd (bG.f uF ["self","number","rows","duty"] [false,false,false,true]) (db K (cS Q6f Z.P3 hr we (pv 0) (jn 1 ag))) (λn=>(jg 3 n)) (jl G_sought hr (jn 3 ag)))
   (az (bq (fg (cq (ju K rfl) rfl B.all L2.jO (ie (jC (bG.f uF ["self","number","rows","row"] [false,false,false,true]) (db K (pv 2)) (λn=>(jg 3 n)) (jv wv (pv 3) gH)) ag))) (ay (tO (cu hr) (jf K 0) (pv 1) gk rfl)) bE)
   (ay (aJ (pv 2))))),?_⟩
 obtain⟨dx,hh⟩:=hA.ins;left;nofun;exists ha,dx,_,rfl,hh,gZ;refine⟨ha,la,va,n,ks,cr,ws,fp,rfl,hA,hn,q1,q2,λhm hall v H1 s1 n1=>?_⟩;have rt:=hA.rt n hm;obtain⟨gl,gf⟩:=rt.gs (cr:=cr) λm mm=>hA.rt m (hall m mm);have q3:=q3 hm hall;generalize (cr n).gs cr=gs at*;obtain⟨da,xs,dfp,rfl,da0,hda,hfr,_⟩:=ao.lso n1;have rX:=ak.duties hfr;have lx:=rX.1;nomatch da,rfl,⟨_,ar.of hda⟩;refine cX (dY (ar.of hda)) (gs.map λg=>fm (eX g.1 g.2)) (by rw[aV];exact lx) (bF (by omega)) (λj x d H2 R hj hd s2 hx hR=>?_) (λv H2 s2 n2=>?_)
 ·rw[aR]at hd;obtain⟨g,hg,rfl⟩:=ce.mp hd;obtain⟨T,ga,na,rfl,hT,hga,hL⟩:=(rX.2 j g x hg hx).same s2;obtain⟨k9,k4,k99⟩:=gf g (bT hg);obtain⟨ys,hna,lys,rys⟩:=hL.out (K:=K);nofun;exact⟨T,ga,na,g.1,g.2,ys,rfl,aH.of hT,hga,hna,rys,k9,k99,by omega,λv H3 s3 n3=>hR v H3 s3 n3⟩
 have s02:=s1.trans s2;have n02:=n2.back s1;obtain⟨ra,rvs,rfp,rfl,ra0,hra,hrr,_⟩:=ao.lso n02;have lr:=hrr.length;rw[aV]at lr;nofun;have hnon:∀(j:Nat) g x,gs[j]?=some g->rvs[j]?=some x->decide (x=V.non)=!(eX g.1 g.2).isSome:=λj g x e1 e2=>by
  obtain⟨f,hf⟩:=ak.item hrr j (fm (eX g.1 g.2)) x (by rw[aR,e1];rfl) e2;cases hs:eX g.1 g.2 with
  |none=>rw[hs]at hf;unfold fm ai at hf;rw[hf.1];rfl
  |some r=>obtain⟨w,r⟩:=r;rw[hs]at hf;unfold fm ai at hf;obtain⟨a,_,e,_⟩:=hf;rw[e,wd];rfl
 with_reducible refine jD (λσ H'=>σ=[some (.ref ha),some (.int n),some (.ref ra)]/\∃ ws',bc [va] H2 H'/\cn (C 8) (C 7) H' ha la va ks cr ws' fp/\(∀ m,m∈ws'↔m∈ws\/(m=n/\ke gs))/\ao H H' (.lst (gs.map λg=>fm (eX g.1 g.2))) (.ref ra)) (λNX tail=>?_) ?_
 ·nofun;nomatch ra,rfl,⟨_,ar.of hra⟩;refine cX (dY (ar.of hra)) ((gs.map λg=>(eX g.1 g.2).isSome).map D.bl) (by simp[lr]) (bF (by omega)) (λj x d H3 R hj hd s3 hx hR=>?_) (λv H3 s3 n3=>?_)
  ·rw[aR,aR]at hd;obtain⟨b,hb,rfl⟩:=ce.mp hd;obtain⟨g,hg,rfl⟩:=ce.mp hb;nofun;nomatch rfl;rw[hnon j g x hg hx,Bool.not_not];exact hR _ _ (ae.refl _) ao.bl
  obtain⟨ba,rfl,ba0,hba⟩:=ao.bls n3;nofun;refine jw (ar.of hba) ?_;have s03:=s02.trans s3;cases hb:(gs.map λg=>(eX g.1 g.2).isSome).all id with
  |true=>
   have af:ke gs:=λg hg=>by rw[ON,On]at hb;exact hb g hg
   have hA3:=hA.same s03;obtain⟨dx3,hh3⟩:=hA3.ins;obtain⟨kv,hva,hkv⟩:=hA3.vou;nofun;exists ha,(C 8),dx3,_,_,rfl,hh3,Z.P3,Z.P_,ut _ _;have kl:=hkv.len;have vl:=hA3.vfew;nomatch va,_,rfl,fE.k (k:=.inl n) hva (kc (by omega));have put:=hkv.put (m:=n) (v:=.bl true) rfl;have wss:∀ m,m∈(if n∈ws then ws else ws++[n])↔m∈ws\/m=n:=λm=>by
    by_cases z:n∈ws
    ·rw[NU z];exact⟨.inl,λw=>by rcases w with w|w;exact w;rw[w];exact z⟩
    ·rw[NR z];simp
   refine tail _ _ ⟨rfl,_,s3.offA.trans (ii (by simp)),hA3.putV put λm hm'=>?_,λm=>?_,(n02.same s3).sq (pz hva).sq⟩
   ·rcases(wss m).mp hm' with w|w
    ·exact hA.sub m w
    ·rw[w];exact hm
   ·rw[wss];exact⟨λz=>by rcases z with z|z;exact .inl z;exact .inr ⟨z,af⟩,λz=>by rcases z with z|z;exact .inl z;exact .inr z.1⟩
  |false=>
   have af:¬ ke gs:=λz=>by
    have:(gs.map λg=>(eX g.1 g.2).isSome).all id=true:=by rw[ON,On];exact z
    rw[this]at hb;cases hb
   nofun;exact tail _ _ ⟨rfl,ws,s3.offA,hA.same s03,λm=>⟨.inl,λz=>by rcases z with z|z;exact z;exact Oa z.2 af⟩,n02.same s3⟩
 rintro σ H3 ⟨rfl,ws3,o3,hA3,hm3,n3⟩;nofun;exact q3 _ _ ws3 (s02.offA.trans o3) hA3 hm3 n3
inductive Am (K:Fg)(C:Nat->Addr)(vs:QV)(H:Hp)(Q:VK)(E:XK):Prop
 |mk (ha la va:Addr) (n:Int) (ks:QS) (cr:Int->Cr) (ws:QS) (fp:QW):vs=[.ref ha,.int n]->cn (C 8) (C 7) H ha la va ks cr ws fp->Q (.bl (decide (n∈ws))) H->Am K C vs H Q E
include B Z in
theorem LA (F:aS K "held" "Hall.held" xP f fd)(M:br K (C 8) "held" f):bK bL P w K mg b8 (C 8) "held" ["self","number"] 1 (Am K C):=by
 refine eP F M LL λ_ _ _ _ H vs Q E hr h=>?_;obtain⟨ha,la,va,n,ks,cr,ws,fp,rfl,hA,q⟩:=h;nomatch _,(ay (aJ (HL (vO (cu hr) (pv 1) (jf K 0)))));obtain⟨dx,hh⟩:=hA.ins;obtain⟨kvs,hva,hk⟩:=hA.vou;nofun;nomatch ha,(C 8),dx,_,_,rfl,hh,Z.P3,Z.P_,ut _ _;nomatch va,_,rfl,bj.k (k:=.inl n) hva;by_cases hm:n∈ws
 ·obtain⟨v,hv,_⟩:=hk.2.2 n hm;rw[hv];rw[N0 hm]at q;exact q
 ·rw[hk.no hm];rw[N7 hm]at q;exact q
inductive cT (ks:QS)(cr:Int->Cr)(n:Int):Int->Prop
 |me:cT ks cr n n|go {m k:Int}:cT ks cr n m->k∈fK ks cr m->cT ks cr n k
inductive Al (K:Fg)(C:Nat->Addr)(vs:QV)(H:Hp)(Q:VK)(E:XK):Prop
 |mk (ha la va:Addr) (n:Int) (ks:QS) (cr:Int->Cr) (ws:QS) (fp:QW) (us:QS):vs=[.ref ha,.int n]->cn (C 8) (C 7) H ha la va ks cr ws fp->n∈us->(∀ m,∀ k∈fK ks cr m,k∈us)->us.length<64->(∀ l H' (rs:QS),ae H H'->H l=none->H' l=some (.lst (rs.map V.int))->(∀ m,m∈rs↔cT ks cr n m)->rs.Pairwise (·<=·)->rs.Nodup->Q (.ref l) H')->Al K C vs H Q E
theorem FR {ks:QS}{cr:Int->Cr}(h:∀ m∈ks,(cr m).Rt)(m:Int):(fK ks cr m).length<=8:=by
 unfold fK;split
 ·rename_i z;have:=(h m z).parts.2.2.1.2;have:(dB (cr m).PD).length<=(cr m).PD.length:=List.length_filterMap_le _ _;omega
 ·simp
include B Z Q71 in
theorem Mj (F:aS K "reach" "Hall.reach" yo f fd)(M:br K (C 8) "reach" f):bK bL P w K mg b8 (C 8) "reach" ["self","number"] 3 (Al K C):=by
 refine eP F M uJ λ_ _ _ _ H vs Q E hr h=>?_;obtain⟨ha,la,va,n,ks,cr,ws,fp,us,rfl,hA,nu,hu,lu,q⟩:=h;refine⟨_,(az (js 2 uJ.nd ud)
   (az (js 3 uJ.nd (bv (jn 1 ag)))
   (az (uf PassesOwn.never (vp K (pv 3)) (az (js 4 uJ.nd (BS Pk PySem.F.slot_list_pop PySem.F.type_list_pop BR (pv 3)))
   (ay (bq (mi (pL (cu hr) (pv 4) (pv 2))) (az (tO (cu hr) (pv 2) (pv 4) gk rfl)
   (ay (dC (nC Pk PySem.F.slot_list_extend PySem.F.type_list_extend DS (pv 3) (bH (cS Q71 Z.P3 hr cf (pv 0) (jn 4 ag)) ag))))) bE))))
   (ay (aJ (cq (ER rfl) rfl B.sorted L2.EC (jn 2 ag))))))),?_⟩
 nofun;left;nofun;intro ra ra0;have s1:=aB ra0 (.dK []);have hra1:(upd H ra (.dK [])) ra=some (.dK []):=aw;generalize upd H ra (.dK [])=H1 at*;nofun;left;nofun;refine⟨(by right),λwa wa1=>?_⟩;have s2:=s1.trans (aB wa1 (.lst [V.int n]));have hra2:=aB wa1 (.lst [V.int n]) _ _ hra1;have wa0:=s1.free wa1;have hwa2:(upd H1 wa (.lst [V.int n])) wa=some (.lst ([n].map V.int)):=aw;generalize upd H1 wa (.lst [V.int n])=H2 at*;nofun;with_reducible refine jD (λσ H'=>E3 λx4 kvs rs=>A6 (σ=[some (.ref ha),some (.int n),some (.ref ra),some (.ref wa),x4]) (ae H H') (H' ra=some (.dK kvs)) (dk (λ_ v=>v=.bl true) kvs rs) ((∀ m,m∈rs↔cT ks cr n m)) (rs.length<64)) (λNX tail=>?_) ?_
 ·refine⟨(λm σ H'=>E4 λx4 kvs wt rs=>Ft (σ=[some (.ref ha),some (.int n),some (.ref ra),some (.ref wa),x4]) (m=9*(us.length - rs.length)+wt.length) (ae H H') (H' ra=some (.dK kvs)) (H' wa=some (.lst (wt.map V.int))) (dk (λ_ v=>v=.bl true) kvs rs) ((∀ m,m∈rs\/m∈wt->cT ks cr n m/\m∈us)) ((∀ m∈rs,∀ k∈fK ks cr m,k∈rs\/k∈wt)) ((n∈rs\/n∈wt)) (9*(us.length - rs.length)+wt.length<=600)),⟨_,none,[],[n],[],rfl,rfl,s2,hra2,hwa2,dk.nil,(λm hm=>by
   rcases hm with z|z
   ·cases z
   ·rw[bu.mp z];exact⟨.me,nu⟩),(λm hm=>by cases hm),.inr (bu.mpr rfl),by simp;omega⟩,?_⟩
  rintro m σ H3 ⟨x4,kvs,wt,rs,rfl,rfl,s3,hra3,hwa3,hk3,ru3,cl3,n3,l3⟩;have rlen:rs.length<=us.length:=nZ hk3.2.1 λm hm=>(ru3 m (.inl hm)).2;nofun;refine vD (ar.of hwa3) ?_;rcases List.eq_nil_or_concat wt with rfl|⟨wt,o,rfl⟩
  ·nofun;refine tail _ _ ⟨x4,kvs,rs,rfl,s3,hra3,hk3,λm=>⟨λz=>(ru3 m (.inl z)).1,λz=>?_⟩,by omega⟩;induction z with
   |me=>exact n3.resolve_right (by simp)
   |go _ hk ih=>exact(cl3 _ ih _ hk).resolve_right (by simp)
  ·have e:(wt.concat o).map V.int=wt.map V.int++[V.int o]:=by rw[List.concat_eq_append,Oe];rfl
   rw[e]at hwa3;rw[e];rw[List.length_concat]at l3 ⊢;have mo:∀{x:Int},x∈wt.concat o↔x∈wt\/x=o:=λ{x}=>by rw[List.concat_eq_append,bC,bu]
   obtain⟨ro,uo⟩:=ru3 o (.inr (mo.mpr (.inr rfl)));have nwr:ra≠wa:=tf hra3 hwa3 (by intro z;cases z);rw[show(!(wt.map V.int++[V.int o]).isEmpty)=true by cases wt<;>rfl];nofun;exists (λσ H'=>E4 λx4 kvs wt' rs'=>A9 (σ=[some (.ref ha),some (.int n),some (.ref ra),some (.ref wa),x4]) (9*(us.length - rs'.length)+wt'.length<9*(us.length - rs.length)+(wt.length+1)) (ae H H') (H' ra=some (.dK kvs)) (H' wa=some (.lst (wt'.map V.int))) (dk (λ_ v=>v=.bl true) kvs rs') ((∀ m,m∈rs'\/m∈wt'->cT ks cr n m/\m∈us)) ((∀ m∈rs',∀ k∈fK ks cr m,k∈rs'\/k∈wt')) ((n∈rs'\/n∈wt'))),λσ' H' ⟨y4,kvs',wt',rs',z1,z2,z3,z4,z5,z6,z7,z8,z9⟩=>⟨_,z2,y4,kvs',wt',rs',z1,rfl,z3,z4,z5,z6,z7,z8,z9,by omega⟩;left;nofun;exists lK hwa3;refine Bn hwa3 (y:=.int o) (by rw[N4];simp) ?_;rw[List.dropLast_concat];have s4:ae H (upd H3 wa (.lst (wt.map V.int))):=s3.put wa0;have hwa4:(upd H3 wa (.lst (wt.map V.int))) wa=some (.lst (wt.map V.int)):=aw;have hra4:(upd H3 wa (.lst (wt.map V.int))) ra=some (.dK kvs):=by rw[aE nwr];exact hra3
   generalize upd H3 wa (.lst (wt.map V.int))=H4 at*;nofun;by_cases ho:o∈rs
   ·obtain⟨v,e1,_⟩:=hk3.2.2 o ho;refine⟨ra,some v,rfl,by rw[<-e1];exact bj.k (k:=.inl o) hra4,?_⟩;dsimp only[Option.isSome];nofun;nomatch _,kvs,wt,rs,rfl,by omega,s4,hra4,hwa4,hk3,λm hm=>ru3 m (hm.imp_right λz=>mo.mpr (.inl z)),λm hm k hk=>?_
    ·rcases cl3 m hm k hk with z|z
     ·exact .inl z
     ·rcases mo.mp z with w|w
      ·exact .inr w
      ·rw[w];exact .inl ho
    ·rcases n3 with z|z
     ·exact .inl z
     ·rcases mo.mp z with w|w
      ·exact .inr w
      ·rw[w];exact .inl ho
   ·refine⟨ra,none,rfl,by rw[<-hk3.no ho];exact bj.k (k:=.inl o) hra4,?_⟩;dsimp only[Option.isSome];have kl:=hk3.len;nofun;left;nofun;nomatch ra,_,rfl,fE.k (k:=.inl o) hra4 (kc (by omega));have put:=hk3.put (m:=o) (v:=.bl true) rfl;rw[NR ho]at put;have s5:ae H (upd H4 ra (.dK (bi kvs (.inl o) (.bl true)))):=s4.put ra0;have hra5:(upd H4 ra (.dK (bi kvs (.inl o) (.bl true)))) ra=some (.dK (bi kvs (.inl o) (.bl true))):=aw;have hwa5:(upd H4 ra (.dK (bi kvs (.inl o) (.bl true)))) wa=some (.lst (wt.map V.int)):=by rw[aE nwr.symm];exact hwa4
    generalize upd H4 ra (.dK (bi kvs (.inl o) (.bl true)))=H5 at*;have hA5:=hA.same s5;obtain⟨dx,hh⟩:=hA5.ins;nofun;exists lK hwa5;exists ha,dx,_,rfl,hh,gZ;refine⟨ha,la,va,o,ks,cr,ws,fp,rfl,hA5,λv H6 s6 n6=>?_⟩;obtain⟨ca,rfl,ca0,hca⟩:=ao.iif.mp n6;have c8:=FR hA.rt o;nofun;refine⟨wa,ca,_,_,rfl,rfl,s6 _ _ hwa5,hca,Od (m:=1000) (by rw[aV,aV];omega) (by decide),?_⟩;have s7:ae H (upd H6 wa (.lst (wt.map V.int++(fK ks cr o).map V.int))):=(s5.trans s6).put wa0;have rl2:rs.length<us.length:=by
     have:=nZ (l:=rs++[o]) (m:=us) put.2.1 λm hm=>by
      rcases bC.mp hm with z|z
      ·exact(ru3 m (.inl z)).2
      ·rw[bu.mp z];exact uo
     rw[N4]at this;exact this
    nofun;refine⟨_,_,wt++fK ks cr o,rs++[o],rfl,by rw[N4,N4];show 9*(us.length - (rs.length+1))+_<_;omega,s7,by rw[aE nwr];exact s6 _ _ hra5,by rw[aw,Oe],put,λm hm=>?_,λm hm k hk=>?_,?_⟩
    ·rcases hm with z|z
     ·rcases bC.mp z with w|w
      ·exact ru3 m (.inl w)
      ·rw[bu.mp w];exact⟨ro,uo⟩
     ·rcases bC.mp z with w|w
      ·exact ru3 m (.inr (mo.mpr (.inl w)))
      ·exact⟨.go ro w,hu o m w⟩
    ·rcases bC.mp hm with z|z
     ·rcases cl3 m z k hk with w|w
      ·exact .inl (Ob _ w)
      ·rcases mo.mp w with y|y
       ·exact .inr (Ob _ y)
       ·rw[y];exact .inl (N3 _ (bu.mpr rfl))
     ·rw[bu.mp z]at hk;exact .inr (N3 _ hk)
    ·rcases n3 with z|z
     ·exact .inl (Ob _ z)
     ·rcases mo.mp z with w|w
      ·exact .inr (Ob _ w)
      ·rw[w];exact .inl (N3 _ (bu.mpr rfl))
 rintro σ H3 ⟨x4,kvs,rs,rfl,s3,hra3,hk3,hrs,l64⟩;nofun;refine Cp hra3 hk3.1 l64 λl rs' l0 pm so=>?_;exact q l _ rs' (s3.trans (aB l0 _)) (s3.free l0) aw (λm=>by rw[pm.mem_iff];exact hrs m) so (pm.nodup_iff.mpr hk3.2.1)
inductive Ak (K:Fg)(C:Nat->Addr)(vs:QV)(H:Hp)(Q:VK)(E:XK):Prop
 |mk (ha la va:Addr) (n:Int) (ks:QS) (cr:Int->Cr) (ws:QS) (fp:QW) (us:QS):vs=[.ref ha,.int n]->cn (C 8) (C 7) H ha la va ks cr ws fp->n∈us->(∀ m,∀ k∈fK ks cr m,k∈us)->us.length<64->(∀ H' b,ae H H'->(b=true↔∀ m,cT ks cr n m->m∈ws)->Q (.bl b) H')->Ak K C vs H Q E
include B Z in
theorem Mi (Q67:bK bL P w K mg b8 (C 8) "held" ["self","number"] 1 (Am K C))(Q69:bK bL P w K mg b8 (C 8) "reach" ["self","number"] 3 (Al K C))(F:aS K "sworn" "Hall.sworn" yn f fd)(M:br K (C 8) "sworn" f):bK bL P w K mg b8 (C 8) "sworn" ["self","number"] 4 (Ak K C):=by
 refine eP F M EE λ_ _ _ _ H vs Q E hr h=>?_;obtain⟨ha,la,va,n,ks,cr,ws,fp,us,rfl,hA,nu,hu,lu,q⟩:=h;nomatch _,(ay (aJ (cq (ju K rfl) rfl B.all L2.jO (ie (jC (bG.f EE ["self","number","other"] [false,false,true]) (db K (cS Q69 Z.P3 hr cf (pv 0) (jn 1 ag))) (λn=>(jg 2 n)) (cS Q67 Z.P3 hr cf (pv 0) (jn 2 ag))) ag))));obtain⟨dx,hh⟩:=hA.ins;nofun;exists ha,dx,_,rfl,hh,gZ;refine⟨ha,la,va,n,ks,cr,ws,fp,us,rfl,hA,nu,hu,lu,λl H1 rs s1 l0 hl hrs so nd=>?_⟩;have rl:rs.length<=us.length:=nZ nd λm hm=>by
  cases(hrs m).mp hm with
  |me=>exact nu
  |go _ hk=>exact hu _ _ hk
 have hA1:=hA.same s1;nomatch l,rfl,⟨_,ar.of hl⟩;refine cX (dY (ar.of hl)) ((rs.map λm=>decide (m∈ws)).map D.bl) (by simp) (bF (by simp;omega)) (λj x d H2 R hj hd s2 hx hR=>?_) (λv H2 s2 n2=>?_)
 ·rw[aR]at hx;obtain⟨m,hm,rfl⟩:=ce.mp hx;rw[aR,aR,hm]at hd;cases hd;have hA2:=hA1.same s2;obtain⟨dx2,hh2⟩:=hA2.ins;nofun;exists ha,dx2,_,rfl,hh2,gZ;nomatch ha,la,va,m,ks,cr,ws,fp,rfl,hA2;exact hR _ _ (ae.refl _) ao.bl
 obtain⟨ba,rfl,ba0,ba1⟩:=ao.bls n2;nofun;refine jw (ar.of ba1) ?_;refine q _ _ (s1.trans s2) ?_;rw[On];constructor
 ·intro z m hm;have:=z (decide (m∈ws)) (bB.mpr ⟨m,(hrs m).mpr hm,rfl⟩);exact N8 this
 ·intro z b hb;obtain⟨m,hm,rfl⟩:=bB.mp hb;exact N0 (z m ((hrs m).mp hm))
inductive uT (K:Fg)(vs:QV)(H:Hp)(Q:VK)(E:XK):Prop
 |mk (c k m:Int):vs=[.int c,.int k,.int m]->0<m->Q (.int (eE c k m)) H->uT K vs H Q E
theorem kH{c k m:Int}(h:0<m)(q:Q (.int (eE c k m)) H):uT K [.int c,.int k,.int m] H Q E:=⟨c,k,m,rfl,h,q⟩
include B Z in
theorem HW (F:aS K "_law_mix" "_law_mix" wx f fd)(m:mg "_law_mix"=some (.ref f)):Fn P w K mg b8 "_law_mix" ["cell","k","many"] 1 (uT K):=by refine bR F Jr m λ_ _ _ _ H vs Q E hr h=>?_;obtain⟨c,k,m,rfl,hm,q⟩:=h;nomatch _,(ay (aJ (aO cy (aO cW (aO cy (aO ik (jp K (aO cy (pv 0) aj) aj) (jp K aj (aO ik aj (pv 1)))) aj) aj) (pv 2))));have h1:=Oq c (show(2147483647:Int)≠0 by decide);have h2:=Ot c (show(0:Int)<2147483647 by decide);ac_rfl;exact q
inductive uU (K:Fg)(vs:QV)(H:Hp)(Q:VK)(E:XK):Prop
 |mk (a:Addr) (k:Int) (ns:QS):vs=[.ref a,.int k]->ar K H a (ns.map V.int)->0<=k->Q (.int (cell ns k)) H->uU K vs H Q E
theorem g_{k:Int}(h:ar K H a (ns.map V.int))(hk:0<=k)(q:Q (.int (cell ns k)) H):uU K [.ref a,.int k] H Q E:=⟨a,k,ns,rfl,h,hk,q⟩
include B Z in
theorem Lz (F:aS K "_law_cell_at" "_law_cell_at" ya f fd)(m:mg "_law_cell_at"=some (.ref f)):Fn P w K mg b8 "_law_cell_at" ["script","k"] 1 (uU K):=by
 refine bR F LJ m λ_ _ _ _ H vs Q E hr h=>?_;obtain⟨a,k,ns,rfl,hS,hk,q⟩:=h;refine⟨_,(az (bq (jc oM (pv 1) (cq (eQ K) rfl B.len L2.boot_len (jn 0 ag))) (ay (aJ (jx K (pv 0) (pv 1)))) bE)
   (ay (aJ aj))),?_⟩
 ac_rfl;refine eW (.inl hS) ?_;ac_rfl;rw[aV];unfold cell at q;refine cj (λe=>?_) (λe=>?_)
 ·have e':k<(ns.length:Int):=N8 e;ac_rfl;have hl:k.toNat<ns.length:=by omega
  refine bW hS (v:=.int (ns.getD k.toNat 0)) ?_ q;have z:fe (ns.map V.int) ((k.toNat:Nat):Int)=some (.int (ns.getD k.toNat 0)):=bJ (by simp[hl]);rwa [show((k.toNat:Nat):Int)=k by omega]at z
 ·have e':¬ k<(ns.length:Int):=N9 (Oc.mpr e);ac_rfl;have hl:ns.getD k.toNat 0=0:=by simp[List.getD,List.getElem?_eq_none (show ns.length<=k.toNat by omega)]
  rw[hl]at q;exact q
inductive uS (K:Fg)(vs:QV)(H:Hp)(Q:VK)(E:XK):Prop
 |mk (c k:Int):vs=[.int c,.int k]->(∀ H',ae H H'->Q (.int (aT c k)) H')->uS K vs H Q E
theorem xb{c k:Int}(q:∀ H',ae H H'->Q (.int (aT c k)) H'):uS K [.int c,.int k] H Q E:=⟨c,k,rfl,q⟩
variable (Q7b:Fn P w K mg b8 "_law_mix" ["cell","k","many"] 1 (uT K))
include B Z Q7b in
theorem Lv (F:aS K "_law_number" "_law_number" xx f fd)(m:mg "_law_number"=some (.ref f)):Fn P w K mg b8 "_law_number" ["cell","k"] 2 (uS K):=by
 refine bR F Er m λ_ _ _ _ H vs Q E hr h=>?_;obtain⟨c,k,rfl,q⟩:=h;refine⟨_,(az (js 2 Er.nd (jl Q7b hr (jn 0 (jn 1 (jk ag)))))
   (az (bq (jt K hr (pv 2) aj) (ay (aJ (aO mh (aO cy (pv 0) (jp K (aO ik aj (aO mf aj aj)) aj)) (aO mf aj aj)))) bE)
   (az (bq (jt K hr (pv 2) aj) (ay (aJ (jx K (bv (bN (aO mf aj aj) (iE (dP dX (aO mf aj aj)) (jk (iE (dP dX aj) ag))))) (jl Q7b hr (jn 0 (bN (jp K (pv 1) aj) (jk ag))))))) bE)
   (ay (aJ (aO mh (jl Q7b hr (jn 0 (bN (jp K (pv 1) aj) (jk ag)))) aj)))))),?_⟩
 have n1:=ki (c:=c) (k:=k+1) (m:=4) (by decide);have n2:=j4 (c:=c) (k:=k+1) (m:=4) (by decide);ac_rfl;refine kH (by decide) ?_;ac_rfl;refine cj (λe=>?_) (λe=>?_)
 ·have e':eE c k 9=0:=N8 e;ac_rfl;have q':=q H (ae.refl H);unfold aT at q';rw[NU e']at q';exact q'
 ·have e':¬ eE c k 9=0:=N9 (Oc.mpr e);ac_rfl;refine cj (λe2=>?_) (λe2=>?_)
  ·have e2':eE c k 9=1:=N8 e2;ac_rfl;refine⟨by decide,λp hp=>?_⟩;ac_rfl;refine kH (by decide) ?_;have q':=q (upd H p (.lst [.int 1000000000,.int (-1000000000),.int 999999999,.int (-999999999)])) (aB hp _);unfold aT at q';rw[NR e',NU e2']at q';refine bW (ar.of aw) ?_ q';have c4:eE c (k+1) 4=0\/eE c (k+1) 4=1\/eE c (k+1) 4=2\/eE c (k+1) 4=3:=by omega
   rcases c4 with z|z|z|z<;>rw[z]<;>rfl
  ·have e2':¬ eE c k 9=1:=N9 (Oc.mpr e2);ac_rfl;refine kH (by decide) ?_;ac_rfl;have q':=q H (ae.refl H);unfold aT at q';rw[NR e',NR e2']at q';exact q'
def xG (K:Fg):Sp:=λvs H Q _=>∃ c:Int,vs=[.int c]/\∀ v H',ae H H'->ao H H' (nums (j0 c)) v->Q v H'
theorem vK{c:Int}(q:∀ v H',ae H H'->ao H H' (nums (j0 c)) v->Q v H'):xG K [.int c] H Q E:=⟨c,rfl,q⟩
variable (Q7d:Fn P w K mg b8 "_law_number" ["cell","k"] 2 (uS K))
include B Z Q7d in
theorem J1 (F:aS K "_law_free" "_law_free" wI f fd)(m:mg "_law_free"=some (.ref f)):Fn P w K mg b8 "_law_free" ["cell"] 3 (xG K):=by
 refine bR F DG m λ_ _ _ _ H vs Q E hr h=>?_;obtain⟨c,rfl,q⟩:=h;nomatch _,(ay (aJ (jp K (jC (bG.f DG ["cell","k"] [false,true]) (iQ rfl B.range (jk ag)) (λn=>(jg 1 n)) (jl Q7d hr (jn 0 (bN (aO ik aj (pv 1)) ag)))) (bv (jk (jk ag))))));ac_rfl;refine iX (by decide) (by decide) ?_;refine cX (n:=7) lH (((List.range 7).map λ(k:Nat)=>aT c (5*(0+(k:Int)))).map D.int) (by simp) (by decide) (λi x d H1 R hi hd s1 hx hR=>?_) (λv H1 s1 n1=>?_)
 ·subst hx;rw[Ox]at hd;have hd':=pI hd;subst hd';ac_rfl;refine xb λH2 s2=>?_;exact hR _ _ s2 ao.int
 obtain⟨la,rfl,la0,la1⟩:=ao.iif.mp n1;ac_rfl;refine⟨(by right),λp hp=>?_⟩;have t1:=aB hp (.lst [V.int 0,.int 0]);ac_rfl;refine fi (t1 _ _ la1) aw ((by right)) λp2 hp2=>?_;refine q _ _ (s1.trans (t1.trans (aB hp2 _))) (ao.iif.mpr ⟨p2,rfl,(s1.trans t1).free hp2,?_⟩);rw[aw];unfold j0;rw[Oe];rfl
inductive Ad (K:Fg)(vs:QV)(H:Hp)(Q:VK)(E:XK):Prop
 |mk (c count:Int):vs=[.int c,.int count]->0<=count->(∀ v H',ae H H'->ao H H' (dv (h_ c count)) v->Q v H')->Ad K vs H Q E
variable (Q80:Fn P w K mg b8 "_law_free" ["cell"] 3 (xG K))
include B Z Q7b Q7d Q80 in
theorem MQ (F:aS K "_law_other_deed" "_law_other_deed" yH f fd)(m:mg "_law_other_deed"=some (.ref f)):Fn P w K mg b8 "_law_other_deed" ["cell","count"] 4 (Ad K):=by
 refine bR F EZ m λ_ _ _ _ H vs Q E hr h=>?_;obtain⟨c,count,rfl,hc,q⟩:=h;refine⟨_,(az (bq (jt K hr (aO cy (pv 0) aj) aj) (ay (aJ (cx (dj bY (bH (jl Q80 hr (bN (aO cW (pv 0) aj) ag)) (bH (jl Q7b hr (jn 0 (jk (bN (jp K (pv 1) aj) ag)))) ag)))))) bE)
   (az (bq (jt K hr (aO cy (pv 0) aj) aj) (ay (aJ (cx (dj bY (bN (jp K aj (aO cy (aO cW (pv 0) aj) aj)) (bH (jl Q80 hr (bN (aO cW (pv 0) aj) ag)) ag)))))) bE)
   (az (js 2 EZ.nd (jl Q7d hr (bN (aO cW (pv 0) aj) (jk ag))))
   (ay (aJ (cx (dj bY (bN (jp K aj (aO cy (aO cW (pv 0) aj) aj)) (jn 2 (bH (cq (BE rfl) rfl B.max L2.DD (jn 2 (bH (jl Q7d hr (bN (aO cW (pv 0) aj) (jk ag))) ag))) ag)))))))))),?_⟩
 unfold h_ at q;ac_rfl;refine cj (λe=>?_) (λe=>?_)
 ·have e':c%3=0:=N8 e;rw[NU e']at q;ac_rfl;refine vK λv H1 s1 n1=>?_;obtain⟨la,rfl,la0,la1⟩:=ao.iif.mp n1;ac_rfl;refine kH (by omega) ?_;ac_rfl;refine⟨by show 3<=sizeLine;decide,λt ht=>?_⟩;exact q _ _ (s1.trans (aB ht _)) (I9 la0 la1 ht)
 have e0:¬ c%3=0:=N9 (Oc.mpr e);rw[NR e0]at q;ac_rfl;refine cj (λe=>?_) (λe=>?_)
 ·have e':c%3=1:=N8 e;rw[NU e']at q;ac_rfl;refine vK λv H1 s1 n1=>?_;obtain⟨la,rfl,la0,la1⟩:=ao.iif.mp n1;ac_rfl;refine⟨by show 3<=sizeLine;decide,λt ht=>?_⟩;exact q _ _ (s1.trans (aB ht _)) (pd la0 la1 ht)
 have e1:¬ c%3=1:=N9 (Oc.mpr e);rw[NR e1]at q;ac_rfl;refine xb λH1 s1=>?_;ac_rfl;refine xb λH2 s2=>?_;ac_rfl;refine BB ?_;ac_rfl;refine⟨by show 4<=sizeLine;decide,λt ht=>?_⟩;exact q _ _ (s1.trans (s2.trans (aB ht _))) (C_ ht)
theorem CG (c:Int):fe [V.int 0,.int 1,.int (c/48%(1000000000+1))] (c/8%3)=some (.int (cY c)):=by
 have h1:=Oq (c/8) (show(3:Int)≠0 by decide);have h2:=Ot (c/8) (show(0:Int)<3 by decide);unfold cY;have c3:c/8%3=0\/c/8%3=1\/c/8%3=2:=by omega
 rcases c3 with z|z|z<;>rw[z]<;>rfl
theorem kR(h0:0<=i)(h:i<(l.length:Int)):fe (l.map V.int) i=some (.int (l.getD i.toNat 0)):=by
 have hj:i.toNat<l.length:=by omega
 have:=bJ (xs:=l.map V.int) (j:=i.toNat) (v:=.int l[i.toNat]) (by simp[hj]);rw[show((i.toNat:Nat):Int)=i by omega]at this;rw[this];simp[List.getD,hj]
inductive Ab (K:Fg)(vs:QV)(H:Hp)(Q:VK)(E:XK):Prop
 |mk (c count:Int) (na ka:Addr) (Pz PK:QS):vs=[.int c,.int count,.ref na,.ref ka]->0<=count->ar K H na (Pz.map V.int)->ar K H ka (PK.map V.int)->Pz.length=PK.length->0<Pz.length->(∀ v H',ae H H'->ao H H' (dv (iM c count Pz PK)) v->Q v H')->Ab K vs H Q E
variable (Q82:Fn P w K mg b8 "_law_other_deed" ["cell","count"] 4 (Ad K))
include B Z Q80 Q82 in
theorem MY (F:aS K "_law_second_deed" "_law_second_deed" zc f fd)(m:mg "_law_second_deed"=some (.ref f)):Fn P w K mg b8 "_law_second_deed" ["cell","count","numbers","kinds"] 5 (Ab K):=by
 refine bR F uI m λ_ _ _ _ H vs Q E hr h=>?_;obtain⟨c,count,na,ka,Pz,PK,rfl,hc,hN,hK,hl,h0,q⟩:=h;refine⟨_,(az (js 4 uI.nd (jx K (bv (jk (jk (bN (aO cy (aO cW (pv 0) aj) (jp K (aO mf aj aj) aj)) ag)))) (aO cy (aO cW (pv 0) aj) aj)))
   (az (js 5 uI.nd (aO cy (pv 0) aj))
   (az (bq (PW.pt (kK (jt K hr (pv 5) aj) (oU (jt K hr (pv 5) aj)))) (ay (aJ (cx (dj bY (jk (dJ (bv (jn 4 (jk (jk (jk (jk (jk (jk (jk (jk ag)))))))))) ag)))))) bE)
   (az (bq (jt K hr (pv 5) aj) (ay (aJ (cx (dj bY (jk (dJ (bv (jn 4 (jk (jk (jk (jk (jk (jk (jk (jk ag)))))))))) (jk ag))))))) bE)
   (az (bq (jt K hr (pv 5) aj) (ay (aJ (cx (dj bY (dJ (bv (jn 4 (jk (jk (jk (jk (iE (dP dX (aO cy (aO cW (pv 0) aj) aj)) (jk (jk (jk ag)))))))))) ag))))) bE)
   (az (bq (jt K hr (pv 5) aj) (ay (aJ (cx (dj bY (jk (bH (jl Q80 hr (bN (aO cW (pv 0) aj) ag)) ag)))))) bE)
   (az (bq (jt K hr (pv 5) aj) (az (js 6 uI.nd (aO cy (aO cW (pv 0) aj) (cq (eQ K) rfl B.len L2.boot_len (jn 2 ag))))
   (az (bq (jt K hr (jx K (pv 3) (pv 6)) aj) (ay (aJ (cx (dj bY (bn (jx K (pv 2) (pv 6)) (g7 (cx (jk (jk ag))) (g7 (cx (bN (jp K aj (aO cy (aO cW (pv 0) aj) aj)) (jk ag))) ag))))))) bE)
   (ay (aJ (cx (dj bY (bn (jx K (pv 2) (pv 6)) (g7 (cx (jk (bN (aO cy (aO cW (pv 0) aj) aj) ag))) (g7 (cx (bN (aO cy (aO cW (pv 0) aj) aj) (bN (jp K aj (aO cy (aO cW (pv 0) aj) aj)) ag))) ag))))))))) bE)
   (ay (aJ (jl Q82 hr (bN (aO cW (pv 0) aj) (jn 1 ag)))))))))))),?_⟩
 unfold iM at q;ac_rfl;refine⟨by show 3<=sizeLine;decide,λp hp=>?_⟩;have s0:=aB hp (.lst [V.int 0,.int 1,.int (c/48%(1000000000+1))]);ac_rfl;refine bW (ar.of aw) (v:=.int (cY c)) (CG c) ?_;ac_rfl;have first:(c%8=0\/c%8=1)->∀ la t (P8:(upd H p (.lst [V.int 0,.int 1,.int (c/48%(1000000000+1))])) la=none) (ht:(upd (upd H p (.lst [V.int 0,.int 1,.int (c/48%(1000000000+1))])) la (.lst (([cY c,1,0,0,0,0,0,0,0]:QS).map V.int))) t=none),Q (.ref t) (upd (upd (upd H p (.lst [V.int 0,.int 1,.int (c/48%(1000000000+1))])) la (.lst (([cY c,1,0,0,0,0,0,0,0]:QS).map V.int))) t (.tup [.str "set",.int 0,.ref la])):=λe' la t P8 ht=>by rw[NU e']at q;exact q _ _ (s0.trans ((aB P8 _).trans (aB ht _))) (pd (l:=[cY c,1,0,0,0,0,0,0,0]) (s0.free P8) aw ht)
 refine cj (λe=>?_) (λe=>?_)
 ·ac_rfl;refine⟨by show 9<=sizeLine;decide,λla P8=>?_⟩;ac_rfl;exact⟨by show 3<=sizeLine;decide,λt ht=>first (.inl (N8 e)) la t P8 ht⟩
 have e0:¬ c%8=0:=N9 (Oc.mpr e);ac_rfl;refine cj (λe=>?_) (λe=>?_)
 ·ac_rfl;refine⟨by show 9<=sizeLine;decide,λla P8=>?_⟩;ac_rfl;exact⟨by show 3<=sizeLine;decide,λt ht=>first (.inr (N8 e)) la t P8 ht⟩
 have e1:¬ c%8=1:=N9 (Oc.mpr e);clear first
 rw[NR (show ¬ (c%8=0\/c%8=1)by omega)]at q;ac_rfl;refine cj (λe=>?_) (λe=>?_)
 ·have e':c%8=2:=N8 e;rw[NU e']at q;ac_rfl;refine⟨by show 9<=sizeLine;decide,λla P8=>?_⟩;have t1:=aB P8 (.lst (([cY c,1,0,0,0,0,0,0,0]:QS).map V.int));ac_rfl;refine⟨by show 4<=sizeLine;decide,λt ht=>?_⟩;exact q _ _ (s0.trans (t1.trans (aB ht _))) (Dc (l:=[cY c,1,0,0,0,0,0,0,0]) (s0.free P8) aw ht)
 have e2:¬ c%8=2:=N9 (Oc.mpr e);rw[NR e2]at q;ac_rfl;refine cj (λe=>?_) (λe=>?_)
 ·have e':c%8=3:=N8 e;rw[NU e']at q;ac_rfl;refine⟨by show 9<=sizeLine;decide,λla P8=>?_⟩;have t1:=aB P8 (.lst (([cY c,1,0,0,0,-(c/24%2),0,0,0]:QS).map V.int));ac_rfl;refine⟨by show 2<=sizeLine;decide,λt ht=>?_⟩;exact q _ _ (s0.trans (t1.trans (aB ht _))) (C9 (l:=[cY c,1,0,0,0,-(c/24%2),0,0,0]) (s0.free P8) aw ht)
 have e3:¬ c%8=3:=N9 (Oc.mpr e);rw[NR e3]at q;ac_rfl;refine cj (λe=>?_) (λe=>?_)
 ·have e':c%8=4:=N8 e;rw[NU e']at q;ac_rfl;refine vK λv H1 s1 n1=>?_;obtain⟨la,rfl,la0,la1⟩:=ao.iif.mp n1;ac_rfl;refine⟨by show 3<=sizeLine;decide,λt ht=>?_⟩;exact q _ _ (s0.trans (s1.trans (aB ht _))) (pd (s0.free la0) la1 ht)
 have e4:¬ c%8=4:=N9 (Oc.mpr e);rw[NR e4]at q;ac_rfl;refine cj (λe=>?_) (λe=>?_)
 ·have e':c%8=5:=N8 e;rw[NU e']at q;ac_rfl;refine eW (.inl (s0.seq hN)) ?_;rw[aV];have hlp:(0:Int)<(Pz.length:Int):=by omega
  ac_rfl;have a1:=Oq (c/48) (show((Pz.length:Nat):Int)≠0 by omega);have a2:=Ot (c/48) hlp;refine bW (s0.seq hK) (kR a1 (by omega)) ?_;ac_rfl;refine cj (λe2=>?_) (λe2=>?_)
  ·have e2':PK.getD (fB c Pz) 0=0:=N8 e2;rw[NU e2']at q;ac_rfl;refine bW (s0.seq hN) (kR a1 a2) ?_;ac_rfl;refine⟨by show 2<=sizeLine;decide,λg hg=>?_⟩;have t1:=aB hg (.tup [V.int 0,.int 0]);ac_rfl;refine⟨by show 2<=sizeLine;decide,λu hu'=>?_⟩;have t2:=aB hu' (.tup [V.int (2+c/96%2),.int 1]);ac_rfl;refine⟨by show 4<=sizeLine;decide,λt ht=>?_⟩;exact q _ _ (s0.trans (t1.trans (t2.trans (aB ht _)))) (tU (t2 _ _ aw) aw ht)
  ·have e2':¬ PK.getD (fB c Pz) 0=0:=N9 (Oc.mpr e2);rw[NR e2']at q;ac_rfl;refine bW (s0.seq hN) (kR a1 a2) ?_;ac_rfl;refine⟨by show 2<=sizeLine;decide,λg hg=>?_⟩;have t1:=aB hg (.tup [V.int 0,.int (c/96%4)]);ac_rfl;refine⟨by show 2<=sizeLine;decide,λu hu'=>?_⟩;have t2:=aB hu' (.tup [V.int (c/384%2),.int (2+c/768%2)]);ac_rfl;refine⟨by show 4<=sizeLine;decide,λt ht=>?_⟩;exact q _ _ (s0.trans (t1.trans (t2.trans (aB ht _)))) (tU (t2 _ _ aw) aw ht)
 have e5:¬ c%8=5:=N9 (Oc.mpr e);rw[NR e5]at q;ac_rfl;exact⟨_,_,rfl,hc,λv H1 s1 n1=>q v H1 (s0.trans s1) (n1.back s0)⟩
inductive Ac (K:Fg)(vs:QV)(H:Hp)(Q:VK)(E:XK):Prop
 |mk (c count:Int) (na ka:Addr) (Pz PK:QS):vs=[.int c,.int count,.ref na,.ref ka]->0<=count->ar K H na (Pz.map V.int)->ar K H ka (PK.map V.int)->Pz.length=PK.length->0<Pz.length->(∀ v H',ae H H'->ao H H' (dv (iH c count Pz PK)) v->Q v H')->Ac K vs H Q E
include B Z Q82 in
theorem MP (F:aS K "_law_first_deed" "_law_first_deed" yG f fd)(m:mg "_law_first_deed"=some (.ref f)):Fn P w K mg b8 "_law_first_deed" ["cell","count","numbers","kinds"] 5 (Ac K):=by
 refine bR F mM m λ_ _ _ _ H vs Q E hr h=>?_;obtain⟨c,count,na,ka,Pz,PK,rfl,hc,hN,hK,hl,h0,q⟩:=h;refine⟨_,(az (js 4 mM.nd (jx K (bv (jk (jk (bN (aO cy (aO cW (pv 0) aj) (jp K (aO mf aj aj) aj)) ag)))) (aO cy (aO cW (pv 0) aj) aj)))
   (az (js 5 mM.nd (aO cy (aO cW (pv 0) aj) aj))
   (az (js 6 mM.nd (aO cy (pv 0) aj))
   (az (bq (jt K hr (pv 6) aj) (ay (aJ (cx (dj bY (jn 5 (dJ (bv (jn 4 (jk (jk (jk (jk (jk (jk (jk (jk ag)))))))))) ag)))))) bE)
   (az (bq (jt K hr (pv 6) aj) (ay (aJ (cx (dj bY (jn 5 (dJ (bv (jn 4 (jn 5 (bN (aO mh aj (pv 5)) (jk (jk (jk (jk (jk (jk ag)))))))))) ag)))))) bE)
   (az (bq (jt K hr (pv 6) aj) (ay (aJ (cx (dj bY (jn 5 (dJ (bv (jn 4 (jk (bN (aO cy (aO cW (pv 0) aj) aj) (jk (jk (jk (jk (jk (jk ag)))))))))) (bN (jp K aj (aO cy (aO cW (pv 0) aj) aj)) ag))))))) bE)
   (az (bq (jt K hr (pv 6) aj) (ay (aJ (cx (dj bY (jn 5 (bN (aO cy (aO cW (pv 0) aj) aj) (bH (cq (BE rfl) rfl B.max L2.DD (jk (jn 4 ag))) ag))))))) bE)
   (az (bq (jt K hr (pv 6) aj) (ay (aJ (cx (dj bY (dJ (bv (jn 4 (jk (jn 5 (jk (jk (jk (jk (jk (jk ag)))))))))) ag))))) bE)
   (az (bq (jt K hr (pv 6) aj) (az (js 7 mM.nd (aO cy (aO cW (pv 0) aj) (cq (eQ K) rfl B.len L2.boot_len (jn 2 ag))))
   (az (bq (jt K hr (jx K (pv 3) (pv 7)) aj) (az (js 8 mM.nd (aO cy (aO cW (pv 0) aj) aj))
   (az (js 9 mM.nd (cx (jn 8 (bN (aO cy (jp K (jp K (pv 8) aj) (aO cy (aO cW (pv 0) aj) aj)) aj) ag))))
   (ay (aJ (cx (dj bY (bn (jx K (pv 2) (pv 7)) (g7 (cx (jn 5 (bN (aO cy (aO cW (pv 0) aj) aj) ag))) (jn 9 ag))))))))) bE)
   (ay (aJ (cx (dj bY (bn (jx K (pv 2) (pv 7)) (g7 (cx (jn 5 (bN (aO cy (aO cW (pv 0) aj) aj) ag))) (g7 (cx (bN (aO cy (aO cW (pv 0) aj) aj) (bN (jp K aj (aO cy (aO cW (pv 0) aj) aj)) ag))) ag))))))))) bE)
   (ay (aJ (jl Q82 hr (bN (aO cW (pv 0) aj) (jn 1 ag)))))))))))))),?_⟩
 unfold iH at q;ac_rfl;refine⟨by show 3<=sizeLine;decide,λp hp=>?_⟩;have s0:=aB hp (.lst [V.int 0,.int 1,.int (c/48%(1000000000+1))]);ac_rfl;refine bW (ar.of aw) (v:=.int (cY c)) (CG c) ?_;ac_rfl;refine cj (λe=>?_) (λe=>?_)
 ·have e':c%8=0:=N8 e;rw[NU e']at q;ac_rfl;refine⟨by show 9<=sizeLine;decide,λla P8=>?_⟩;have t1:=aB P8 (.lst (([cY c,1,1,0,0,0,0,0,0]:QS).map V.int));ac_rfl;refine⟨by show 3<=sizeLine;decide,λt ht=>?_⟩;exact q _ _ (s0.trans (t1.trans (aB ht _))) (pd (l:=[cY c,1,1,0,0,0,0,0,0]) (s0.free P8) aw ht)
 have e0:¬ c%8=0:=N9 (Oc.mpr e);rw[NR e0]at q;ac_rfl;refine cj (λe=>?_) (λe=>?_)
 ·have e':c%8=1:=N8 e;rw[NU e']at q;ac_rfl;refine⟨by show 9<=sizeLine;decide,λla P8=>?_⟩;have t1:=aB P8 (.lst (([cY c,c/24%2,1 - c/24%2,0,0,0,0,0,0]:QS).map V.int));ac_rfl;refine⟨by show 3<=sizeLine;decide,λt ht=>?_⟩;exact q _ _ (s0.trans (t1.trans (aB ht _))) (pd (l:=[cY c,c/24%2,1 - c/24%2,0,0,0,0,0,0]) (s0.free P8) aw ht)
 have e1:¬ c%8=1:=N9 (Oc.mpr e);rw[NR e1]at q;ac_rfl;refine cj (λe=>?_) (λe=>?_)
 ·have e':c%8=2:=N8 e;rw[NU e']at q;ac_rfl;refine⟨by show 9<=sizeLine;decide,λla P8=>?_⟩;have t1:=aB P8 (.lst (([cY c,1,c/48%2,0,0,0,0,0,0]:QS).map V.int));ac_rfl;refine⟨by show 4<=sizeLine;decide,λt ht=>?_⟩;exact q _ _ (s0.trans (t1.trans (aB ht _))) (Dc (l:=[cY c,1,c/48%2,0,0,0,0,0,0]) (s0.free P8) aw ht)
 have e2:¬ c%8=2:=N9 (Oc.mpr e);rw[NR e2]at q;ac_rfl;refine cj (λe=>?_) (λe=>?_)
 ·have e':c%8=3:=N8 e;rw[NU e']at q;ac_rfl;refine BB ?_;ac_rfl;refine⟨by show 4<=sizeLine;decide,λt ht=>?_⟩;exact q _ _ (s0.trans (aB ht _)) (C_ ht)
 have e3:¬ c%8=3:=N9 (Oc.mpr e);rw[NR e3]at q;ac_rfl;refine cj (λe=>?_) (λe=>?_)
 ·have e':c%8=4:=N8 e;rw[NU e']at q;ac_rfl;refine⟨by show 9<=sizeLine;decide,λla P8=>?_⟩;have t1:=aB P8 (.lst (([cY c,1,c/24%2,0,0,0,0,0,0]:QS).map V.int));ac_rfl;refine⟨by show 2<=sizeLine;decide,λt ht=>?_⟩;exact q _ _ (s0.trans (t1.trans (aB ht _))) (C9 (l:=[cY c,1,c/24%2,0,0,0,0,0,0]) (s0.free P8) aw ht)
 have e4:¬ c%8=4:=N9 (Oc.mpr e);rw[NR e4]at q;ac_rfl;refine cj (λe=>?_) (λe=>?_)
 ·have e':c%8=5:=N8 e;rw[NU e']at q;ac_rfl;refine eW (.inl (s0.seq hN)) ?_;rw[aV];have hlp:(0:Int)<(Pz.length:Int):=by omega
  ac_rfl;have a1:=Oq (c/48) (show((Pz.length:Nat):Int)≠0 by omega);have a2:=Ot (c/48) hlp;refine bW (s0.seq hK) (kR a1 (by omega)) ?_;ac_rfl;refine cj (λe2=>?_) (λe2=>?_)
  ·have e2':PK.getD (fB c Pz) 0=0:=N8 e2;rw[NU e2']at q;ac_rfl;refine⟨by show 2<=sizeLine;decide,λu hu'=>?_⟩;have t1:=aB hu' (.tup [V.int (c/192%4),.int ((c/192%4+1+c/768%3)%4)]);ac_rfl;refine bW ((s0.trans t1).seq hN) (kR a1 a2) ?_;ac_rfl;refine⟨by show 2<=sizeLine;decide,λg hg=>?_⟩;have t2:=aB hg (.tup [V.int (c/24%2),.int (c/96%2)]);ac_rfl;refine⟨by show 4<=sizeLine;decide,λt ht=>?_⟩;exact q _ _ (s0.trans (t1.trans (t2.trans (aB ht _)))) (tU aw (t2 _ _ aw) ht)
  ·have e2':¬ PK.getD (fB c Pz) 0=0:=N9 (Oc.mpr e2);rw[NR e2']at q;ac_rfl;refine bW (s0.seq hN) (kR a1 a2) ?_;ac_rfl;refine⟨by show 2<=sizeLine;decide,λg hg=>?_⟩;have t1:=aB hg (.tup [V.int (c/24%2),.int (c/96%4)]);ac_rfl;refine⟨by show 2<=sizeLine;decide,λu hu'=>?_⟩;have t2:=aB hu' (.tup [V.int (c/384%2),.int (2+c/768%2)]);ac_rfl;refine⟨by show 4<=sizeLine;decide,λt ht=>?_⟩;exact q _ _ (s0.trans (t1.trans (t2.trans (aB ht _)))) (tU (t2 _ _ aw) aw ht)
 have e5:¬ c%8=5:=N9 (Oc.mpr e);rw[NR e5]at q;ac_rfl;exact⟨_,_,rfl,hc,λv H1 s1 n1=>q v H1 (s0.trans s1) (n1.back s0)⟩
def xg (K:Fg):Sp:=λvs H Q _=>∃ i:Int,vs=[.int i]/\0<=i/\∀ v H',ae H H'->ao H H' (nums (ah i)) v->Q v H'
theorem j7(h:0<=i)(q:∀ v H',ae H H'->ao H H' (nums (ah i)) v->Q v H'):xg K [.int i] H Q E:=⟨i,rfl,h,q⟩
include B Z in
theorem J0 (F:aS K "_law_bare" "_law_bare" wJ f fd)(m:mg "_law_bare"=some (.ref f)):Fn P w K mg b8 "_law_bare" ["i"] 1 (xg K):=by
 refine bR F DH m λ_ _ _ _ H vs Q E hr h=>?_;obtain⟨i,rfl,h0,q⟩:=h;nomatch _,(ay (aJ (jC (bG.f DH ["i","k"] [false,true]) (iQ rfl B.range (jk ag)) (λn=>(jg 1 n)) (mL sr rfl B.int L2.Dk (FK (jE K hr (pv 1) (jp K (pv 0) aj)) ag)))));ac_rfl;refine iX (by decide) (by decide) ?_;refine cX (n:=9) lH ((ah i).map D.int) (by simp[ah]) (by decide) (λj x d H1 R hj hd s1 hx hR=>?_) (λv H1 s1 n1=>?_)
 ·subst hx;rw[<-Jf h0,Ox]at hd;have hd':=pI hd;subst hd';ac_rfl;refine Gu ?_;exact hR _ _ (ae.refl _) ao.int
 ·ac_rfl;exact q _ _ s1 n1
inductive Aa (K:Fg)(vs:QV)(H:Hp)(Q:VK)(E:XK):Prop
 |mk (kind:Int) (ca na ka:Addr) (cells Pz PK:QS):vs=[.int kind,.ref ca,.ref na,.ref ka]->ar K H ca (cells.map V.int)->ar K H na (Pz.map V.int)->ar K H ka (PK.map V.int)->Pz.length=PK.length->0<Pz.length->cells.length<=8->(∀ v H',ae H H'->ao H H' (lM (uQ kind cells Pz PK)) v->Q v H')->Aa K vs H Q E
include B Z in
theorem MX (Q86:Fn P w K mg b8 "_law_second_deed" ["cell","count","numbers","kinds"] 5 (Ab K))(Q84:Fn P w K mg b8 "_law_first_deed" ["cell","count","numbers","kinds"] 5 (Ac K))(Q7e:Fn P w K mg b8 "_law_bare" ["i"] 1 (xg K))(F:aS K "_law_sworn_parts" "_law_sworn_parts" yz f fd)(m:mg "_law_sworn_parts"=some (.ref f)):Fn P w K mg b8 "_law_sworn_parts" ["kind","cells","numbers","kinds"] 6 (Aa K):=by
 refine bR F i7 m λ_ _ _ _ H vs Q E hr h=>?_;obtain⟨kind,ca,na,ka,cells,Pz,PK,rfl,hC,hN,hK,hl,h0,c8,q⟩:=h;refine⟨_,(az (js 4 i7.nd (cq (eQ K) rfl B.len L2.boot_len (jn 1 ag)))
   (az (bq (jt K hr (pv 0) aj) (az (jS 5 i7.nd (bG.f i7 ["kind","cells","numbers","kinds","count","deeds","needs","notes","cell"] [false,false,false,false,false,false,false,false,true]) (db K (pv 1)) (λn=>(jg 8 n)) (jl Q84 hr (jn 8 (jn 4 (jn 2 (jn 3 ag))))))
   (az (js 6 i7.nd (bv (bH (jl Q7e hr (jk ag)) (bH (jl Q7e hr (jk ag)) ag))))
   (az (jS 7 i7.nd (bG.f i7 ["kind","cells","numbers","kinds","count","deeds","needs","notes","cell"] [false,false,false,false,false,false,false,false,true]) (db K (pv 1)) (λn=>(jg 8 n)) (bv (bH (jl Q7e hr (jk ag)) (bH (jl Q7e hr (jk ag)) ag))))
   (ay (aJ (bv (jn 6 (dJ (bv (bH (jl Q7e hr (jk ag)) (bH (jl Q7e hr (jk ag)) ag))) (jn 5 (jn 7 ag)))))))))) bE)
   (az (jS 5 i7.nd (bG.f i7 ["kind","cells","numbers","kinds","count","deeds","needs","notes","cell"] [false,false,false,false,false,false,false,false,true]) (db K (pv 1)) (λn=>(jg 8 n)) (jl Q86 hr (jn 8 (jn 4 (jn 2 (jn 3 ag))))))
   (az (jS 7 i7.nd (bG.f i7 ["kind","cells","numbers","kinds","count","deeds","needs","notes","cell"] [false,false,false,false,false,false,false,false,true]) (db K (pv 1)) (λn=>(jg 8 n)) (bv (dJ (bv (jk (jk (jk (jk (jk (iE (dP dX aj) (jk (jk (jk ag)))))))))) (bH (jl Q7e hr (jk ag)) ag))))
   (ay (aJ (bv (dJ (bv (bH (jl Q7e hr (jk ag)) ag)) (dJ (bv (dJ (bv (jk (jk (jk (jk (jk (iE (dP dX aj) (jk (jk (jk ag)))))))))) (bH (jl Q7e hr (jk ag)) ag))) (jn 5 (jn 7 ag))))))))))),?_⟩
 unfold lM uQ at q;dsimp only at q;left;nofun;refine eW (.inl hC) ?_;rw[aV];nofun;left;nofun;refine cj (λe=>?_) (λe=>?_)
 ·have e':kind=0:=N8 e;have eo:cL kind=([ah 4,ah 5],[ah 6,ah 7]):=by unfold cL;rw[NU e']
  have en:jA kind=[ah 0,ah 1]:=by unfold jA;rw[NU e']
  have ed:(cells.map λc=>jZ kind c cells.length Pz PK)=cells.map λc=>iH c cells.length Pz PK:=List.map_congr_left λc _=>by unfold jZ;rw[NU e']
  rw[eo,en,ed]at q;left;nofun;nomatch ca,rfl,⟨_,hC⟩;refine cX (dY hC) ((cells.map λc=>iH c cells.length Pz PK).map dv) (by simp) (bF (by rw[aV];omega)) (λj x d H1 R hj hd s1 hx hR=>?_) (λv3 H1 s1 n1=>?_)
  ·rw[aR]at hx;obtain⟨c,hc,rfl⟩:=ce.mp hx;rw[aR,aR,hc]at hd;cases hd;nofun;exact⟨c,_,na,ka,Pz,PK,rfl,by omega,s1.seq hN,s1.seq hK,hl,h0,λv H2 s2 n2=>hR v H2 s2 n2⟩
  nofun;left;nofun;refine j7 (by decide) λu1 H2 s2 n2=>?_;nofun;refine j7 (by decide) λu2 H3 s3 n3=>?_;nofun;refine⟨(by right),λp1 hp1=>?_⟩;have k1:=pc s2 n2 s3 n3 hp1;have t1:=s2.trans (s3.trans (aB hp1 (.lst [u1,u2])));generalize (upd H3 p1 (.lst [u1,u2]))=H4 at k1 t1;nofun;left;nofun;have t01:=s1.trans t1;nomatch ca,rfl,⟨_,t01.seq hC⟩;refine cX (dY (t01.seq hC)) ((cells.map λ_=>[ah 0,ah 1]).map bx) (by simp) (bF (by rw[aV];omega)) (λj x d H5 R hj hd s5 hx hR=>?_) (λv4 H5 s5 n5=>?_)
  ·rw[aR,aR]at hd;obtain⟨b,hb,rfl⟩:=ce.mp hd;obtain⟨c,hc,rfl⟩:=ce.mp hb;nofun;refine j7 (by decide) λu3 H6 s6 n6=>?_;nofun;refine j7 (by decide) λu4 H7 s7 n7=>?_;nofun;exact⟨(by right),λp hp=>hR _ _ (s6.trans (s7.trans (aB hp _))) (pc s6 n6 s7 n7 hp)⟩
  nofun;refine j7 (by decide) λu5 H6 s6 n6=>?_;nofun;refine j7 (by decide) λu6 H7 s7 n7=>?_;nofun;refine⟨(by right),λp2 hp2=>?_⟩;have k2:=pc s6 n6 s7 n7 hp2;have t2:=s6.trans (s7.trans (aB hp2 (.lst [u5,u6])));generalize (upd H7 p2 (.lst [u5,u6]))=H8 at k2 t2;nofun;refine⟨(by right),λp3 hp3=>?_⟩;have w1:bD H H1 [.lst ((cells.map λc=>iH c cells.length Pz PK).map dv)] [v3]:=bD.nil.snoc (H1:=H) (ae.refl H) s1 n1;have w2:=w1.snoc s1 t1 k1;have w3:=w2.snoc t01 s5 n5;have w4:=w3.snoc (t01.trans s5) t2 k2;have st:=(t01.trans s5).trans t2;exact q _ _ (st.trans (aB hp3 _)) ((bD.perm4 w4).lst st hp3)
 ·have e':¬ kind=0:=N9 (Oc.mpr e);have eo:cL kind=([ah 4],[[0,0,0,0,0,-1,0,1,0],ah 6]):=by unfold cL;rw[NR e']
  have en:jA kind=[e1,ah 4]:=by unfold jA;rw[NR e']
  have ed:(cells.map λc=>jZ kind c cells.length Pz PK)=cells.map λc=>iM c cells.length Pz PK:=List.map_congr_left λc _=>by unfold jZ;rw[NR e']
  rw[eo,en,ed]at q;nofun;left;nofun;nomatch ca,rfl,⟨_,hC⟩;refine cX (dY hC) ((cells.map λc=>iM c cells.length Pz PK).map dv) (by simp) (bF (by rw[aV];omega)) (λj x d H1 R hj hd s1 hx hR=>?_) (λv3 H1 s1 n1=>?_)
  ·rw[aR]at hx;obtain⟨c,hc,rfl⟩:=ce.mp hx;rw[aR,aR,hc]at hd;cases hd;nofun;exact⟨c,_,na,ka,Pz,PK,rfl,by omega,s1.seq hN,s1.seq hK,hl,h0,λv H2 s2 n2=>hR v H2 s2 n2⟩
  nofun;left;nofun;nomatch ca,rfl,⟨_,s1.seq hC⟩;refine cX (dY (s1.seq hC)) ((cells.map λ_=>[e1,ah 4]).map bx) (by simp) (bF (by rw[aV];omega)) (λj x d H5 R hj hd s5 hx hR=>?_) (λv4 H5 s5 n5=>?_)
  ·rw[aR,aR]at hd;obtain⟨b,hb,rfl⟩:=ce.mp hd;obtain⟨c,hc,rfl⟩:=ce.mp hb;nofun;refine⟨(by right),λla P8=>?_⟩;have t6:=aB P8 (.lst (e1.map V.int));have n6:ao H5 (upd H5 la (.lst (e1.map V.int))) (nums e1) (.ref la):=ao.iif.mpr ⟨la,rfl,P8,aw⟩;nofun;refine j7 (by decide) λu4 H7 s7 n7=>?_;nofun;exact⟨(by right),λp hp=>hR _ _ (t6.trans (s7.trans (aB hp _))) (pc t6 n6 s7 n7 hp)⟩
  have s15:=s1.trans s5;nofun;refine j7 (by decide) λu1 H6 s6 n6=>?_;nofun;refine⟨(by right),λp1 hp1=>?_⟩;have k1:=HE s6 n6 hp1;have t1:=s6.trans (aB hp1 (.lst [u1]));generalize (upd H6 p1 (.lst [u1]))=H7 at k1 t1;nofun;refine⟨(by right),λla P8=>?_⟩;have t8:=aB P8 (.lst (([0,0,0,0,0,-1,0,1,0]:QS).map V.int));have n8:ao H7 (upd H7 la (.lst (([0,0,0,0,0,-1,0,1,0]:QS).map V.int))) (nums [0,0,0,0,0,-1,0,1,0]) (.ref la):=ao.iif.mpr ⟨la,rfl,P8,aw⟩;nofun;refine j7 (by decide) λu2 H9 s9 n9=>?_;nofun;refine⟨(by right),λp2 hp2=>?_⟩;have k2:=pc t8 n8 s9 n9 hp2;have t2:=t8.trans (s9.trans (aB hp2 (.lst [.ref la,u2])));generalize (upd H9 p2 (.lst [.ref la,u2]))=Ha at k2 t2;nofun;refine⟨(by right),λp3 hp3=>?_⟩;have w1:bD H H1 [.lst ((cells.map λc=>iM c cells.length Pz PK).map dv)] [v3]:=bD.nil.snoc (H1:=H) (ae.refl H) s1 n1;have w2:=w1.snoc s1 s5 n5;have w3:=w2.snoc s15 t1 k1;have w4:=w3.snoc (s15.trans t1) t2 k2;have st:=(s15.trans t1).trans t2;exact q _ _ (st.trans (aB hp3 _)) ((bD.perm4' w4).lst st hp3)
def iW (ns:QS)(start size:Int)(k:Nat):QS:=(List.range (1+eE (cell ns (start+2)) (0+(k:Int)) size).toNat).map λ(i:Nat)=>cell ns (start+3+size*(0+(k:Int))+(0+(i:Int)))+48271*(0+(i:Int))
def v7 (Pz PK:QS)(cells:Nat->QS)(k:Nat):D:=.tup [.int (Pz.getD k 0),lM (gQ Pz PK cells k)]
theorem ao.pairD{H1:Hp}{n:Int}{t:Addr}(k:ao H H1 d v)(ht:H1 t=none):ao H (upd H1 t (.tup [.int n,v])) (.tup [.int n,d]) (.ref t):=by obtain⟨fp,h1,h2,h3⟩:=k;have h1':=ai.sq (aB ht (.tup [.int n,v])).sq _ h1;have:=ak.cint (i:=n) (ak.cany h1' ak.nil);rw[Oo]at this;exact ao.tup this h2 h3 aw
inductive z_ (K:Fg)(vs:QV)(H:Hp)(Q:VK)(E:XK):Prop
 |mk (a:Addr) (start many size:Int) (ns:QS):vs=[.ref a,.int start,.int many,.int size]->ar K H a (ns.map V.int)->0<=start->1<=many->many<=3->1<=size->size<=8->(∀ v H' Pz PK (cells:Nat->QS),ae H H'->jV many size Pz PK cells->ao H H' (.lst ((List.range many.toNat).map (v7 Pz PK cells))) v->Q v H')->z_ K vs H Q E
variable (Q79:Fn P w K mg b8 "_law_cell_at" ["script","k"] 1 (uU K))
include B Z Q7b Q79 in
theorem MO (Q88:Fn P w K mg b8 "_law_sworn_parts" ["kind","cells","numbers","kinds"] 6 (Aa K))(F:aS K "_law_hall_parts" "_law_hall_parts" yF f fd)(m:mg "_law_hall_parts"=some (.ref f)):Fn P w K mg b8 "_law_hall_parts" ["script","start","many","size"] 7 (z_ K):=by
 refine bR F iR m λ_ _ _ _ H vs Q E hr h=>?_;obtain⟨a,start,many,size,ns,rfl,hS,st0,m1,m3,z1,z8,q⟩:=h;refine⟨_,(az (js 4 iR.nd (bv ag))
   (az (gy PassesOwn.never rfl (iQ rfl B.range (jn 2 ag)) (jg 5 iR.nd) (az (js 6 iR.nd (jl Q7b hr (bH (jl Q79 hr (jn 0 (jn 1 ag))) (jn 5 (jk ag)))))
   (az (uf PassesOwn.never (jc (qW K) (pv 6) (pv 4)) (ay (js 6 iR.nd (aO cy (jp K (pv 6) aj) aj))))
   (ay (dC (nC Pk PySem.F.slot_list_append PySem.F.type_list_append ux (pv 4) (jn 6 ag)))))))
   (az (jS 7 iR.nd (bG.f iR ["script","start","many","size","numbers","k","number","kinds","found","count","cells"] [false,false,false,false,false,true,false,false,false,false,false]) (iQ rfl B.range (jn 2 ag)) (λn=>(jg 5 n)) (jl Q7b hr (bH (jl Q79 hr (jn 0 (bN (jp K (pv 1) aj) ag))) (jn 5 (jk ag)))))
   (az (js 8 iR.nd (bv ag))
   (az (gy PassesOwn.never rfl (iQ rfl B.range (jn 2 ag)) (jg 5 iR.nd) (az (js 9 iR.nd (jp K aj (jl Q7b hr (bH (jl Q79 hr (jn 0 (bN (jp K (pv 1) aj) ag))) (jn 5 (jn 3 ag))))))
   (az (jS 10 iR.nd (bG.f iR ["script","start","many","size","numbers","k","number","kinds","found","count","cells","i"] [false,false,false,false,false,false,false,false,false,false,false,true]) (iQ rfl B.range (jn 9 ag)) (λn=>(jg 11 n)) (jp K (jl Q79 hr (jn 0 (bN (jp K (jp K (jp K (pv 1) aj) (aO ik (pv 3) (pv 5))) (pv 11)) ag))) (aO ik aj (pv 11))))
   (ay (dC (nC Pk PySem.F.slot_list_append PySem.F.type_list_append ux (pv 8) (g7 (cx (bn (jx K (pv 4) (pv 5)) (bH (jl Q88 hr (bn (jx K (pv 7) (pv 5)) (jn 10 (jn 4 (jn 7 ag))))) ag))) ag)))))))
   (ay (aJ (pv 8)))))))),?_⟩
 left;nofun;refine⟨(by right),λna na0=>?_⟩;have s0:=aB na0 (.lst []);have hna0:(upd H na (.lst [])) na=some (.lst (([]:QS).map V.int)):=aw;generalize (upd H na (.lst []))=H0 at s0 hna0;nofun;left;nofun;refine iX (by omega) (by omega) ?_;refine tM (λi σ H2=>E3 λx y nn=>A6 (σ=[some (.ref a),some (.int start),some (.int many),some (.int size),some (.ref na),x,y,none,none,none,none]) (ae H H2) (H2 na=some (.lst ((nn:QS).map V.int))) (nn.length=i) (nn.Nodup) (∀ n∈nn,0<=n/\n<100))
  ⟨none,none,[],rfl,s0,hna0,rfl,OA,λn hn=>by cases hn⟩ ?_ ?_
 ·rintro i σ H2 hi ⟨x,y,nn,rfl,s2,hna,ln,nnd,nb⟩;have hi':i<many.toNat:=hi;nofun;left;nofun;refine g_ (s2.seq hS) st0 ?_;nofun;refine kH (by decide) ?_;have b1:=ki (c:=cell ns start) (k:=0+(i:Int)) (m:=100) (by decide);have b2:=j4 (c:=cell ns start) (k:=0+(i:Int)) (m:=100) (by decide);generalize eE (cell ns start) (0+(i:Int)) 100=sn at b1 b2;nofun;left;refine⟨λm σ' H'=>∃ j:Nat,m=100 - j/\j<=10/\σ'=[some (.ref a),some (.int start),some (.int many),some (.int size),some (.ref na),some (.int (0+(i:Int))),some (.int ((sn+(j:Int))%100)),none,none,none,none]/\H'=H2/\∀ x∈lD sn j,x∈nn,⟨100,0,rfl,by decide,by rw[show(sn+((0:Nat):Int))%100=sn by omega];rfl,rfl,λx hx=>by simp[lD]at hx⟩,?_⟩;rintro m σ' H' ⟨j,rfl,j10,rfl,rfl,hj⟩;nofun;refine Bm (ar.of hna) ?_;by_cases hin:(sn+(j:Int))%100∈nn
  ·rw[N0 hin];nofun;have st:∀ x∈lD sn (j+1),x∈nn:=λx hx=>by
    unfold lD at hx;rw[OG,Oe]at hx;rcases bC.mp hx with z|z
    ·exact hj x z
    ·rw[List.map_singleton,bu]at z;rw[z];exact hin
   have few:=JD (j:=j+1) (by omega) st;exists λσ2 Hx=>σ2=[some (.ref a),some (.int start),some (.int many),some (.int size),some (.ref na),some (.int (0+(i:Int))),some (.int (((sn+(j:Int))%100+1)%100)),none,none,none,none]/\Hx=H',λσ2 Hx ⟨e1,e2⟩=>⟨100 - (j+1),by omega,j+1,rfl,by omega,by rw[e1,show((sn+(j:Int))%100+1)%100=(sn+((j+1:Nat):Int))%100 by omega],e2,st⟩;exact⟨rfl,rfl⟩
  ·rw[N7 hin];nofun;exists lK hna;refine vf hna (kc (by rw[aV];omega)) ?_;nofun;refine⟨_,_,nn++[(sn+(j:Int))%100],rfl,s2.put na0,by rw[aw,Oe];rfl,by rw[N4,ln];rfl,wn nnd hin,λn hn=>?_⟩;rcases bC.mp hn with z|z
   ·exact nb n z
   ·rw[bu.mp z];omega
 rintro σ H1 ⟨x5,x6,Pz,rfl,s1,hna,ln,nnd,nb⟩;nofun;left;nofun;refine iX (by omega) (by omega) ?_;refine cX lH (((List.range many.toNat).map λ(k:Nat)=>eE (cell ns (start+1)) (0+(k:Int)) 2).map D.int) (by simp) (bF (by omega)) (λj x d H2 R hj hd s2 hx hR=>?_) (λv H2 s2 n2=>?_)
 ·subst hx;rw[Ox]at hd;have hd':=pI hd;subst hd';nofun;refine g_ ((s1.trans s2).seq hS) (by omega) ?_;nofun;refine kH (by decide) ?_;exact hR _ _ (ae.refl _) ao.int
 obtain⟨ka,rfl,ka0,hka⟩:=ao.iif.mp n2;have hkn:(List.map (λ(k:Nat)=>eE (cell ns (start+1)) (0+(k:Int)) 2) (List.range many.toNat)).length=many.toNat:=by simp
 have hkb:∀ k∈List.map (λ(k:Nat)=>eE (cell ns (start+1)) (0+(k:Int)) 2) (List.range many.toNat),k=0\/k=1:=λk hk=>by obtain⟨i,_,rfl⟩:=bB.mp hk;have b1:=ki (c:=cell ns (start+1)) (k:=0+(i:Int)) (m:=2) (by decide);have b2:=j4 (c:=cell ns (start+1)) (k:=0+(i:Int)) (m:=2) (by decide);omega
 generalize List.map (λ(k:Nat)=>eE (cell ns (start+1)) (0+(k:Int)) 2) (List.range many.toNat)=PK at hka hkn hkb;have hna2:=s2 _ _ hna;have s02:=s1.trans s2;have hcl:∀ i,1<=(iW ns start size i).length/\(iW ns start size i).length<=size.toNat:=λi=>by have b1:=ki (c:=cell ns (start+2)) (k:=0+(i:Int)) (m:=size) (by omega);have b2:=j4 (c:=cell ns (start+2)) (k:=0+(i:Int)) (m:=size) (by omega);unfold iW;rw[aV,OU];omega
 have HP:jV many size Pz PK (iW ns start size):=⟨ln,hkn,nnd,nb,hkb,hcl⟩;have q:=q;nofun;left;nofun;refine⟨(by right),λfa fa0=>?_⟩;have s3:=aB fa0 (.lst []);have hfa:(upd H2 fa (.lst [])) fa=some (.lst []):=aw;have f3:cO H (upd H2 fa (.lst [])):=s02.fr.trans jN;generalize (upd H2 fa (.lst []))=H3 at s3 hfa f3;nofun;left;nofun;refine iX (by omega) (by omega) ?_;refine tM (λi σ H4=>E5 λy5 y6 y9 y10 vs=>A4 (σ=[some (.ref a),some (.int start),some (.int many),some (.int size),some (.ref na),y5,y6,some (.ref ka),some (.ref fa),y9,y10]) (ae H2 H4) (cO H H4) (fF H fa H4 ((List.range i).map (v7 Pz PK (iW ns start size))) vs))
  ⟨_,_,none,none,[],rfl,s3,f3,fF.start hfa⟩ ?_ ?_
 ·rintro i σ H4 hi ⟨y5,y6,y9,y10,vs,rfl,s4,f4,ac⟩;have hi':i<many.toNat:=hi;have b1:=ki (c:=cell ns (start+2)) (k:=0+(i:Int)) (m:=size) (by omega);have b2:=j4 (c:=cell ns (start+2)) (k:=0+(i:Int)) (m:=size) (by omega);have s04:=s02.trans s4;nofun;left;nofun;refine g_ (s04.seq hS) (by omega) ?_;nofun;refine kH (by omega) ?_;nofun;left;nofun;refine iX (by omega) (by omega) ?_;refine cX lH ((iW ns start size i).map D.int) (by simp[iW]) (bF (by omega)) (λj x d H5 R hj hd s5 hx hR=>?_) (λv H5 s5 n5=>?_)
  ·subst hx;unfold iW at hd;rw[Ox]at hd;have hd':=pI hd;subst hd';have pos:0<=size*(0+(i:Int)):=Int.mul_nonneg (by omega) (by omega);nofun;refine g_ ((s04.trans s5).seq hS) (by omega) ?_;nofun;exact hR _ _ (ae.refl _) ao.int
  obtain⟨ca,rfl,ca0,hca⟩:=ao.iif.mp n5;have s25:=s4.trans s5;nofun;exists lK (s5 _ _ ac.get);refine bW (ar.of (s25 _ _ hna2)) (kR (by omega) (by omega)) ?_;nofun;refine bW (ar.of (s25 _ _ hka)) (kR (by omega) (by omega)) ?_;nofun;refine⟨_,ca,na,ka,iW ns start size i,Pz,PK,rfl,ar.of hca,ar.of (s25 _ _ hna2),ar.of (s25 _ _ hka),by omega,by omega,by have:=(hcl i).2;omega,λv H6 s6 n6=>?_⟩;have s46:=s5.trans s6;nofun;refine⟨(by right),λT hT=>?_⟩;have n7:ao H4 (upd H6 T (.tup [.int (Pz.getD i 0),v])) (v7 Pz PK (iW ns start size) i) (.ref T):=by have:=ao.pairD (n:=Pz.getD i 0) (n6.back s5) hT;rw[show(0+(i:Int)).toNat=i by omega]at this;exact this
  rw[show(0+(i:Int)).toNat=i by omega];have s7:=s46.trans (aB hT (.tup [.int (Pz.getD i 0),v]));have lv:=ac.len;simp only[aV,OU]at lv;nofun;refine vf (s7 _ _ ac.get) (kc (by omega)) ?_;nofun;nomatch _,_,_,_,vs++[.ref T],rfl,(s4.trans s7).put fa0,f4.trans (s7.fr.trans jN);rw[OG,Oe];exact ac.app f4 s7 n7
 ·rintro σ H4 ⟨y5,y6,y9,y10,vs,rfl,s4,f4,ac⟩;nofun;exact q _ _ Pz PK (iW ns start size) (s02.trans s4) HP (ac.new (s02.free fa0))
inductive zZ (K:Fg)(C:Nat->Addr)(vs:QV)(H:Hp)(Q:VK)(E:XK):Prop
 |mk (ha la va gt:Addr) (n a0 a1:Int) (ks:QS) (cr:Int->Cr) (ws:QS) (fp:QW):vs=[.ref ha,.int n,.ref gt]->cn (C 8) (C 7) H ha la va ks cr ws fp->(ar K H gt [.int a0,.int a1]\/aH K H gt [.int a0,.int a1])->n.natAbs<fL->n∈ks->cQ (cr n).PJ (eY a0 a1)≠none->(∀ H',ae H H'->Q (.bl true) H')->zZ K C vs H Q E
theorem Ho{C:Addr}{sp:Sp}{t:TA}{σ:L2.St}(h:t σ H λvs H1=>∀ y dx,H1 y=none->H1 dx=none->dx≠y->sp (.ref y::vs) (upd (upd H1 dx (.own y)) y (.ins C dx [])) (λv H2=>v=.non/\Q (.ref y) H2) E):kJ C sp [] E t σ H Q:=by
 have e:(λ(vs:QV) (H1:Hp)=>∀ y dx,H1 y=none->H1 dx=none->dx≠y->sp (.ref y::(vs++[])) (upd (upd H1 dx (.own y)) y (.ins C dx [])) (λv H2=>v=.non/\Q (.ref y) H2) E)
   =λvs H1=>∀ y dx,H1 y=none->H1 dx=none->dx≠y->sp (.ref y::vs) (upd (upd H1 dx (.own y)) y (.ins C dx [])) (λv H2=>v=.non/\Q (.ref y) H2) E:=by funext vs H1;rw[Oo]
 show t σ H λvs H1=>∀ y dx,H1 y=none->H1 dx=none->dx≠y->sp (.ref y::(vs++[])) (upd (upd H1 dx (.own y)) y (.ins C dx [])) (λv H2=>v=.non/\Q (.ref y) H2) E;rw[e];exact h
theorem xJ(hy:H y=none)(hd:H dx=none):ae H (upd (upd H dx (.own y)) y (.ins c dx [])):=λb o e=>by rw[aE (bX e hy),aE (bX e hd)];exact e
variable (M_Run:sM P w K mg b8 "Run" (C 6) ["self","hall","number","given","inputs"] 8 (Qb K C))
include B Z M_Run in
theorem Kl (F:aS K "_law_unfit" "_law_unfit" xm f fd)(m:mg "_law_unfit"=some (.ref f)):Fn P w K mg b8 "_law_unfit" ["hall","number","given"] 10 (zZ K C):=by
 refine bR F La m λ_ _ _ _ H vs Q E hr h=>?_;obtain⟨ha,la,va,gt,n,a0,a1,ks,cr,ws,fp,rfl,hA,hg,hn,nm,hb,q⟩:=h;refine⟨_,(az (FL rfl rfl rfl (Jm (Jn (FN M_Run hr rfl (jn 0 (jn 1 (jn 2 (dJ (bv ag) ag))))))) (GW (tb:=λ_ _=>kj (tC (.bl true))) Z.QA rfl Z.QG (λ_ _ _ _=>(ay (aJ gk))) FM))
   (ay (aJ gk))),?_⟩
 left;refine rc ?_;nofun;refine Ho ?_;nofun;refine⟨(by right),λza hza=>?_⟩;have s1:=aB hza (.lst []);have hz:(upd H za (.lst [])) za=some (.lst (([]:QS).map V.int)):=aw;generalize upd H za (.lst [])=H1 at*;nofun;intro y dx y0 dx0 nd;have sm:=xJ (c:=(C 6)) y0 dx0;have s2:=s1.trans sm;refine⟨y,dx,ha,la,va,gt,za,n,a0,a1,ks,cr,ws,fp,[],rfl,aw,hA.same s2,hg.elim (λz=>.inl (s2.seq z)) (λz=>.inr (s2.tup z)),ar.of (sm _ _ hz),hn,λz=>Oa nm z,λz w H' o' a=>?_,λz w=>Oa w hb⟩;have s':ae H H':=λb o e=>o' b o (λw=>by rw[bu.mp w,s1.free y0]at e;cases e) (s2 b o e);nomatch (C 4),_,rfl,Z.QA;rw[NU (by simp)];show kj _ _ _ _;nofun;exact q _ s'
def xI (K:Fg):Sp:=λvs H Q _=>∃ i:Int,vs=[.int i]/\Q (.bl true) H
theorem CF(q:Q (.bl true) H):xI K [.int i] H Q E:=⟨i,rfl,q⟩
include B Z in
theorem Kk (F:aS K "_law_whole" "_law_whole" xn f fd)(m:mg "_law_whole"=some (.ref f)):Fn P w K mg b8 "_law_whole" ["found"] 1 (xI K):=by refine bR F Lb m λ_ _ _ _ H vs Q E hr h=>?_;obtain⟨i,rfl,q⟩:=h;nomatch _,(ay (aJ (eU (cq (s_ K) rfl B.isinstance L2.uH (jn 0 (dE (tQ (v:=.ty "int") rfl B.int L2.Dk rfl) ag))) (fJ (HJ (cq (s_ K) rfl B.isinstance L2.uH (jn 0 (dE (tQ (v:=.ty "bool") rfl B.bool L2.KB rfl) ag))))))));ac_rfl;refine kI (.int i) tY ?_;ac_rfl;refine kI (b:=false) (.int i) L9 ?_;exact⟨false,rfl,q⟩
def xH (K:Fg):Sp:=zr K .int
include B Z in
theorem Kj (F:aS K "_law_worth" "_law_worth" xo f fd)(m:mg "_law_worth"=some (.ref f)):Fn P w K mg b8 "_law_worth" ["line","numbers"] 1 (xH K):=by
 refine bR F um m λ_ _ _ _ H vs Q E hr h=>?_;obtain⟨a,b,c,fs,ns,rfl,hA,hB,lf,ln,mo,q⟩:=h;refine⟨_,(az (js 2 um.nd (jx K (pv 0) aj))
   (az (gy PassesOwn.never rfl (iQ rfl B.range (jk ag)) (jg 3 um.nd) (ay (js 2 um.nd (jp K (pv 2) (aO ik (jx K (pv 0) (jp K (pv 3) aj)) (jx K (pv 1) (pv 3)))))))
   (ay (aJ (pv 2))))),?_⟩
 ac_rfl;refine bW hA (v:=.int c) dU ?_;ac_rfl;nomatch 8,rfl,by decide,by decide
 refine mC (n:=8) lH (λi σ H2=>∃ x,σ=[some (.ref a),some (.ref b),some (.int (c+bQ (fs.take i) (ns.take i))),x]/\ae H H2)
  ⟨none,by simp[bQ];rfl,ae.refl _⟩ (λi σ H2 ⟨_,_,e⟩=>e) ?_ ?_
 ·rintro i v σ H2 H3 hi ⟨x,rfl,s2⟩ s3 rfl;have i1:i<fs.length:=by omega
  have i2:i<ns.length:=by omega
  ac_rfl;have e1:fe ((c::fs).map V.int) ((0:Int)+(i:Int)+1)=some (.int fs[i]):=by rw[show(0:Int)+(i:Int)+1=((i+1:Nat):Int)by omega];exact bJ (by simp[i1])
  refine bW ((s2.trans s3).seq hA) e1 ?_;ac_rfl;have e2:fe (ns.map V.int) ((0:Int)+(i:Int))=some (.int ns[i]):=by rw[show(0:Int)+(i:Int)=((i:Nat):Int)by omega];exact bJ (by simp[i2])
  refine bW ((s2.trans s3).seq hB) e2 ?_;refine t9 (mo i fs[i] ns[i] (by simp) (by simp)) ?_;ac_rfl;refine⟨some (.int (0+(i:Int))),?_,s2.trans s3⟩;rw[yb fs ns i fs[i] ns[i] (by simp) (by simp),Int.add_assoc];rfl
 ·rintro σ H2 ⟨x,rfl,s2⟩;ac_rfl;rw[N6 (by omega),N6 (by omega)];exact q _ s2
def sP (xs:QV)(lv:QT)(a:QS):Prop:=xs=[.str "cut"]\/xs=[.str "dry"]\/xs=[.str "stray"]\/xs=[.str "deep"]\/∃ r0 r1,xs=[.str "done",.int r0,.int r1]/\∀ l∈lv,0<=aP l (v8 [0,0,0,0] a r0 r1)
inductive zY (K:Fg)(vs:QV)(H:Hp)(Q:VK)(E:XK):Prop
 |mk (T pa gt:Addr) (xs:QV) (c:Cr) (a0 a1:Int):vs=[.ref T,.ref pa,.ref gt]->H T=some (.tup xs)->c.at H (.ref pa)->c.Rt->H gt=some (.tup [.int a0,.int a1])->sP xs c.PB [a0,a1]->(∀ H',ae H H'->Q (.bl true) H')->zY K vs H Q E
theorem pB{t:Addr}{s:Str}(h:H t=some (.tup [.str s])):aq K H (.tup [.str s]) (.ref t):=ai.rep _ (fp:=[]) (by unfold ai;exact⟨t,_,rfl,h,ak.cstr ak.nil⟩)
theorem ul:[D.tup [.str "cut"],.tup [.str "dry"],.tup [.str "stray"],.tup [.str "deep"]].any (λd=>aF d (.tup [.str "cut"]))=true/\[D.tup [.str "cut"],.tup [.str "dry"],.tup [.str "stray"],.tup [.str "deep"]].any (λd=>aF d (.tup [.str "dry"]))=true/\[D.tup [.str "cut"],.tup [.str "dry"],.tup [.str "stray"],.tup [.str "deep"]].any (λd=>aF d (.tup [.str "stray"]))=true/\[D.tup [.str "cut"],.tup [.str "dry"],.tup [.str "stray"],.tup [.str "deep"]].any (λd=>aF d (.tup [.str "deep"]))=true:=by refine⟨?_,?_,?_,?_⟩<;>simp[uw]
theorem HV(h9:l.length=9)(sm:Sm l)(h1:ar K H la (l.map V.int))(h2:ar K H na (ns.map V.int))(h3:ns.length=8)(q:∀ H',ae H H'->Q (.int (aP l ns)) H'):xH K [.ref la,.ref na] H Q E:=by
 cases l with
 |nil=>simp at h9
 |cons c fs=>
 refine⟨la,na,c,fs,ns,rfl,h1,h2,by simpa using h9,h3,tm sm,λH' s=>?_⟩;rw[<-pO];exact q H' s
include B Z in
theorem JZ (Q7f:Fn P w K mg b8 "_law_whole" ["found"] 1 (xI K))(G_l_worth:Fn P w K mg b8 "_law_worth" ["line","numbers"] 1 (xH K))(F:aS K "_law_fair" "_law_fair" wH f fd)(m:mg "_law_fair"=some (.ref f)):Fn P w K mg b8 "_law_fair" ["told","parts","given"] 2 (zY K):=by
 refine bR F xc m λ_ _ _ _ H vs Q E hr h=>?_;obtain⟨T,pa,gt,xs,c,a0,a1,rfl,hT,hc,rt,hgt,hf,q⟩:=h;refine⟨_,(az (bq (PW.pt (kK (iU (fg (cq (s_ K) rfl B.isinstance L2.uH (jn 0 (dE (tQ (v:=.ty "tuple") rfl B.tuple L2.Eo rfl) ag))))) (oU (jt K hr (cq (eQ K) rfl B.len L2.boot_len (jn 0 ag)) aj)))) (ay (aJ gk)) bE)
   (az (bq (jc (jh K hr) (jx K (pv 0) aj) bY) (ay (aJ (wu (qV K hr) (pv 0) (bv (g7 (cx (dj bY ag)) (g7 (cx (dj bY ag)) (g7 (cx (dj bY ag)) (g7 (cx (dj bY ag)) ag))))) rfl))) bE)
   (az (bq (PW.pt (kK (jc (jh K hr) (cq (eQ K) rfl B.len L2.boot_len (jn 0 ag)) aj) (kK (iU (fg (jl Q7f hr (bn (jx K (pv 0) aj) ag)))) (oU (iU (fg (jl Q7f hr (bn (jx K (pv 0) aj) ag)))))))) (ay (aJ gk)) bE)
   (az (js 3 xc.nd (bv (jk (jk (jk (jk (bn (jx K (pv 2) aj) (bn (jx K (pv 2) aj) (bn (jx K (pv 0) aj) (bn (jx K (pv 0) aj) ag))))))))))
   (ay (aJ (cq (ju K rfl) rfl B.all L2.jO (ie (jC (bG.f xc ["told","parts","given","numbers","line"] [false,false,false,false,true]) (db K (jx K (pv 1) aj)) (λn=>(jg 4 n)) (jv vt (jl G_l_worth hr (jn 4 (jn 3 ag))) aj)) ag)))))))),?_⟩
 obtain⟨qa,y1,y2,a3,a4,P9,Qo,e,hq,L1,L2',_⟩:=hc;cases e;have hf':(∃ w:Str,xs=[.str w]/\decide (w="done")=false/\[D.tup [.str "cut"],.tup [.str "dry"],.tup [.str "stray"],.tup [.str "deep"]].any (λd=>aF d (.tup [.str w]))=true)\/∃ r0 r1,xs=[.str "done",.int r0,.int r1]/\∀ l∈c.PB,0<=aP l (v8 [0,0,0,0] [a0,a1] r0 r1):=by
  rcases hf with z|z|z|z|z
  ·exact .inl ⟨_,z,by decide+kernel,ul.1⟩
  ·exact .inl ⟨_,z,by decide+kernel,ul.2.1⟩
  ·exact .inl ⟨_,z,by decide+kernel,ul.2.2.1⟩
  ·exact .inl ⟨_,z,by decide+kernel,ul.2.2.2⟩
  ·exact .inr z
 rcases hf' with⟨w,rfl,nw,hw⟩|⟨r0,r1,rfl,hlv⟩
 ·nofun;with_reducible refine n_ (λQ2 q2=>?_) (λH1 s1=>?_)
  ·nofun;refine kI (.tup hT) tY ?_;nofun;refine eW (.inr (aH.of hT)) ?_;nofun;exact q2 _ (ae.refl _)
  have hT1:=s1 _ _ hT;left;nofun;refine aZ (aH.of hT1) (v:=.str w) dU ?_;nofun;rw[nw];nofun;refine⟨(by right),λt1 ht1=>?_⟩;have u1:=aB ht1 (.tup [V.str "cut"]);nofun;refine⟨(by right),λt2 ht2=>?_⟩;have u2:=aB ht2 (.tup [V.str "dry"]);nofun;refine⟨(by right),λt3 ht3=>?_⟩;have u3:=aB ht3 (.tup [V.str "stray"]);nofun;refine⟨(by right),λt4 ht4=>?_⟩;have u4:=aB ht4 (.tup [V.str "deep"]);nofun;refine⟨(by right),λt5 ht5=>?_⟩;have u5:=aB ht5 (.lst [V.ref t1,.ref t2,.ref t3,.ref t4]);have k1:=u5 _ _ (u4 _ _ (u3 _ _ (u2 _ _ (aw (H:=H1) (a:=t1) (o:=.tup [V.str "cut"])))));have n12:=bX (aw (H:=H1) (a:=t1) (o:=.tup [V.str "cut"])) ht2;have n13:=bX (u2 _ _ (aw (H:=H1) (a:=t1) (o:=.tup [V.str "cut"]))) ht3;have n14:=bX (u3 _ _ (u2 _ _ (aw (H:=H1) (a:=t1) (o:=.tup [V.str "cut"])))) ht4;have n23:=bX (aw (a:=t2) (o:=.tup [V.str "dry"])) ht3;have n24:=bX (u3 _ _ (aw (a:=t2) (o:=.tup [V.str "dry"]))) ht4;have n34:=bX (aw (a:=t3) (o:=.tup [V.str "stray"])) ht4;have k2:=u5 _ _ (u4 _ _ (u3 _ _ (aw (a:=t2) (o:=.tup [V.str "dry"]))));have k3:=u5 _ _ (u4 _ _ (aw (a:=t3) (o:=.tup [V.str "stray"])));have k4:=u5 _ _ (aw (a:=t4) (o:=.tup [V.str "deep"]));have uu:=u1.trans (u2.trans (u3.trans (u4.trans u5)));refine rE (as:=[t1,t2,t3,t4]) (ds:=[.tup [.str "cut"],.tup [.str "dry"],.tup [.str "stray"],.tup [.str "deep"]]) (e:=.tup [.str w]) (ar.of aw) (by simp[n12,n13,n14,n23,n24,n34]) ?_ (by decide) (pB (uu _ _ hT1)) ?_
  ·unfold av;exact⟨_,_,rfl,pB k1,by unfold av;exact⟨_,_,rfl,pB k2,by unfold av;exact⟨_,_,rfl,pB k3,by unfold av;exact⟨_,_,rfl,pB k4,by unfold av;rfl⟩⟩⟩⟩
  ·rw[hw];exact q _ (s1.trans uu)
 ·nofun;with_reducible refine n_ (λQ2 q2=>?_) (λH1 s1=>?_)
  ·nofun;refine kI (.tup hT) tY ?_;nofun;refine eW (.inr (aH.of hT)) ?_;nofun;exact q2 _ (ae.refl _)
  have hT1:=s1 _ _ hT;nofun;with_reducible refine n_ (λQ2 q2=>?_) (λH2 s2=>?_)
  ·nofun;refine aZ (aH.of hT1) (v:=.str "done") dU ?_;nofun;rw[N0 rfl];exact q2 _ (ae.refl _)
  have hT2:=s2 _ _ hT1;nofun;with_reducible refine n_ (λQ2 q2=>?_) (λH3 s3=>?_)
  ·nofun;refine eW (.inr (aH.of hT2)) ?_;nofun;rw[N0 (show(([V.str "done",.int r0,.int r1]:QV).length:Int)=3 from rfl)];nofun;refine aZ (aH.of hT2) (v:=.int r0) (bJ (j:=1) rfl) ?_;nofun;refine CF ?_;nofun;refine aZ (aH.of hT2) (v:=.int r1) (bJ (j:=2) rfl) ?_;nofun;refine CF ?_;nofun;exact q2 _ (ae.refl _)
  have s03:=s1.trans (s2.trans s3);have hT3:=s03 _ _ hT;have hg3:=s03 _ _ hgt;nofun;left;nofun;refine aZ (aH.of hg3) (v:=.int a0) dU ?_;nofun;refine aZ (aH.of hg3) (v:=.int a1) (bJ (j:=1) rfl) ?_;nofun;refine aZ (aH.of hT3) (v:=.int r0) (bJ (j:=1) rfl) ?_;nofun;refine aZ (aH.of hT3) (v:=.int r1) (bJ (j:=2) rfl) ?_;nofun;refine⟨(by right),λna hna=>?_⟩;have s4:=aB hna (.lst [V.int 0,.int 0,.int 0,.int 0,.int a0,.int a1,.int r0,.int r1]);have hn4:(upd H3 na (.lst [V.int 0,.int 0,.int 0,.int 0,.int a0,.int a1,.int r0,.int r1])) na=some (.lst ((v8 [0,0,0,0] [a0,a1] r0 r1).map V.int)):=aw;have s04:=s03.trans s4;generalize upd H3 na (.lst [V.int 0,.int 0,.int 0,.int 0,.int a0,.int a1,.int r0,.int r1])=H4 at*;obtain⟨as2,e2,l2,k2⟩:=L2'.same s04;have p2:=rt.parts.2.1;nofun;refine bW (ar.of (s04 _ _ hq)) (v:=.ref y2) (bJ (j:=1) rfl) ?_;nofun;nomatch y2,rfl,⟨_,ar.of e2⟩;refine cX (dY (ar.of e2)) ((c.PB.map λ_=>true).map D.bl) (by simp[l2]) (bF (by simp;omega)) (λj x d H5 R hj hd s5 hx hR=>?_) (λv H5 s5 n5=>?_)
  ·rw[aR]at hx;obtain⟨b,hb,rfl⟩:=ce.mp hx;rw[aR,aR]at hd;have hj':j<c.PB.length:=by rw[<-l2];exact(dF.mp hb).1
   have hl:c.PB[j]?=some c.PB[j]:=NQ hj';generalize c.PB[j]=l at hl;rw[hl]at hd;cases hd;have lm:=bT hl;obtain⟨l9,lsm⟩:=rt.sm.2.1 l lm;nofun;refine HV l9 lsm (ar.of (s5 _ _ (k2 j b l hb hl))) (ar.of (s5 _ _ hn4)) rfl λH6 s6=>?_;nofun;rw[N0 (hlv l lm)];exact hR _ _ s6 ao.bl
  obtain⟨ba,rfl,ba0,ba1⟩:=ao.bls n5;nofun;refine jw (ar.of ba1) ?_;rw[show(c.PB.map λ_=>true).all id=true by simp];exact q _ (s04.trans s5)
inductive uR (K:Fg)(vs:QV)(H:Hp)(Q:VK)(E:XK):Prop
 |mk (a:Addr) (ns:QS):vs=[.ref a]->ar K H a (ns.map V.int)->ns.length<=63->(∀ H',Q (.bl true) H')->uR K vs H Q E
theorem qN{H4:Hp}{own:QW}(hy:H y=none)(hd:H dx=none)(m:a_ [y] (upd (upd H dx (.own y)) y (.ins c dx [])) own H4):ae H H4/\∀ b∈own,H b=none:=by
 have sm:=xJ (c:=c) hy hd;refine⟨λb o e=>m.1 b o (λz=>by rw[bu.mp z,hy]at e;cases e) (sm b o e),λb hb=>?_⟩;rcases m.2.1 b hb with z|z
 ·rw[bu.mp z];exact hy
 ·exact sm.free z
theorem wG{H0:Hp}(s:ae H0 H)(f:∀ b∈S,H0 b=none)(o:bc S H H'):ae H0 H':=λb u e=>o b u (λz=>by rw[f b z]at e;cases e) (s b u e)
theorem Ki (rs:List (Int×QS)):cN (rs.map nG)<=2:=tL λd hd=>by
 obtain⟨r,_,rfl⟩:=bB.mp hd;unfold nG dM;refine O8 (tL λe he=>?_);rcases NP.mp he with rfl|he
 ·unfold dM;omega
 ·rw[bu.mp he];exact t_ _
theorem BZ:∀{rs:List (Int×QS)}{xs:QV},av K H (rs.map nG) xs->xs.any nM=false
 |[],_,h=>by unfold List.map av at h;subst h;rfl|r::rs,_,h=>by rw[bw]at h;unfold av at h;obtain⟨x,xs,rfl,h1,h2⟩:=h;unfold nG aq at h1;obtain⟨t,_,rfl,_⟩:=h1;rw[OC,BZ h2];rfl
include B Z M_Craft Q7b Q79 M_Run in
theorem FP (Q8a:Fn P w K mg b8 "_law_hall_parts" ["script","start","many","size"] 7 (z_ K))(M_Hall:kE P w K mg b8 "Hall" (C 8) ["self"] 1 (Ar K C))(G_Hall_lay:bK (cU P w) P w K mg b8 (C 8) "lay" ["self","number","craft"] 8 (Aq K C))(G_l_unfit:Fn P w K mg b8 "_law_unfit" ["hall","number","given"] 10 (zZ K C))(Q65:bK (cU P w) P w K mg b8 (C 8) "seek" ["self","number"] 8 (An K C))(G_l_fair:Fn P w K mg b8 "_law_fair" ["told","parts","given"] 2 (zY K))(G_Run_go:bK bL P w K mg b8 (C 6) "go" ["self","fuel"] 10 (Qc K C))(Q6b:bK bL P w K mg b8 (C 8) "sworn" ["self","number"] 4 (Ak K C))(F:aS K "law" "law" lZ f fd):ck P w K mg b8 bL 11 f fd ["script"] (uR K):=by
 refine F.ok (k:=10) fP (λvs H Q E h=>?_) (λcdv A outer s H vs Q E hr h=>?_)
 ·obtain⟨a,ns,rfl,_⟩:=h;rfl
 obtain⟨a,ns,rfl,hS,h63,q⟩:=h;refine⟨_,(az (js 1 fP.nd (jp K aj (aO cy (jl Q79 hr (jn 0 (jk ag))) aj)))
   (az (js 2 fP.nd (jl Q8a hr (jn 0 (jk (jn 1 (jk ag))))))
   (az (js 3 fP.nd (FF M_Hall hr rfl))
   (az (gy PassesOwn.never rfl (db K (pv 2)) (kS K (n:=2) rfl (gC (jg 4 fP.nd) (gC (jg 5 fP.nd) lA))) (ay (dC (cS G_Hall_lay Z.P3 hr vF (pv 3) (jn 4 (bH (ve M_Craft hr rfl (bn (jx K (pv 5) aj) (bn (jx K (pv 5) aj) (bn (jx K (pv 5) aj) (bn (jx K (pv 5) aj) ag))))) ag))))))
   (az (gy PassesOwn.never rfl (db K (pv 2)) (kS K (n:=2) rfl (gC (jg 4 fP.nd) (gC (jg 5 fP.nd) lA))) (ay (bq (wr (qU K hr) gH (cS Q65 Z.P3 hr vF (pv 3) (jn 4 ag)) rfl) (ay (aJ gk)) bE)))
   (az (oS (jx K (pv 2) (aO cy (jl Q79 hr (jn 0 (jk ag))) (pv 1))) (kS K (n:=2) rfl (gC (jg 4 fP.nd) (gC (jg 5 fP.nd) lA))))
   (az (bq (iU (fg (cq (ju K rfl) rfl B.all L2.jO (ie (jC (bG.f fP ["script","many","placed","hall","number","parts","given","rest","run","fuel","other","mine"] [false,false,false,false,false,false,false,false,false,false,true,true]) (db K (pv 2)) (λn=>(kS K (n:=2) rfl (gC (jg 10 n) (gC (jg 11 n) lA)))) (jv FA (cS Q6b Z.P3 hr cf (pv 3) (jn 10 ag)) gk)) ag)))) (ay (aJ gk)) bE)
   (az (bq (iU (fg (jl G_l_unfit hr (jn 3 (jn 4 (g7 (cx (bN (aO mh (dP dX aj) (aO cy (jl Q79 hr (jn 0 (jk ag))) aj)) (jk ag))) ag)))))) (ay (aJ gk)) bE)
   (az (js 6 fP.nd (cx (bN (aO cy (jl Q79 hr (jn 0 (jk ag))) aj) (bN (aO cy (jl Q79 hr (jn 0 (jk ag))) (jp K (aO mf aj aj) aj)) ag))))
   (az (bq (jt K hr (aO cy (aO cW (jl Q79 hr (jn 0 (jk ag))) aj) aj) aj) (ay (js 6 fP.nd (cx (bn (jx K (pv 6) aj) (bn (jx K (pv 6) aj) ag))))) bE)
   (az (jS 7 fP.nd (bG.f fP ["script","many","placed","hall","number","parts","given","rest","run","fuel","k"] [false,false,false,false,false,false,false,false,false,false,true]) (iQ rfl B.range (bN (aO cy (jl Q79 hr (jn 0 (jk ag))) aj) ag)) (λn=>(jg 10 n)) (jl Q7b hr (bH (jl Q79 hr (jn 0 (jk ag))) (jn 10 (jk ag)))))
   (az (js 8 fP.nd (FO M_Run hr rfl vF (jn 3 (jn 4 (jn 6 (jn 7 ag))))))
   (az (gy PassesOwn.never rfl (db K (bv (bN (aO cy (jl Q79 hr (jn 0 (jk ag))) aj) (bN (jp K aj (aO cy (aO cW (jl Q79 hr (jn 0 (jk ag))) aj) aj)) ag)))) (jg 9 fP.nd) (ay (bq (iU (fg (jl G_l_fair hr (bH (cS G_Run_go Z.PR hr cf (pv 8) (jn 9 ag)) (jn 5 (jn 6 ag)))))) (ay (aJ gk)) bE)))
   (ay (aJ gk))))))))))))))),?_⟩
 nofun;left;nofun;refine g_ hS (by decide) ?_;nofun;have c1:=Oq (cell ns 0) (show(3:Int)≠0 by decide);have c2:=Ot (cell ns 0) (show(0:Int)<3 by decide);have cm:1<=1+cell ns 0%3/\1+cell ns 0%3<=3:=by omega
 generalize 1+cell ns 0%3=many at*;nofun;left;nofun;refine⟨a,6,many,3,ns,rfl,hS,by decide,by omega,by omega,by decide,by decide,λv H2 Pz PK cells s2 HP n2=>?_⟩;have pk:=HP.ps (by omega) (by decide);have n2':ao H H2 (.lst ((iL Pz PK cells many.toNat).map l_)) v:=by rw[L_];exact n2
 have plen:(iL Pz PK cells many.toNat).length=many.toNat:=by unfold iL;simp
 obtain⟨pl,rfl,pl0,PA⟩:=JV (λp hp=>(pk.rt p hp).nine.d9) n2';have fps:∀(i:Nat) p,(iL Pz PK cells many.toNat)[i]?=some p->ke (p.2.gs (bb (iL Pz PK cells many.toNat))):=λi p e=>by
  have hi:i<many.toNat:=by rw[<-plen];exact(dF.mp e).1
  unfold iL at e;rw[aR,OL hi]at e;cases e;exact HP.found (by omega) hi pk.ho
 generalize iL Pz PK cells many.toNat=ps at*;clear n2 n2';have hS2:=s2.seq hS;have lps:=pk.len;have ln3:Pz.length<=3:=by omega
 have enm:=pk.nums;have SW:∀{ks:QS},(∀ m∈Pz,m∈ks)->lP (λm=>m∈Pz) ks (bb ps):=λ{ks} hk=>by
  have key:∀ m∈Pz,∃(i:Nat) (p:Int×Cr),ps[i]?=some p/\p.1=m/\bb ps m=p.2:=λm hm=>by rw[<-enm]at hm;obtain⟨p,hp,rfl⟩:=bB.mp hm;obtain⟨i,e⟩:=List.getElem?_of_mem hp;exact⟨i,p,e,rfl,(pk.get e).2⟩
  refine⟨hk,λm hm=>?_,λm hm=>?_,λm hm k hk=>?_⟩
  ·obtain⟨i,p,e,_,ec⟩:=key m hm;rw[ec];exact pk.rt p (bT e)
  ·obtain⟨i,p,e,_,ec⟩:=key m hm;rw[ec];exact fps i p e
  ·obtain⟨i,p,e,_,ec⟩:=key m hm;rw[ec]at hk;exact pk.calls p (bT e) k hk
 have clo:∀ m,∀ k∈fK Pz (bb ps) m,k∈Pz:=λm k hk=>by
  unfold fK at hk;split at hk
  ·rename_i z;exact(SW (λm h=>h)).cl m z k hk
  ·cases hk
 nofun;left;nofun;intro ha dx ha0 dx0 ndx;refine⟨ha,dx,rfl,aw,λla va H3 la0 va0 nlv o1 h1 h2 h3=>⟨rfl,?_⟩⟩;have s3:ae H2 H3:=JC ha0 dx0 o1;have hA3:cn (C 8) (C 7) H3 ha la va [] (bb ps) [] []:=cn.start h1 h2 h3 nlv;have sm:ae H2 (upd (upd H2 dx (.own ha)) ha (.ins (C 8) dx [])):=λb o e=>by rw[aE (bX e ha0),aE (bX e dx0)];exact e
 have la2:=sm.free la0;have va2:=sm.free va0;clear h1 h2 h3 nlv o1 la0 va0 ha0 dx0 ndx sm;obtain⟨pvs,hpv,r2⟩:=id PA;nofun;with_reducible refine jD (λσ H7=>E3 λy z fp=>A3 (σ=[some (.ref a),some (.int many),some (.ref pl),some (.ref ha),y,z,none,none,none,none]) (ae H2 H7) (cn (C 8) (C 7) H7 ha la va Pz (bb ps) [] fp)) (λNX tail=>?_) ?_
 ·nofun;nomatch pl,rfl,⟨_,ar.of (s3 _ _ hpv)⟩;refine pj (xs:=pvs) (λi σ H7=>E3 λy z fp=>A3 (σ=[some (.ref a),some (.int many),some (.ref pl),some (.ref ha),y,z,none,none,none,none]) (ae H2 H7) (cn (C 8) (C 7) H7 ha la va (Pz.take i) (bb ps) [] fp))
   ⟨none,none,[],rfl,s3,hA3⟩ (λi σ H7 _ ⟨_,_,_,_,nd,_⟩=>ar.of (nd _ _ hpv)) ?_ ?_
  ·rintro i v σ H7 hv ⟨y,z,fp,rfl,s7,hA7⟩;have hi:i<ps.length:=by rw[r2.1];exact(dF.mp hv).1
   have ep:ps[i]?=some ps[i]:=NQ hi;obtain⟨T',w,rfl,hT',hw⟩:=r2.2 i _ v ep hv;obtain⟨en,ec⟩:=pk.get ep;have rt:=pk.rt _ (Om hi);generalize ps[i]=p at*;obtain⟨n,c⟩:=p;have nb:=pk.nb n (bT en);have hw7:=oW.nod s7.nod hw;obtain⟨qa,z1,z2,b3,b4,dvs',nvs',rfl,hq,L1,L2',hb3,hb4,hD,hN⟩:=hw7;refine⟨T',_,rfl,aH.of (s7 _ _ hT'),rfl,⟨_,_,rfl,?_⟩⟩;nomatch _,_,rfl;nomatch rfl;obtain⟨dx7,hh7⟩:=hA7.ins;nofun;exists ha,dx7,_,rfl,hh7,gZ;refine bW (ar.of hq) (v:=.ref z1) dU ?_;nofun;refine bW (ar.of hq) (v:=.ref z2) (bJ (j:=1) rfl) ?_;nofun;refine bW (ar.of hq) (v:=.ref b3) (bJ (j:=2) rfl) ?_;nofun;refine bW (ar.of hq) (v:=.ref b4) (bJ (j:=3) rfl) ?_;nofun;intro p dp p0 dp0 ndp;refine DF (c:=c) p0 dp0 L1.rep L2'.rep (ar.of hb3) (ar.of hb4) hD (hN.mono λls x ⟨b,e1,e2⟩=>by rw[e1];exact e2.rep) rt.nine λH8 f s8 hC hf fn=>⟨rfl,?_⟩;nofun;have hlt:i<Pz.length:=by rw[<-lps];exact hi
   refine⟨ha,la,va,p,n,Pz.take i,bb ps,[],fp,c,rfl,hA7.same s8,hC.t rt.nine.d9,rt.nine,by unfold fL;omega,.inr (by rw[OB];omega),λz=>(by have:=rt.r;rw[this]at z;cases z),λ_ H9 ks' ws' fp' o9 hA9 _ _ hks hws _=>?_⟩;have nn:n∉Pz.take i:=Ew pk.nd en;have tk:Pz.take (i+1)=Pz.take i++[n]:=by rw[OE,en];rfl
   have ws0:ws'=[]:=List.eq_nil_iff_forall_not_mem.mpr λm hm=>by have:=((hws m).mp hm).1;cases this
   nofun;nomatch _,_,fp',rfl,wG (s7.trans s8) (λb hb=>?_) o9
   ·push_cast at hb;rcases hb with rfl|rfl
    ·exact la2
    ·exact va2
   ·rw[tk,<-hks nn,<-ws0];refine hA9.congr λm _=>?_;unfold iu;split
    ·rename_i z;rw[z];exact ec.symm
    ·rfl
  ·rintro σ H7 ⟨y,z,fp,rfl,s7,hA7⟩;rw[<-r2.1,lps,N6 (NV _)]at hA7;exact tail _ _ ⟨y,z,fp,rfl,s7,hA7⟩
 clear hA3 s3;rintro σ H3 ⟨y,z,fp,rfl,s3,hA3⟩;nofun;with_reducible refine jD (λσ H8=>E3 λy z ws=>A4 (σ=[some (.ref a),some (.int many),some (.ref pl),some (.ref ha),y,z,none,none,none,none]) (ae H2 H8) (cn (C 8) (C 7) H8 ha la va Pz (bb ps) ws fp) (∀ m∈Pz,m∈ws)) (λNX tail=>?_) ?_
 ·nofun;nomatch pl,rfl,⟨_,ar.of (s3 _ _ hpv)⟩;refine pj (xs:=pvs) (λi σ H8=>E3 λy z ws=>A4 (σ=[some (.ref a),some (.int many),some (.ref pl),some (.ref ha),y,z,none,none,none,none]) (ae H2 H8) (cn (C 8) (C 7) H8 ha la va Pz (bb ps) ws fp) (∀ m∈Pz.take i,m∈ws))
   ⟨y,z,[],rfl,s3,hA3,λm hm=>by simp at hm⟩ (λi σ H8 _ ⟨_,_,_,_,nd,_,_⟩=>ar.of (nd _ _ hpv)) ?_ ?_
  ·rintro i v σ H8 hv ⟨y,z,ws,rfl,s8,hA8,hw8⟩;have hi:i<ps.length:=by rw[r2.1];exact(dF.mp hv).1
   have ep:ps[i]?=some ps[i]:=NQ hi;obtain⟨T',w,rfl,hT',hw⟩:=r2.2 i _ v ep hv;obtain⟨en,ec⟩:=pk.get ep;generalize ps[i]=p at*;obtain⟨n,c⟩:=p;have nm:=bT en;have nb:=pk.nb n nm;have fd:ke ((bb ps n).gs (bb ps)):=(SW (λm h=>h)).fd n nm;have tk:Pz.take (i+1)=Pz.take i++[n]:=by rw[OE,en];rfl
   refine⟨T',_,rfl,aH.of (s8 _ _ hT'),rfl,⟨_,_,rfl,?_⟩⟩;nomatch _,_,rfl;nomatch rfl;obtain⟨dx8,hh8⟩:=hA8.ins;nofun;exists ha,dx8,_,rfl,hh8,gZ;refine⟨ha,la,va,n,Pz,bb ps,ws,fp,rfl,hA8,by unfold fL;omega,λz=>Oa nm z,λ_ ⟨m,mm,mk⟩=>Oa ((SW (λm h=>h)).cl n nm m mm) mk,λ_ _ v H9 ws9 o9 hA9 hw9 n9=>?_⟩;rw[Hv fd]at n9;obtain⟨ra,rvs,rfp,rfl,ra0,hra,hrr,_⟩:=ao.lso n9;have hrp:=ak.reps (K:=K) _ hrr;nofun;refine rD (ar.of hra) hrp (Od (Ki _) (by decide)) ?_;rw[BZ hrp];nofun;refine⟨_,_,ws9,rfl,wG s8 (λb hb=>by rw[bu.mp hb];exact va2) o9,hA9,λm hm=>?_⟩;rw[tk]at hm;rw[hw9];rcases bC.mp hm with z|z
   ·exact .inl (hw8 m z)
   ·rw[bu.mp z];exact .inr ⟨rfl,fd⟩
  ·rintro σ H8 ⟨y,z,ws,rfl,s8,hA8,hw8⟩;rw[<-r2.1,lps,N6 (NV _)]at hw8;exact tail _ _ ⟨y,z,ws,rfl,s8,hA8,hw8⟩
 clear hA3 s3;rintro σ H3 ⟨y,z,ws,rfl,s3,hA3,hw3⟩;have hS3:=s3.seq hS2;nofun;left;nofun;refine g_ hS3 (by decide) ?_;nofun;have lN:=Oq (cell ns 1) (show many≠0 by omega);have iC:=Ot (cell ns 1) (show 0<many by omega);generalize cell ns 1%many=at' at lN iC ⊢;have hk:at'.toNat<ps.length:=by omega
 obtain⟨v,ev⟩:∃ v,pvs[at'.toNat]?=some v:=⟨_,NQ (by rw[<-r2.1];exact hk)⟩;have ep:ps[at'.toNat]?=some ps[at'.toNat]:=NQ hk;obtain⟨T',w,rfl,hT',hw⟩:=r2.2 _ _ v ep ev;obtain⟨en,ec⟩:=pk.get ep;have rt:=pk.rt _ (Om hk);have oa:=(pk.oath _ _ ep).1;generalize ps[at'.toNat]=p at*;obtain⟨n,c⟩:=p;have ec:bb ps n=c:=ec;have rt:c.Rt:=rt;have oa:c.PJ=_:=oa;have hw:c.at H2 w:=hw;obtain⟨pa,rfl⟩:∃ pa,w=.ref pa:=by obtain⟨pa,_,_,_,_,_,_,e,_⟩:=hw;exact⟨pa,e⟩
 have nm:n∈Pz:=bT en;have nb:=pk.nb n nm;refine bW (ar.of (s3 _ _ hpv)) (v:=.ref T') (o5 lN ev) ?_;refine⟨T',_,rfl,aH.of (s3 _ _ hT'),rfl,⟨_,_,rfl,?_⟩⟩;nomatch _,_,rfl;nomatch rfl;nofun;with_reducible refine n_ (λQ2 q2=>?_) (λH4 s4=>?_)
 ·nofun;nomatch pl,rfl,⟨_,ar.of (s3 _ _ hpv)⟩;refine cX (dY (ar.of (s3 _ _ hpv))) ((ps.map λ_=>true).map D.bl) (by simp[r2.1]) (bF (by rw[<-r2.1];omega)) (λj x d H4 R hj hd s4 hx hR=>?_) (λv H4 s4 n4=>?_)
  ·have hj':j<ps.length:=by rw[r2.1];exact hj
   have ej:ps[j]?=some ps[j]:=NQ hj';obtain⟨T2,w2,rfl,hT2,_⟩:=r2.2 j _ x ej hx;obtain⟨en2,_⟩:=pk.get ej;rw[aR,aR,ej]at hd;cases hd;generalize ps[j]=p at*;obtain⟨m,c'⟩:=p;have mm:m∈Pz:=bT en2;refine⟨T2,_,rfl,aH.of ((s3.trans s4) _ _ hT2),rfl,⟨_,_,rfl,?_⟩⟩;nomatch _,_,rfl;nomatch rfl;have hA4:=hA3.same s4;obtain⟨dx4,hh4⟩:=hA4.ins;nofun;exists ha,dx4,_,rfl,hh4,gZ;refine⟨ha,la,va,m,Pz,bb ps,ws,fp,Pz,rfl,hA4,mm,clo,by omega,λH5 b s5 hb=>?_⟩;have bt:b=true:=hb.mpr λk hk=>hw3 k (by
    cases hk with
    |me=>exact mm
    |go _ hk=>exact clo _ _ hk)
   subst bt;nofun;exact⟨true,true,rfl,rfl,hR _ _ s5 ao.bl⟩
  obtain⟨ba,rfl,ba0,ba1⟩:=ao.bls n4;nofun;refine jw (ar.of ba1) ?_;rw[show(ps.map λ_=>true).all id=true by simp];nofun;exact q2 _ s4
 have s24:=s3.trans s4;have hA4:=hA3.same s4;have hS4:=s4.seq hS3;nofun;with_reducible refine n_ (λQ2 q2=>?_) (λH5 s5=>?_)
 ·nofun;refine g_ hS4 (by decide) ?_;nofun;refine⟨(by right),λgt gt0=>?_⟩;have r1:=aB gt0 (.tup [V.int (-1 - cell ns 2%9),.int 5]);have g9:=Oq (cell ns 2) (show(9:Int)≠0 by decide);nofun;refine⟨ha,la,va,gt,n,_,5,Pz,bb ps,ws,fp,rfl,hA4.same r1,.inr (aH.of aw),by unfold fL;omega,nm,?_,λH5 s5=>?_⟩
  ·rw[ec,oa];exact JR (by omega)
  ·nofun;exact q2 _ (r1.trans s5)
 have s25:=s24.trans s5;have hA5:=hA4.same s5;have hS5:=s5.seq hS4;nofun;left;nofun;refine g_ hS5 (by decide) ?_;nofun;refine g_ hS5 (by decide) ?_;nofun;have g0:=Oq (cell ns 2) (show(9:Int)≠0 by decide);have g1:=Oq (cell ns 3) (show(1000000000+1:Int)≠0 by decide);generalize cell ns 2%9=b0 at g0 ⊢;generalize cell ns 3%(1000000000+1)=b1 at g1 ⊢;refine⟨(by right),λgt gt0=>?_⟩;have s6:=s5.trans (aB gt0 (.tup [V.int b0,.int b1]));have hg6:(upd H5 gt (.tup [V.int b0,.int b1])) gt=some (.tup [V.int b0,.int b1]):=aw;have s56:=aB gt0 (.tup [V.int b0,.int b1]);generalize upd H5 gt (.tup [V.int b0,.int b1])=H6 at*;nofun;with_reducible refine jD (λσ H'=>E3 λgt a0 a1=>A5 (σ=[some (.ref a),some (.int many),some (.ref pl),some (.ref ha),some (.int n),some (.ref pa),some (.ref gt),none,none,none]) (ae H5 H') (H' gt=some (.tup [.int a0,.int a1])) (0<=a0) (0<=a1)) (λNX tail=>?_) ?_
 ·nofun;refine g_ (s56.seq hS5) (by decide) ?_;nofun;refine fO (λe=>?_) (λe=>?_)
  ·nofun;refine aZ (aH.of hg6) (v:=.int b1) (bJ (j:=1) rfl) ?_;nofun;refine aZ (aH.of hg6) (v:=.int b0) dU ?_;nofun;refine⟨(by right),λgu gu0=>?_⟩;exact tail _ _ ⟨gu,b1,b0,rfl,s56.trans (aB gu0 _),aw,g1,g0⟩
  ·nofun;exact tail _ _ ⟨gt,b0,b1,rfl,s56,hg6,g0,g1⟩
 clear hg6 s56 s6 H6 gt0 gt g0 g1;rintro σ H6 ⟨gt,a0,a1,rfl,s56,hgt,g0,g1⟩;have s26:=s25.trans s56;have hA6:=hA5.same s56;have hS6:=s56.seq hS5;have met:cQ (bb ps n).PJ (eY a0 a1)=none:=by rw[ec,oa];exact JS g0 g1
 nofun;left;nofun;refine g_ hS6 (by decide) ?_;have r0:=Oq (cell ns 4) (show(13:Int)≠0 by decide);have r9:=Ot (cell ns 4) (show(0:Int)<13 by decide);nofun;generalize cell ns 4%13=rn at r0 r9 ⊢;refine iX (by omega) (by omega) ?_;refine cX lH (((List.range rn.toNat).map λ(k:Nat)=>eE (cell ns 4) (0+(k:Int)) 7).map D.int) (by simp) (bF (by omega)) (λj x d H7 R hj hd s7 hx hR=>?_) (λv H7 s7 n7=>?_)
 ·subst hx;rw[aR]at hd;obtain⟨z,hz,rfl⟩:=ce.mp hd;rw[aR,OL hj]at hz;cases hz;nofun;refine g_ (s7.seq hS6) (by decide) ?_;nofun;refine kH (by decide) ?_;exact hR _ _ (ae.refl _) ao.int
 obtain⟨rl,rfl,rl0,hrl⟩:=ao.iif.mp n7;generalize ((List.range rn.toNat).map λ(k:Nat)=>eE (cell ns 4) (0+(k:Int)) 7)=rest at*;have s27:=s26.trans s7;have hA7:=hA6.same s7;have hS7:=s7.seq hS6;have hg7:=s7 _ _ hgt;nofun;left;nofun;intro r dx1 r10 dx10 ndx1;have mk:=xJ (c:=(C 6)) r10 dx10;refine⟨r,dx1,ha,la,va,gt,rl,n,a0,a1,Pz,bb ps,ws,fp,rest,rfl,aw,hA7.same mk,.inr (aH.of (mk _ _ hg7)),ar.of (mk _ _ hrl),by unfold fL;omega,λz=>Oa nm z,λ_ z=>Oa met z,λ_ _ H8 ka ia sa PN P2 nn m8 RX pmn kf=>⟨rfl,?_⟩⟩;obtain⟨s8,ow⟩:=qN r10 dx10 m8;clear kf m8 mk r10 dx10 ndx1;have hS8:=s8.seq hS7;have SN:=SW (ks:=nn) λm hm=>pmn.mem_iff.mpr hm;have wb:Wf nn (bb ps) [fQ n a0 a1]:=⟨λk hk=>by rw[bu.mp hk];exact⟨pmn.mem_iff.mpr nm,by show(0:Int)<=0;omega,by show(0:Int)<=_;omega,rfl,rfl⟩,λk hk=>by cases hk⟩;have nds:∀ l∈(bb ps n).PJ,0<=aP l (eY a0 a1):=λl hl=>by unfold cQ at met;rw[List.findIdx?_eq_none_iff]at met;have:=N9 (met l hl);omega
 have S0:=uq (n0:=n) (a:=[a0,a1]) SN (st:=[]) (f:=fQ n a0 a1) ⟨nm,DK SN nm nds,rfl,rfl,by show(0:Int)<=0;omega,by show(0:Int)<=_;omega,⟨rfl,rfl⟩,trivial⟩;have w0:iS nn (bb ps) (dH (bb ps) ⟨[],rest,0,none⟩ (fQ n a0 a1) []):=mH wb;have l0:(dH (bb ps) ⟨[],rest,0,none⟩ (fQ n a0 a1) []).st.length<=20:=Od uh (by simp);have e0:fZ (bb ps) n [a0,a1] (dH (bb ps) ⟨[],rest,0,none⟩ (fQ n a0 a1) []).en:=S0.1;have t0:(dH (bb ps) ⟨[],rest,0,none⟩ (fQ n a0 a1) []).en=none->jo (λm=>m∈Pz) (bb ps) n [a0,a1] (dH (bb ps) ⟨[],rest,0,none⟩ (fQ n a0 a1) []).st:=S0.2;clear S0 wb nds;generalize dH (bb ps) ⟨[],rest,0,none⟩ (fQ n a0 a1) []=s0 at*;have hc7:c.at H7 (.ref pa):=hw.nod s27.nod;nofun;with_reducible refine jD (λσ H'=>∃ x9,σ=[some (.ref a),some (.int many),some (.ref pl),some (.ref ha),some (.int n),some (.ref pa),some (.ref gt),some (.ref rl),some (.ref r),x9]) (λNX tail=>?_) ?_
 ·nofun;refine g_ hS8 (by decide) ?_;nofun;refine g_ hS8 (by decide) ?_;nofun;generalize cell ns 5%40=f0;generalize 40+cell ns 5/40%81=f1;refine⟨(by right),λfl fl0=>?_⟩;have s9:=aB fl0 (.lst [V.int f0,.int f1]);have iz:(upd H8 fl (.lst [V.int f0,.int f1])) fl=some (.lst [V.int f0,.int f1]):=aw;have RX9:=RX.same s9;have nfo:fl∉aL r ia sa PN:=λz=>by obtain⟨o,e,_⟩:=RX.has _ z;rw[fl0]at e;cases e
  have s79:=s8.trans s9;generalize upd H8 fl (.lst [V.int f0,.int f1])=H9 at*;nofun;nomatch fl,rfl,⟨_,ar.of iz⟩;refine pj (xs:=[V.int f0,.int f1]) (λi σ H'=>E3 λx9 fas' s=>A7 (σ=[some (.ref a),some (.int many),some (.ref pl),some (.ref ha),some (.int n),some (.ref pa),some (.ref gt),some (.ref rl),some (.ref r),x9]) (a_ (aL r ia sa PN) H9 (aL r ia sa fas') H') (aD (C 6) (C 5) (C 7) H' r ka ia sa nn (bb ps) fas' s P2) (iS nn (bb ps) s) (s.st.length<=20) (fZ (bb ps) n [a0,a1] s.en) ((s.en=none->jo (λm=>m∈Pz) (bb ps) n [a0,a1] s.st)))
   ⟨none,PN,s0,rfl,a_.refl,RX9,w0,l0,e0,t0⟩ (λi σ H' _ ⟨_,_,_,_,m,_,_,_,_,_⟩=>ar.of (m.1 _ _ nfo iz)) ?_ (λσ H' ⟨x9,_,_,e,_,_,_,_,_,_⟩=>tail _ _ ⟨x9,e⟩)
  rintro i v σ H10 hv ⟨x9,fas1,s1,rfl,m1,R1,w1,l1,e1,t1⟩;obtain⟨fu,rfl⟩:∃ fu:Int,v=.int fu:=by
   match i with
   |0=>exact⟨_,(Oj hv).symm⟩
   |1=>exact⟨_,(Oj hv).symm⟩
   |k+2=>simp at hv
  obtain⟨dr,evr,hr',_⟩:=R1.ins;nofun;exists r,dr,_,rfl,hr',dG;refine⟨r,ka,ia,sa,nn,bb ps,fas1,s1,P2,fu,rfl,R1,w1,l1,λtold H11 fas2 m2 R2' tl w2 l2=>?_⟩;obtain⟨e2,t2⟩:=ug SN fu.toNat e1 t1;generalize eF (bb ps) nn fu.toNat s1=s2 at*;have m12:=m1.trans m2;have s711:ae H7 H11:=wG s79 ow m12.1;obtain⟨Tt,rfl,hTt⟩:=tl;nofun;refine⟨Tt,pa,gt,_,c,a0,a1,rfl,hTt,hc7.nod s711.nod,rt,s711 _ _ hg7,?_,λH12 s12=>?_⟩
  ·rcases e2 with z|z|z|z|⟨r0,r1,z,hl⟩
   ·rw[z];exact .inl rfl
   ·rw[z];exact .inr (.inl rfl)
   ·rw[z];exact .inr (.inr (.inl rfl))
   ·rw[z];exact .inr (.inr (.inr (.inl rfl)))
   ·rw[z];exact .inr (.inr (.inr (.inr ⟨r0,r1,rfl,by rw[<-ec];exact hl⟩)))
  ·nofun;exact⟨_,fas2,s2,rfl,m12.trans (a_.same s12),R2'.same s12,w2,l2,e2,t2⟩
 rintro σ H10 ⟨x9,rfl⟩;nofun;exact q _
end
abbrev FQ (K:Fg)(f:Addr)(x q:Str)(s:Stmt):Prop:=∃ oc od sl kV dc pm an cd ct,K.lookup f=some ⟨oc,od,.func (fnOf x q (jL s) (gI s) (aK s) .none kV dc pm an cd ct),sl⟩/\codeIn K cd q=true/\keepIn K (.ref f)=true
theorem aY{f:Addr}{x q:Str}{s:Stmt}(h:FQ K f x q s):∃ fd,aS K x q s f fd:=by obtain⟨_,_,_,_,_,_,_,_,_,l,c,k⟩:=h;exact⟨_,BL l c k⟩
abbrev NI (K:Fg)(x:Str)(f:Addr):Prop:=nsIn K mainGlobals x=some (some (.ref f))
abbrev FI (K:Fg)(C:Addr)(x:Str)(f:Addr):Prop:=findIn K (.ref C) x=some (some (.ref f))
abbrev KI (K:Fg)(f:Addr):Prop:=keepIn K (.ref f)=true
abbrev IF (K:Fg)(f:Addr):Prop:=isFn K (.ref f)=true
theorem m6{l:PySem.W.OpenLaw}{h:Heap}{fa:Addr}(X:K.In h)(G:h.Ns mainGlobals mg)(hfa:mg "law"=some (.ref fa))(hA:((fj K).all id,gM K)=(true,gL)):
  ∃ fd:FuncData,(∀(s:Shared) (v:Value),BindsTo s fd ⟨[v],[]⟩ [("script",v)])/\∀ b8:Heap,K.In b8->b8.Ns mainGlobals mg->ck l.prog w K mg b8 bL 11 fa fd ["script"] (uR K):=by obtain⟨_,_,_,xa_HAND_SPOTS⟩:=L2.tH (bA hA 230 rfl);obtain⟨_,_,_,xa_LEFT_SPOTS⟩:=L2.tH (bA hA 232 rfl);obtain⟨_,_,_,xa_LEFT_AS_HANDS⟩:=L2.tH (bA hA 234 rfl);obtain⟨_,_,_,xa_WHOLES⟩:=L2.tH (bA hA 246 rfl);obtain⟨_,_,_,_,_,_,_,_,_,_,_,_,_,_,_,o0⟩:=L2.oZ (bA hA 247 rfl);obtain⟨_,_,_,_,_,_,_,_,_,_,_,_,_,_,_,o1⟩:=L2.oZ (bA hA 249 rfl);obtain⟨_,_,_,_,_,_,_,_,_,_,_,_,_,_,_,o2⟩:=L2.oZ (bA hA 251 rfl);obtain⟨_,_,_,_,_,_,_,_,_,_,_,_,_,_,_,o3⟩:=L2.oZ (bA hA 253 rfl);obtain⟨_,_,_,_,_,_,_,_,_,_,_,_,_,_,_,o4⟩:=L2.oZ (bA hA 255 rfl);have e:=hfa.symm.trans (Pg X G (eA hA 210 rfl));cases e;have B:Bl K mg:=⟨Pn X G (eA hA 212 rfl),Pn X G (eA hA 213 rfl),Pn X G (eA hA 214 rfl),Pn X G (eA hA 215 rfl),Pn X G (eA hA 216 rfl),Pn X G (eA hA 217 rfl),Pn X G (eA hA 218 rfl),Pn X G (eA hA 219 rfl),Pn X G (eA hA 220 rfl),Pn X G (eA hA 221 rfl),Pn X G (eA hA 222 rfl),Pn X G (eA hA 223 rfl),Pn X G (eA hA 224 rfl),Pn X G (eA hA 225 rfl),⟨_,Pg X G (eA hA 226 rfl)⟩,⟨_,Pg X G (eA hA 227 rfl)⟩,⟨_,Pg X G (eA hA 228 rfl)⟩,⟨_,Pg X G (eA hA 235 rfl)⟩,⟨_,Pg X G (eA hA 236 rfl)⟩,⟨_,Pg X G (eA hA 237 rfl)⟩,⟨_,Pg X G (eA hA 238 rfl)⟩,⟨_,Pg X G (eA hA 239 rfl)⟩,⟨_,Pg X G (eA hA 240 rfl)⟩,⟨_,Pg X G (eA hA 241 rfl)⟩,⟨_,Pg X G (eA hA 242 rfl)⟩,⟨_,Pg X G (eA hA 243 rfl)⟩,⟨_,Pg X G (eA hA 244 rfl)⟩,⟨_,Pg X G (eA hA 229 rfl),λ_=>.inr ⟨_,_,_,xa_HAND_SPOTS,rfl,rfl,bF (by simp),.cons ⟨_,rfl⟩ (.cons ⟨_,rfl⟩ (.cons ⟨_,rfl⟩ (.cons ⟨_,rfl⟩ (.nil))))⟩⟩,⟨_,Pg X G (eA hA 231 rfl),λ_=>.inr ⟨_,_,_,xa_LEFT_SPOTS,rfl,rfl,bF (by simp),.cons ⟨_,rfl⟩ (.cons ⟨_,rfl⟩ (.nil))⟩⟩,⟨_,Pg X G (eA hA 233 rfl),λ_=>.inr ⟨_,_,_,xa_LEFT_AS_HANDS,rfl,rfl,bF (by simp),.cons ⟨_,rfl⟩ (.cons ⟨_,rfl⟩ (.cons ⟨_,rfl⟩ (.cons ⟨_,rfl⟩ (.cons ⟨_,rfl⟩ (.cons ⟨_,rfl⟩ (.cons ⟨_,rfl⟩ (.cons ⟨_,rfl⟩ (.nil))))))))⟩⟩,⟨_,Pg X G (eA hA 245 rfl),λ_=>.inr ⟨_,_,_,xa_WHOLES,rfl,rfl,bF (by simp),.cons ⟨_,rfl⟩ (.cons ⟨_,rfl⟩ (.cons ⟨_,rfl⟩ (.cons ⟨_,rfl⟩ (.nil))))⟩⟩⟩;have Z:Zt K mg (λi=>[31,44,56,68,80,137,270,306,618].getD i 0):=⟨⟨⟨_,_,_,_,_,_,_,_,_,_,_,_,_,_,_,o0⟩,(bA hA 248 rfl)⟩,Pg X G (eA hA 0 rfl),⟨⟨_,_,_,_,_,_,_,_,_,_,_,_,_,_,_,o1⟩,(bA hA 250 rfl)⟩,Pg X G (eA hA 1 rfl),⟨⟨_,_,_,_,_,_,_,_,_,_,_,_,_,_,_,o2⟩,(bA hA 252 rfl)⟩,Pg X G (eA hA 2 rfl),⟨⟨_,_,_,_,_,_,_,_,_,_,_,_,_,_,_,o3⟩,(bA hA 254 rfl)⟩,Pg X G (eA hA 3 rfl),⟨⟨_,_,_,_,_,_,_,_,_,_,_,_,_,_,_,o4⟩,(bA hA 256 rfl)⟩,Pg X G (eA hA 4 rfl),⟨(bA hA 257 rfl),(bA hA 258 rfl),(bA hA 259 rfl),(eA hA 260 rfl)⟩,Pg X G (eA hA 5 rfl),(eA hA 263 rfl),(eA hA 264 rfl),(eA hA 265 rfl),(eA hA 266 rfl),⟨(bA hA 267 rfl),(bA hA 268 rfl),(bA hA 269 rfl),(eA hA 270 rfl)⟩,Pg X G (eA hA 6 rfl),(eA hA 273 rfl),(eA hA 274 rfl),(eA hA 275 rfl),(eA hA 276 rfl),(eA hA 277 rfl),⟨(bA hA 278 rfl),(bA hA 279 rfl),(bA hA 280 rfl),(eA hA 281 rfl)⟩,Pg X G (eA hA 7 rfl),(eA hA 284 rfl),(eA hA 285 rfl),(eA hA 286 rfl),(eA hA 287 rfl),⟨(bA hA 288 rfl),(bA hA 289 rfl),(bA hA 290 rfl),(eA hA 291 rfl)⟩,Pg X G (eA hA 8 rfl),(eA hA 294 rfl),(eA hA 295 rfl)⟩;obtain⟨_,F1⟩:=aY (fA hA 0 10 315 _ _ _ rfl rfl rfl);obtain⟨_,F2⟩:=aY (fA hA 1 12 320 _ _ _ rfl rfl rfl);obtain⟨_,F3⟩:=aY (fA hA 2 15 303 _ _ _ rfl rfl rfl);obtain⟨_,F4⟩:=aY (fA hA 3 17 89 _ _ _ rfl rfl rfl);obtain⟨_,F5⟩:=aY (fA hA 4 19 96 _ _ _ rfl rfl rfl);obtain⟨_,F6⟩:=aY (fA hA 5 21 101 _ _ _ rfl rfl rfl);obtain⟨_,F7⟩:=aY (fA hA 6 23 106 _ _ _ rfl rfl rfl);obtain⟨_,F8⟩:=aY (fA hA 7 25 113 _ _ _ rfl rfl rfl);obtain⟨_,F9⟩:=aY (fA hA 8 28 127 _ _ _ rfl rfl rfl);obtain⟨_,F10⟩:=aY (fA hA 9 31 134 _ _ _ rfl rfl rfl);obtain⟨_,F11⟩:=aY (fA hA 10 34 542 _ _ _ rfl rfl rfl);obtain⟨_,F12⟩:=aY (fA hA 11 36 327 _ _ _ rfl rfl rfl);obtain⟨_,F13⟩:=aY (fA hA 12 39 549 _ _ _ rfl rfl rfl);obtain⟨_,F14⟩:=aY (fA hA 13 42 260 _ _ _ rfl rfl rfl);obtain⟨_,F15⟩:=aY (fA hA 14 45 232 _ _ _ rfl rfl rfl);obtain⟨_,F16⟩:=aY (fA hA 15 47 281 _ _ _ rfl rfl rfl);obtain⟨_,F17⟩:=aY (fA hA 16 50 267 _ _ _ rfl rfl rfl);obtain⟨_,F18⟩:=aY (fA hA 17 53 253 _ _ _ rfl rfl rfl);obtain⟨_,F19⟩:=aY (fA hA 18 56 246 _ _ _ rfl rfl rfl);obtain⟨_,F20⟩:=aY (fA hA 19 59 239 _ _ _ rfl rfl rfl);obtain⟨_,F21⟩:=aY (fA hA 20 62 225 _ _ _ rfl rfl rfl);obtain⟨_,F22⟩:=aY (fA hA 21 65 218 _ _ _ rfl rfl rfl);obtain⟨_,F23⟩:=aY (fA hA 22 67 288 _ _ _ rfl rfl rfl);obtain⟨_,F24⟩:=aY (fA hA 23 70 155 _ _ _ rfl rfl rfl);obtain⟨_,F25⟩:=aY (fA hA 24 73 190 _ _ _ rfl rfl rfl);obtain⟨_,F26⟩:=aY (fA hA 25 76 197 _ _ _ rfl rfl rfl);obtain⟨_,F27⟩:=aY (fA hA 26 79 204 _ _ _ rfl rfl rfl);obtain⟨_,F28⟩:=aY (fA hA 27 82 211 _ _ _ rfl rfl rfl);obtain⟨_,F29⟩:=aY (fA hA 28 85 183 _ _ _ rfl rfl rfl);obtain⟨_,F30⟩:=aY (fA hA 29 88 162 _ _ _ rfl rfl rfl);obtain⟨_,F31⟩:=aY (fA hA 30 90 332 _ _ _ rfl rfl rfl);obtain⟨_,F32⟩:=aY (fA hA 31 92 413 _ _ _ rfl rfl rfl);obtain⟨_,F33⟩:=aY (fA hA 32 94 406 _ _ _ rfl rfl rfl);obtain⟨_,F34⟩:=aY (fA hA 33 96 366 _ _ _ rfl rfl rfl);obtain⟨_,F35⟩:=aY (fA hA 34 98 361 _ _ _ rfl rfl rfl);obtain⟨_,F36⟩:=aY (fA hA 35 100 346 _ _ _ rfl rfl rfl);obtain⟨_,F37⟩:=aY (fA hA 36 102 399 _ _ _ rfl rfl rfl);obtain⟨_,F38⟩:=aY (fA hA 37 104 392 _ _ _ rfl rfl rfl);obtain⟨_,F39⟩:=aY (fA hA 38 106 387 _ _ _ rfl rfl rfl);obtain⟨_,F40⟩:=aY (fA hA 39 108 380 _ _ _ rfl rfl rfl);obtain⟨_,F41⟩:=aY (fA hA 40 110 373 _ _ _ rfl rfl rfl);obtain⟨_,F42⟩:=aY (fA hA 41 112 351 _ _ _ rfl rfl rfl);obtain⟨_,F43⟩:=aY (fA hA 42 114 356 _ _ _ rfl rfl rfl);obtain⟨_,F44⟩:=aY (fA hA 43 116 339 _ _ _ rfl rfl rfl);obtain⟨_,F45⟩:=aY (fA hA 44 118 418 _ _ _ rfl rfl rfl);obtain⟨_,F46⟩:=aY (fA hA 45 120 483 _ _ _ rfl rfl rfl);obtain⟨_,F47⟩:=aY (fA hA 46 122 473 _ _ _ rfl rfl rfl);obtain⟨_,F48⟩:=aY (fA hA 47 124 478 _ _ _ rfl rfl rfl);obtain⟨_,F49⟩:=aY (fA hA 48 126 490 _ _ _ rfl rfl rfl);obtain⟨_,F50⟩:=aY (fA hA 49 128 433 _ _ _ rfl rfl rfl);obtain⟨_,F51⟩:=aY (fA hA 50 130 468 _ _ _ rfl rfl rfl);obtain⟨_,F52⟩:=aY (fA hA 51 132 447 _ _ _ rfl rfl rfl);obtain⟨_,F53⟩:=aY (fA hA 52 134 454 _ _ _ rfl rfl rfl);obtain⟨_,F54⟩:=aY (fA hA 53 136 461 _ _ _ rfl rfl rfl);obtain⟨_,F55⟩:=aY (fA hA 54 138 440 _ _ _ rfl rfl rfl);obtain⟨_,F56⟩:=aY (fA hA 55 140 426 _ _ _ rfl rfl rfl);obtain⟨_,F57⟩:=aY (fA hA 56 142 495 _ _ _ rfl rfl rfl);obtain⟨_,F58⟩:=aY (fA hA 57 144 507 _ _ _ rfl rfl rfl);obtain⟨_,F59⟩:=aY (fA hA 58 146 502 _ _ _ rfl rfl rfl);obtain⟨_,F60⟩:=aY (fA hA 59 149 521 _ _ _ rfl rfl rfl);obtain⟨_,F61⟩:=aY (fA hA 60 152 608 _ _ _ rfl rfl rfl);obtain⟨_,F62⟩:=aY (fA hA 61 155 601 _ _ _ rfl rfl rfl);obtain⟨_,F63⟩:=aY (fA hA 62 158 615 _ _ _ rfl rfl rfl);obtain⟨_,F64⟩:=aY (fA hA 63 160 629 _ _ _ rfl rfl rfl);obtain⟨_,F65⟩:=aY (fA hA 64 163 528 _ _ _ rfl rfl rfl);obtain⟨_,F66⟩:=aY (fA hA 65 166 587 _ _ _ rfl rfl rfl);obtain⟨_,F67⟩:=aY (fA hA 66 169 594 _ _ _ rfl rfl rfl);obtain⟨_,F68⟩:=aY (fA hA 67 172 561 _ _ _ rfl rfl rfl);obtain⟨_,F69⟩:=aY (fA hA 68 175 568 _ _ _ rfl rfl rfl);obtain⟨_,F70⟩:=aY (fA hA 69 178 575 _ _ _ rfl rfl rfl);obtain⟨_,F71⟩:=aY (fA hA 70 181 580 _ _ _ rfl rfl rfl);obtain⟨_,F72⟩:=aY (fA hA 71 183 643 _ _ _ rfl rfl rfl);obtain⟨_,F73⟩:=aY (fA hA 72 185 636 _ _ _ rfl rfl rfl);obtain⟨_,F74⟩:=aY (fA hA 73 187 650 _ _ _ rfl rfl rfl);obtain⟨_,F75⟩:=aY (fA hA 74 189 674 _ _ _ rfl rfl rfl);obtain⟨_,F76⟩:=aY (fA hA 75 191 681 _ _ _ rfl rfl rfl);obtain⟨_,F77⟩:=aY (fA hA 76 193 695 _ _ _ rfl rfl rfl);obtain⟨_,F78⟩:=aY (fA hA 77 195 688 _ _ _ rfl rfl rfl);obtain⟨_,F79⟩:=aY (fA hA 78 197 655 _ _ _ rfl rfl rfl);obtain⟨_,F80⟩:=aY (fA hA 79 199 700 _ _ _ rfl rfl rfl);obtain⟨_,F81⟩:=aY (fA hA 80 201 705 _ _ _ rfl rfl rfl);obtain⟨_,F82⟩:=aY (fA hA 81 203 712 _ _ _ rfl rfl rfl);obtain⟨_,F83⟩:=aY (fA hA 82 205 669 _ _ _ rfl rfl rfl);obtain⟨_,F84⟩:=aY (fA hA 83 207 662 _ _ _ rfl rfl rfl);obtain⟨_,F85⟩:=aY (fA hA 84 209 717 _ _ _ rfl rfl rfl);obtain⟨_,_,_,kV,dc,pm,an,cd,ct,Ll86,c86,k86⟩:=(fA hA 85 211 722 _ _ _ rfl rfl rfl);have F86:=BL (st:=lZ) Ll86 c86 k86;refine⟨fnOf "law" "law" (jL lZ) (gI lZ) (aK lZ) .none kV dc pm an cd ct,λs v=>.of_eq rfl,λb8 _ _=>?_⟩;have G1:=Mt (P:=l.prog) (w:=w) (b8:=b8) B Z F1 (Pg X G (eA hA 9 rfl));have G2:=MJ (P:=l.prog) (w:=w) (b8:=b8) B Z F2 (Pg X G (eA hA 11 rfl));have G3:=Ih B Z G1 G2 F3 ⟨(bA hA 282 rfl),(eA hA 13 rfl),(bA hA 14 rfl),(bA hA 283 rfl)⟩;have G4:=Ig (P:=l.prog) (w:=w) (b8:=b8) B Z F4 (Pg X G (eA hA 16 rfl));have G5:=Ie B Z G4 F5 (Pg X G (eA hA 18 rfl));have G6:=Hu (P:=l.prog) (w:=w) (b8:=b8) B Z F6 (Pg X G (eA hA 20 rfl));have G7:=JQ (P:=l.prog) (w:=w) (b8:=b8) B Z F7 (Pg X G (eA hA 22 rfl));have G8:=JP B Z G7 F8 (Pg X G (eA hA 24 rfl));have G9:=Ic (P:=l.prog) (w:=w) (b8:=b8) B Z F9 ⟨(bA hA 261 rfl),(eA hA 26 rfl),(bA hA 27 rfl),(bA hA 262 rfl)⟩;have G10:=M1 (P:=l.prog) (w:=w) (b8:=b8) B Z F10 ⟨(eA hA 29 rfl),(bA hA 30 rfl),F10.kp⟩;have G11:=M0 (P:=l.prog) (w:=w) (b8:=b8) B Z F11 ⟨(eA hA 32 rfl),(bA hA 33 rfl),F11.kp⟩;have G12:=Ms B Z G3 F12 (Pg X G (eA hA 35 rfl));have G13:=MI B Z G12 G11 F13 ⟨(eA hA 37 rfl),(bA hA 38 rfl),F13.kp⟩;have G14:=Mr (P:=l.prog) (w:=w) (b8:=b8) B Z F14 ⟨(eA hA 40 rfl),(bA hA 41 rfl),F14.kp⟩;have G15:=Nk B Z G14 F15 ⟨(eA hA 43 rfl),(bA hA 44 rfl),F15.kp⟩;have G16:=MG B Z G5 F16 (Pg X G (eA hA 46 rfl));have G17:=LI B Z G16 F17 ⟨(eA hA 48 rfl),(bA hA 49 rfl),F17.kp⟩;have G18:=Lm B Z G14 F18 ⟨(eA hA 51 rfl),(bA hA 52 rfl),F18.kp⟩;have G19:=LH B Z G14 G17 G10 G18 F19 ⟨(eA hA 54 rfl),(bA hA 55 rfl),F19.kp⟩;have G20:=Nd B Z G14 G17 G10 F20 ⟨(eA hA 57 rfl),(bA hA 58 rfl),F20.kp⟩;have G21:=MF B Z G15 G19 G20 F21 ⟨(eA hA 60 rfl),(bA hA 61 rfl),F21.kp⟩;have G22:=LG B Z G21 G9 F22 ⟨(eA hA 63 rfl),(bA hA 64 rfl),F22.kp⟩;have G23:=MZ (P:=l.prog) (w:=w) (b8:=b8) B Z F23 (Pg X G (eA hA 66 rfl));have G24:=FU B Z G16 G22 G23 G13 F24 ⟨(bA hA 271 rfl),(eA hA 68 rfl),(bA hA 69 rfl),(bA hA 272 rfl)⟩;have G25:=K_ B Z G21 F25 ⟨(eA hA 71 rfl),(bA hA 72 rfl),F25.kp⟩;have G26:=Ll B Z G25 F26 ⟨(eA hA 74 rfl),(bA hA 75 rfl),F26.kp⟩;have G27:=Lj B Z G17 G10 G21 F27 ⟨(eA hA 77 rfl),(bA hA 78 rfl),F27.kp⟩;have G28:=Li B Z G17 G22 G23 F28 ⟨(eA hA 80 rfl),(bA hA 81 rfl),F28.kp⟩;have G29:=Lh B Z G4 G14 G5 G10 G21 G25 G26 G27 G28 F29 ⟨(eA hA 83 rfl),(bA hA 84 rfl),F29.kp⟩;have G30:=JO B Z G29 F30 ⟨(eA hA 86 rfl),(bA hA 87 rfl),F30.kp⟩;have G31:=LF (P:=l.prog) (w:=w) (b8:=b8) B Z F31 (Pg X G (eA hA 89 rfl));have G32:=Ko (P:=l.prog) (w:=w) (b8:=b8) B Z F32 (Pg X G (eA hA 91 rfl));have G33:=Mq B Z G32 F33 (Pg X G (eA hA 93 rfl));have G34:=Me B Z G33 F34 (Pg X G (eA hA 95 rfl));have G35:=ME B Z G34 F35 (Pg X G (eA hA 97 rfl));have G36:=Md B Z G35 F36 (Pg X G (eA hA 99 rfl));have G37:=Mp B Z G32 F37 (Pg X G (eA hA 101 rfl));have G38:=M_ B Z G37 F38 (Pg X G (eA hA 103 rfl));have G39:=Mo B Z G32 G38 F39 (Pg X G (eA hA 105 rfl));have G40:=MD B Z G33 F40 (Pg X G (eA hA 107 rfl));have G41:=Mn B Z G32 G34 G37 G39 G40 F41 (Pg X G (eA hA 109 rfl));have G42:=MC B Z G32 G41 F42 (Pg X G (eA hA 111 rfl));have G43:=MB B Z G35 F43 (Pg X G (eA hA 113 rfl));have G44:=H_ B Z G36 G42 G43 F44 (Pg X G (eA hA 115 rfl));have G45:=JM B Z G1 G32 G6 G8 F45 (Pg X G (eA hA 117 rfl));have G46:=Mm B Z G6 F46 (Pg X G (eA hA 119 rfl));have G47:=LD B Z G1 F47 (Pg X G (eA hA 121 rfl));have G48:=Ml B Z G8 F48 (Pg X G (eA hA 123 rfl));have G49:=Ly (P:=l.prog) (w:=w) (b8:=b8) B Z F49 (Pg X G (eA hA 125 rfl));have G50:=MS B Z G6 G46 G47 G48 G49 G45 F50 (Pg X G (eA hA 127 rfl));have G51:=MA B Z G6 G46 G47 G48 F51 (Pg X G (eA hA 129 rfl));have G52:=MW B Z G7 G6 G46 G47 G48 G49 F52 (Pg X G (eA hA 131 rfl));have G53:=MV B Z G7 G6 G46 G47 G48 G49 F53 (Pg X G (eA hA 133 rfl));have G54:=MU B Z G7 G47 G49 F54 (Pg X G (eA hA 135 rfl));have G55:=MT B Z G46 G47 G48 G45 G51 G52 G53 G54 F55 (Pg X G (eA hA 137 rfl));have G56:=J3 B Z G31 G50 G55 F56 (Pg X G (eA hA 139 rfl));have G57:=HY B Z G7 F57 (Pg X G (eA hA 141 rfl));have G58:=Ni (P:=l.prog) (w:=w) (b8:=b8) B Z F58 (Pg X G (eA hA 143 rfl));have G59:=J2 B Z G58 G57 F59 (Pg X G (eA hA 145 rfl));have G60:=Hq (P:=l.prog) (w:=w) (b8:=b8) B Z F60 ⟨(bA hA 292 rfl),(eA hA 147 rfl),(bA hA 148 rfl),(bA hA 293 rfl)⟩;have G61:=MR (P:=l.prog) (w:=w) (b8:=b8) B Z F61 ⟨(eA hA 150 rfl),(bA hA 151 rfl),F61.kp⟩;have G62:=Nc B Z G31 F62 ⟨(eA hA 153 rfl),(bA hA 154 rfl),F62.kp⟩;have G63:=Nj B Z G62 G61 F63 ⟨(eA hA 156 rfl),(bA hA 157 rfl),F63.kp⟩;have G64:=LC (P:=l.prog) (w:=w) (b8:=b8) B Z F64 (Pg X G (eA hA 159 rfl));have G65:=Lw B Z G12 G61 G44 G63 G64 F65 ⟨(eA hA 161 rfl),(bA hA 162 rfl),F65.kp⟩;have G66:=M9 (P:=l.prog) (w:=w) (b8:=b8) B Z F66 ⟨(eA hA 164 rfl),(bA hA 165 rfl),F66.kp⟩;have G67:=Nb B Z G66 G56 F67 ⟨(eA hA 167 rfl),(bA hA 168 rfl),F67.kp⟩;have G68:=LB B Z G59 G67 F68 ⟨(eA hA 170 rfl),(bA hA 171 rfl),F68.kp⟩;have G69:=LA (P:=l.prog) (w:=w) (b8:=b8) B Z F69 ⟨(eA hA 173 rfl),(bA hA 174 rfl),F69.kp⟩;have G70:=Mj B Z G62 F70 ⟨(eA hA 176 rfl),(bA hA 177 rfl),F70.kp⟩;have G71:=Mi B Z G69 G70 F71 ⟨(eA hA 179 rfl),(bA hA 180 rfl),F71.kp⟩;have G72:=HW (P:=l.prog) (w:=w) (b8:=b8) B Z F72 (Pg X G (eA hA 182 rfl));have G73:=Lz (P:=l.prog) (w:=w) (b8:=b8) B Z F73 (Pg X G (eA hA 184 rfl));have G74:=Lv B Z G72 F74 (Pg X G (eA hA 186 rfl));have G75:=J1 B Z G74 F75 (Pg X G (eA hA 188 rfl));have G76:=MQ B Z G72 G74 G75 F76 (Pg X G (eA hA 190 rfl));have G77:=MY B Z G75 G76 F77 (Pg X G (eA hA 192 rfl));have G78:=MP B Z G76 F78 (Pg X G (eA hA 194 rfl));have G79:=J0 (P:=l.prog) (w:=w) (b8:=b8) B Z F79 (Pg X G (eA hA 196 rfl));have G80:=MX B Z G77 G78 G79 F80 (Pg X G (eA hA 198 rfl));have G81:=MO B Z G72 G73 G80 F81 (Pg X G (eA hA 200 rfl));have G82:=Kl B Z G24 F82 (Pg X G (eA hA 202 rfl));have G83:=Kk (P:=l.prog) (w:=w) (b8:=b8) B Z F83 (Pg X G (eA hA 204 rfl));have G84:=Kj (P:=l.prog) (w:=w) (b8:=b8) B Z F84 (Pg X G (eA hA 206 rfl));have G85:=JZ B Z G83 G84 F85 (Pg X G (eA hA 208 rfl));exact FP B Z G3 G72 G73 G24 G81 G60 G65 G82 G68 G85 G30 G71 F86
end My
open PySem PySem.W PyProof.Rows
open My L2
set_option maxRecDepth 1000000 in
set_option maxHeartbeats 0 in
theorem PySem.Challenge.cw_swornhall_k18_whole_sworn_runs_holds : PySem.Challenge.rw_swornhall_k18_whole_sworn_runs.Holds := by
  refine PySem.Challenge.hd_swornhall_k18_whole_sworn_runs fun d kwd hdef => ?_
  obtain ⟨rfl, rfl⟩ := Prod.mk.inj (Oj ((show defOf My.Qv PySem.Challenge.rw_swornhall_k18_whole_sworn_runs.row.name = some (_, _) from rfl).symm.trans hdef))
  refine L2.i8 (l := PySem.Challenge.rw_swornhall_k18_whole_sworn_runs) (n := 63) (k := 11) (x := "script") (CX := L2.bL) (sp := My.uR) (S := fun K => ((My.fj K).all id, My.gM K) = (true, My.gL)) rfl (by decide) rfl ⟨rfl, by decide, by decide, rfl⟩ (fun w h Y => Y) ?F (fun _ _ a ns hl _ hS => ⟨a, ns, rfl, hS, hl, fun _ => rfl⟩) (fun _ _ _ _ z => z)
  intro w K mg fa h hA KX G hmg
  exact My.m6 KX G hmg hA
