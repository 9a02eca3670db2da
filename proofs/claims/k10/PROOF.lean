import PyProof.Rows.All
import Wide.All
import Wide.FinOn
import OpenK.KLine
import OpenK.KMore
import OpenK.KDescr
import OpenK.KOwn
import OpenK.KCls
import KE.KIsAll
import KE.KRevIter
import KE.KDictList
import KE.KIsNot
import KE.KItem
import KE.KDictSum
import KE.KDictOf
import KE.KxBytes
import KE.KFromBytes
import Open.FastRun
import PySem.Challenge.RW_swornhall_k10_laid_and_torn
set_option Elab.async false
set_option linter.all false
set_option compiler.extract_closed false
set_option maxHeartbeats 0
set_option maxRecDepth 100000
abbrev Fg:=PySem.W.Frag
theorem zgm {α : Type _}{β : Type _}{f : α -> β}{l : List α}{i : Nat} : (l.map f)[i]? = l[i]?.map f := List.getElem?_map
theorem zlm {α : Type _}{β : Type _}{as : List α}(f : α -> β) : (as.map f).length = as.length := List.length_map f
theorem zme {α : Type _}{β : Type _}{f : α -> β}{o : Option α}{b : β} : o.map f = some b ↔ ∃ a, o = some a /\ f a = b := Option.map_eq_some_iff
theorem zmg {α : Type _}{l : List α}{i : Nat}{a : α}(e : l[i]? = some a) : a ∈ l := List.mem_of_getElem? e
theorem zms {α : Type _}{a b : α} : a ∈ [b] ↔ a = b := List.mem_singleton
theorem zst {α : Type _}{l : List α} : l.toArray.size = l.length := List.size_toArray
theorem zma {α : Type _}{a : α}{s t : List α} : a ∈ s ++ t ↔ a ∈ s \/ a ∈ t := List.mem_append
theorem zge {α : Type _}{l : List α}{i : Nat}{a : α} : l[i]? = some a ↔ ∃ h : i < l.length, l[i] = a := List.getElem?_eq_some_iff
theorem zmc {α : Type _}{β : Type _}{f : α -> β}{a : α}{l : List α} : (a :: l).map f = f a :: l.map f := List.map_cons
theorem zmm {α : Type _}{β : Type _}{f : α -> β}{l : List α}{b : β} : b ∈ l.map f ↔ ∃ a, a ∈ l /\ f a = b := List.mem_map
namespace L2
open PySem PySem.Spec PySem.Calls PyProof.Rows PySem.W
abbrev za8:List Value:=[.type "ValueError",.type "Exception",.type "BaseException",.type "object"]
def zb1 (s:Stmt)(j:Nat):Stmt:=match s with
 | .ClassDef _ _ _ body _ _ _ _ _ _ _=>body.getD j (.Pass ⟨0,0,0,0⟩)
 | _=>.Pass ⟨0,0,0,0⟩
def zcU (s:Stmt):Arguments:=match s with
 | .FunctionDef _ a _ _ _ _ _ _ _ _=>a
 | _=>{posonlyargs:=[],args:=[],vararg:=none,kwonlyargs:=[],kw_defaults:=[],kwarg:=none,defaults:=[]}
def zbO (s:Stmt):List Stmt:=match s with
 | .FunctionDef _ _ b _ _ _ _ _ _ _=>b
 | _=>[]
def zaf (s:Stmt):Scope:=match s with
 | .FunctionDef _ _ _ _ _ _ sc _ _ _=>sc
 | _=>{kind:=.function,names:=[],isGenerator:=false,isCoroutine:=false}
def Kof (as:List Addr)(h:Heap):Fg:=as.filterMap λa=>(h.get? a).map λo=>(a,o)
theorem znL (h:Heap):∀ as:List Addr,(Kof as h).In h
 | []=>λa o e=>by cases e
 | b::as=>λa o e=>by
  have ih:=znL h as
  unfold Kof at e
  rw[List.filterMap_cons] at e
  cases hb:h.get? b with
  | none=>rw[hb] at e;exact ih a o e
  | some ob=>
   rw[hb] at e
   simp only[Option.map_some] at e
   rw[List.lookup_cons] at e
   by_cases z:(a == b)=true
   ·rw[z] at e
    cases e
    rw[eq_of_beq z];exact hb
   ·rw[Bool.not_eq_true] at z
    rw[z] at e
    exact ih a o e
abbrev Sig:=Str × Str × Arguments × FuncBody × Scope × Addr × List (Str × Addr) × Value × Addr
def zod (name qual:Str)(params:Arguments)(body:List Stmt)(scope:Scope):Sig:=(name,qual,params,.stmts body,scope,mainGlobals,[],.none,builtinsNs)
def zaN (K:Fg)(a:Addr):Option Sig:=match K.lookup a with
 | some ⟨_,_,.func f,_⟩=>some (f.name,f.qualname,f.params,f.body,f.scope,f.globals,f.closure,f.defaults,f.builtins)
 | _=>none
def zao (K:Fg)(a:Addr)(q:Str):Bool:=match K.lookup a with
 | some ⟨_,_,.func f,_⟩=>codeIn K f.code q && keepIn K (.ref a)
 | _=>false
def zfw (K:Fg)(C:Addr)(bm:List Value)(newId:String):Bool:=match K.lookup C with
 | some ⟨cl,_,.cls c,sl⟩=>cl == .type "type" && c.mro == .ref C::bm && !c.hasDel && (match sl.toList with
  | [_,_,_,_,some v,_]=>v == .builtin newId
  | _=>false)
 | _=>false
def zg6 (K:Fg)(a:Addr)(vs:List Value):Bool:=match K.lookup a with
 | some ⟨cl,_,.seq xs _,_⟩=>cl == .type "tuple" && xs.toList == vs
 | _=>false
def eHook {β:Type}(as:List Addr)(see:Fg->β)(due:β):Hook:=
 ⟨β,λs=>see (Kof as s.heap),λ_=>due,λ_ h=>∃ K:Fg,K.In h/\see K=due,λ_ s e=>⟨_,znL _ _,e⟩,λ_ _ _ ⟨K,x,e⟩ k=>⟨K,x.keeps k,e⟩⟩
end L2
namespace PySem.W.Fast
def tw15997389501279310071:=0
def tw14539166877239821043:=0
def tw16832390683391660976:=0
def tw6525775661698842625:=0
def tw9134851571461169129:=0
def tw3692195488905783318:=0
def tw6755186766311584466:=0
def tw4711247152582627077:=0
def tw12595282743429359240:=0
def tw10421585725378708130:=0
def tw8774141656795475050:=0
def tw9033182592937814138:=0
def tw16243355042237988621:=0
def tw1374809917478469207:=0
def tw8107519466417632714:=0
def tw17915256198320511715:=0
def tw1640418992578776351:=0
def tw267008348240941411:=0
def tw1082518144413928282:=0
def tw7817204280128171194:=0
def tw468082132606470486:=0
def tw146088719013630007:=0
def tw2917467582132754831:=0
def tw1031358704201277654:=0
def tw8207596493205766458:=0
def tw18001903783664663869:=0
def tw12947189612364120706:=0
def tw11097411786647246842:=0
def tw15800594627008837707:=0
def tw12392128983733780194:=0
def tw17500708287321622308:=0
def tw10995120860752425348:=0
def tw13461527008102846821:=0
def tw2452848767818108847:=0
def tw18362708464635805903:=0
def tw6714810574301367764:=0
def tw5307564329191091122:=0
def tw8033141230128589854:=0
def tw11214626334051144584:=0
def tw5013996753354822778:=0
def tw12635039284953670014:=0
def tw13814680910468991996:=0
def tw9250873950639827722:=0
def tw5143473938149645502:=0
def tw9156585879790319534:=0
def tw1532581586043681600:=0
def tw8971372874262497650:=0
def tw4841501671399384677:=0
def tw5213139434447762404:=0
def tw9188782831575234936:=0
def tw7617451792622791850:=0
def tw8969659517916861946:=0
def tw10358507631344106320:=0
def tw9508539698654877353:=0
def tw10205055794300294064:=0
def tw3194799170313540348:=0
def tw9023044443173477436:=0
def tw7158311067963214874:=0
def tw4020600063484509770:=0
def tw6807291349272324217:=0
def tw14780325983363861384:=0
def tw16249624057099184369:=0
def tw13718321176061303382:=0
def tw10188953862485900483:=0
def tw4584103959671432951:=0
def tw15236707404228132683:=0
def tw10991255067655239235:=0
def tw13643264297699943662:=0
def tw5703332344182782094:=0
def tw16646118180340754257:=0
def tw12324358613938288206:=0
def tw3641049232936029835:=0
def tw18266824185175505207:=0
def tw4917261500548770526:=0
def tw2549152049130379571:=0
def tw12523030048262575629:=0
def tw2989411924076853093:=0
def tw4548580883881320497:=0
def tw10731100710280564442:=0
def tw9171341093353672651:=0
def tw5716776374530113907:=0
def tw8889156639071324505:=0
def tw8455442934779536477:=0
def tw1789791183858374260:=0
def tw8756016005008691697:=0
def tw1028217691326164217:=0
def tw15165781962603936207:=0
def tw14405225962228272836:=0
def tw3338190546008044681:=0
def tw7763777276128553263:=0
def tw2438951062524169206:=0
def tw12508191879221563580:=0
def tw1670507369058416137:=0
def tw12812866436631564241:=0
def tw13518252918358773596:=0
def tw9581661518839181118:=0
def tw15916188892398453685:=0
def tw6560394359222059437:=0
def tw12331599349322224294:=0
def tw14061594655874280962:=0
def tw3927133534797715085:=0
def tw12930146347982123936:=0
def tw2485868244328867329:=0
end PySem.W.Fast
namespace My
open PySem L2 PyProof.Rows
def top (i:Nat):Stmt:=PySem.Challenge.pw_swornhall_k10_laid_and_torn.main.body.getD i (.Pass ⟨0,0,0,0⟩)
abbrev zjU:Stmt:=top 4
abbrev zfL:Stmt:=top 5
abbrev zhv:Stmt:=top 6
abbrev zbk:Stmt:=zb1 (top 17) 0
abbrev zb7:Stmt:=top 18
abbrev zcj:Stmt:=top 19
abbrev zcV:Stmt:=top 20
abbrev zdg:Stmt:=top 21
abbrev zja:Stmt:=top 22
abbrev zdK:Stmt:=top 23
abbrev zck:Stmt:=top 24
abbrev zcl:Stmt:=top 25
abbrev zcm:Stmt:=top 26
abbrev zb8:Stmt:=top 27
abbrev zdL:Stmt:=top 28
abbrev zdh:Stmt:=top 29
abbrev zdM:Stmt:=top 30
abbrev zbw:Stmt:=top 31
abbrev zdN:Stmt:=top 32
abbrev zcW:Stmt:=top 33
abbrev zfW:Stmt:=top 34
abbrev zeJ:Stmt:=top 35
abbrev zhw:Stmt:=top 49
abbrev zcX:Stmt:=top 50
abbrev zdi:Stmt:=top 51
abbrev zdj:Stmt:=top 52
abbrev zdk:Stmt:=top 53
abbrev zdl:Stmt:=top 54
abbrev zdm:Stmt:=top 55
abbrev zdn:Stmt:=top 56
abbrev zcH:Stmt:=top 57
abbrev zcI:Stmt:=top 58
abbrev ze9:Stmt:=top 59
abbrev zeq:Stmt:=top 60
abbrev zhx:Stmt:=top 61
abbrev zbc:Stmt:=top 62
abbrev zcr:Stmt:=zb1 (top 64) 0
abbrev zfa:Stmt:=zb1 (top 64) 1
abbrev zer:Stmt:=zb1 (top 64) 2
abbrev zcs:Stmt:=zb1 (top 64) 3
abbrev zdo:Stmt:=zb1 (top 64) 4
abbrev zdO:Stmt:=zb1 (top 64) 5
abbrev zct:Stmt:=zb1 (top 64) 6
abbrev zb2:Stmt:=zb1 (top 64) 10
abbrev zcf:Stmt:=zb1 (top 64) 11
abbrev zcg:Stmt:=zb1 (top 64) 12
abbrev zcY:Stmt:=zb1 (top 64) 13
abbrev zbo:Stmt:=zb1 (top 64) 14
abbrev zes:Stmt:=top 65
abbrev zdp:Stmt:=top 66
abbrev zet:Stmt:=top 68
abbrev zjb:Stmt:=top 69
abbrev zfb:Stmt:=top 70
abbrev zdq:Stmt:=top 71
abbrev zeu:Stmt:=top 72
abbrev zcJ:Stmt:=top 73
abbrev zb9:Stmt:=top 74
abbrev zfc:Stmt:=top 75
abbrev zeK:Stmt:=top 76
abbrev zev:Stmt:=top 77
abbrev zea:Stmt:=top 78
abbrev zhy:Stmt:=top 79
abbrev zjc:Stmt:=top 80
section
open PySem PySem.Spec PySem.Calls PyProof.Rows PySem.W L2
def zo9 (p:Program)(ks:List Nat):Program:={p with main:={p.main with body:=ks.filterMap λi=>p.main.body[i]?}}
def Qv:Program:=zo9 PySem.Challenge.rw_swornhall_k10_laid_and_torn.row.toRowW.prog [0,2,3,4,5,6,8,9,10,11,12,13,14,15,16,17,18,19,20,21,22,23,24,25,26,27,28,29,30,31,32,33,34,35,37,38,39,40,41,42,44,45,46,47,48,49,50,51,52,53,54,55,56,57,58,59,60,61,62,64,65,66,68,69,70,71,72,73,74,75,76,77,78,79,80]
abbrev nI (K:Fg)(s:Str)(n:Addr):Bool:=PySem.W.nsIn K mainGlobals s == some (some (.ref n))
abbrev fI (K:Fg)(c:Addr)(s:Str)(n:Addr):Bool:=PySem.W.findIn K (.ref c) s == some (some (.ref n))
abbrev gS (n q:Str)(d:Stmt):Option L2.Sig:=some (L2.zod n q (zcU d) (zbO d) (zaf d))
def zBo1 (K:Fg):List Bool:=[nI K "Craft" 56,
 nI K "HallError" 178,
 nI K "BadSheet" 191,
 nI K "NoCraft" 203,
 nI K "Unmet" 215,
 nI K "NotShown" 227,
 nI K "Unfit" 239,
 nI K "Hall" 443,
 nI K "copied_lines" 65,
 L2.zao K 65 "copied_lines",
 nI K "copied_deed" 70,
 L2.zao K 70 "copied_deed",
 fI K 56 "__init__" 53,
 PySem.W.isFn K (.ref 53),
 L2.zao K 53 "Craft.__init__",
 nI K "bare" 26,
 L2.zao K 26 "bare",
 nI K "summed" 31,
 L2.zao K 31 "summed",
 nI K "turned" 38,
 L2.zao K 38 "turned",
 nI K "copied_craft" 77,
 L2.zao K 77 "copied_craft",
 nI K "called_by" 82,
 L2.zao K 82 "called_by",
 nI K "between" 163,
 L2.zao K 163 "between",
 nI K "small_enough" 156,
 L2.zao K 156 "small_enough",
 nI K "line_right" 116,
 L2.zao K 116 "line_right",
 nI K "lines_right" 111,
 L2.zao K 111 "lines_right",
 nI K "oath_right" 96,
 L2.zao K 96 "oath_right",
 nI K "hand_right" 149,
 L2.zao K 149 "hand_right",
 nI K "two_hands_right" 142,
 L2.zao K 142 "two_hands_right",
 nI K "call_right" 137,
 L2.zao K 137 "call_right",
 nI K "range_right" 130,
 L2.zao K 130 "range_right",
 nI K "deed_right" 123,
 L2.zao K 123 "deed_right",
 nI K "deeds_right" 101,
 L2.zao K 101 "deeds_right",
 nI K "notes_right" 106,
 L2.zao K 106 "notes_right",
 nI K "right" 89,
 L2.zao K 89 "right",
 nI K "due_at" 168,
 L2.zao K 168 "due_at",
 nI K "eight_with" 306,
 L2.zao K 306 "eight_with",
 nI K "each_from" 296,
 L2.zao K 296 "each_from",
 nI K "all_turned" 301,
 L2.zao K 301 "all_turned",
 nI K "constant" 313,
 L2.zao K 313 "constant",
 nI K "first_duties" 256,
 L2.zao K 256 "first_duties",
 nI K "call_duties" 291,
 L2.zao K 291 "call_duties",
 nI K "part_duties" 270,
 L2.zao K 270 "part_duties",
 nI K "draw_duties" 277,
 L2.zao K 277 "draw_duties",
 nI K "turn_duties" 284,
 L2.zao K 284 "turn_duties",
 nI K "deed_duties" 263,
 L2.zao K 263 "deed_duties",
 nI K "duties" 249,
 L2.zao K 249 "duties",
 nI K "shows" 318,
 L2.zao K 318 "shows",
 nI K "noughts_and_ones" 330,
 L2.zao K 330 "noughts_and_ones",
 nI K "sought" 325,
 L2.zao K 325 "sought",
 fI K 443 "__init__" 344,
 PySem.W.isFn K (.ref 344),
 L2.zao K 344 "Hall.__init__",
 fI K 443 "release" 433,
 PySem.W.isFn K (.ref 433),
 L2.zao K 433 "Hall.release",
 fI K 443 "called_at" 426,
 PySem.W.isFn K (.ref 426),
 L2.zao K 426 "Hall.called_at",
 fI K 443 "release_callers" 440,
 PySem.W.isFn K (.ref 440),
 L2.zao K 440 "Hall.release_callers",
 nI K "same_oath" 454,
 L2.zao K 454 "same_oath",
 fI K 443 "lay" 351,
 PySem.W.isFn K (.ref 351),
 L2.zao K 351 "Hall.lay",
 fI K 443 "must_stand" 412,
 PySem.W.isFn K (.ref 412),
 L2.zao K 412 "Hall.must_stand",
 fI K 443 "tear" 358,
 PySem.W.isFn K (.ref 358),
 L2.zao K 358 "Hall.tear",
 fI K 443 "standing" 365,
 PySem.W.isFn K (.ref 365),
 L2.zao K 365 "Hall.standing",
 fI K 443 "crafts" 372,
 PySem.W.isFn K (.ref 372),
 L2.zao K 372 "Hall.crafts",
 nI K "all_shown" 459,
 L2.zao K 459 "all_shown",
 fI K 443 "duties_at" 419,
 PySem.W.isFn K (.ref 419),
 L2.zao K 419 "Hall.duties_at",
 fI K 443 "vouch" 379,
 PySem.W.isFn K (.ref 379),
 L2.zao K 379 "Hall.vouch",
 fI K 443 "seek" 384,
 PySem.W.isFn K (.ref 384),
 L2.zao K 384 "Hall.seek"]
def zBo2 (K:Fg):List Bool:=[nI K "_law_cell_at" 466,
 L2.zao K 466 "_law_cell_at",
 nI K "_law_mix" 473,
 L2.zao K 473 "_law_mix",
 nI K "_law_number" 480,
 L2.zao K 480 "_law_number",
 nI K "_law_line_by" 485,
 L2.zao K 485 "_law_line_by",
 nI K "_law_lines_by" 497,
 L2.zao K 497 "_law_lines_by",
 nI K "_law_deed_by" 492,
 L2.zao K 492 "_law_deed_by",
 nI K "_law_parts_by" 502,
 L2.zao K 502 "_law_parts_by",
 nI K "_law_spoilt" 509,
 L2.zao K 509 "_law_spoilt",
 nI K "_law_alone" 514,
 L2.zao K 514 "_law_alone",
 nI K "_law_refused" 521,
 L2.zao K 521 "_law_refused",
 nI K "_law_marred" 526,
 L2.zao K 526 "_law_marred",
 nI K "_law_same" 533,
 L2.zao K 533 "_law_same",
 nI K "law" 540,
 L2.zao K 540 "law",
 PySem.W.nsIn K mainGlobals "ValueError"== some none,
 PySem.W.nsIn K mainGlobals "all"== some none,
 PySem.W.nsIn K mainGlobals "any"== some none,
 PySem.W.nsIn K mainGlobals "dict"== some none,
 PySem.W.nsIn K mainGlobals "int"== some none,
 PySem.W.nsIn K mainGlobals "isinstance"== some none,
 PySem.W.nsIn K mainGlobals "len"== some none,
 PySem.W.nsIn K mainGlobals "list"== some none,
 PySem.W.nsIn K mainGlobals "max"== some none,
 PySem.W.nsIn K mainGlobals "min"== some none,
 PySem.W.nsIn K mainGlobals "range"== some none,
 PySem.W.nsIn K mainGlobals "sorted"== some none,
 PySem.W.nsIn K mainGlobals "tuple"== some none,
 PySem.W.nsIn K mainGlobals "zip"== some none,
 PySem.W.nsIn K mainGlobals "NUMBERS"== some (some (.int 9 196)),
 PySem.W.nsIn K mainGlobals "FACTORS"== some (some (.int 8 198)),
 nI K "HAND_SPOTS" 39,
 L2.zg6 K 39 [(.int 1 223),(.int 2 224),(.int 3 225),(.int 4 226)],
 nI K "LEFT_SPOTS" 40,
 L2.zg6 K 40 [(.int 7 228),(.int 8 229)],
 nI K "LEFT_AS_HANDS" 41,
 L2.zg6 K 41 [(.int 0 231),(.int 1 232),(.int 2 233),(.int 3 234),(.int 4 235),(.int 5 236),(.int 0 237),(.int 1 238)],
 PySem.W.nsIn K mainGlobals "MOST_LINES"== some (some (.int 2 240)),
 PySem.W.nsIn K mainGlobals "MOST_DEEDS"== some (some (.int 8 242)),
 PySem.W.nsIn K mainGlobals "LAST_HAND"== some (some (.int 3 244)),
 PySem.W.nsIn K mainGlobals "LAST_NUMBER"== some (some (.int 99 246)),
 PySem.W.nsIn K mainGlobals "GREATEST_BY"== some (some (.int 1000 248)),
 PySem.W.nsIn K mainGlobals "GREATEST"== some (some (.int 1000000000 250)),
 PySem.W.nsIn K mainGlobals "ASKED_0"== some (some (.int 4 510)),
 PySem.W.nsIn K mainGlobals "ASKED_1"== some (some (.int 5 512)),
 PySem.W.nsIn K mainGlobals "NEW_0"== some (some (.int 6 514)),
 PySem.W.nsIn K mainGlobals "NEW_1"== some (some (.int 7 516)),
 nI K "WHOLES" 242,
 L2.zg6 K 242 [(.int 1 518),(.int 2 519),(.int 3 520),(.int 4 521)],
 L2.zfw K 178 za8 "ValueError.__new__",
 PySem.W.excIn K 178 za8 "ValueError.__new__",
 PySem.W.findIn K (.ref 178) "__getattribute__"== some (some (.builtin "BaseException.__getattribute__")),
 PySem.W.findIn K (.ref 178) "__getattr__"== some none,
 PySem.W.findIn K (.ref 178) "__class__"== some (some (.builtin "object.__class__")),
 PySem.W.mroIn K 178 (.type "object") == some true,
 PySem.W.mroIn K 178 (.type "BaseException") == some true,
 L2.zfw K 191 (.ref 178::za8) "ValueError.__new__",
 PySem.W.excIn K 191 za8 "ValueError.__new__",
 PySem.W.findIn K (.ref 191) "__getattribute__"== some (some (.builtin "BaseException.__getattribute__")),
 PySem.W.findIn K (.ref 191) "__getattr__"== some none,
 PySem.W.findIn K (.ref 191) "__class__"== some (some (.builtin "object.__class__")),
 PySem.W.mroIn K 191 (.type "object") == some true,
 PySem.W.mroIn K 191 (.type "BaseException") == some true,
 L2.zfw K 203 (.ref 178::za8) "ValueError.__new__",
 PySem.W.excIn K 203 za8 "ValueError.__new__",
 PySem.W.findIn K (.ref 203) "__getattribute__"== some (some (.builtin "BaseException.__getattribute__")),
 PySem.W.findIn K (.ref 203) "__getattr__"== some none,
 PySem.W.findIn K (.ref 203) "__class__"== some (some (.builtin "object.__class__")),
 PySem.W.mroIn K 203 (.type "object") == some true,
 PySem.W.mroIn K 203 (.type "BaseException") == some true,
 L2.zfw K 215 (.ref 178::za8) "ValueError.__new__",
 PySem.W.excIn K 215 za8 "ValueError.__new__",
 PySem.W.findIn K (.ref 215) "__getattribute__"== some (some (.builtin "BaseException.__getattribute__")),
 PySem.W.findIn K (.ref 215) "__getattr__"== some none,
 PySem.W.findIn K (.ref 215) "__class__"== some (some (.builtin "object.__class__")),
 PySem.W.mroIn K 215 (.type "object") == some true,
 PySem.W.mroIn K 215 (.type "BaseException") == some true,
 L2.zfw K 227 (.ref 178::za8) "ValueError.__new__",
 PySem.W.excIn K 227 za8 "ValueError.__new__",
 PySem.W.findIn K (.ref 227) "__getattribute__"== some (some (.builtin "BaseException.__getattribute__")),
 PySem.W.findIn K (.ref 227) "__getattr__"== some none,
 PySem.W.findIn K (.ref 227) "__class__"== some (some (.builtin "object.__class__")),
 PySem.W.mroIn K 227 (.type "object") == some true,
 PySem.W.mroIn K 227 (.type "BaseException") == some true,
 L2.zfw K 239 (.ref 178::za8) "ValueError.__new__",
 PySem.W.excIn K 239 za8 "ValueError.__new__",
 PySem.W.findIn K (.ref 239) "__getattribute__"== some (some (.builtin "BaseException.__getattribute__")),
 PySem.W.findIn K (.ref 239) "__getattr__"== some none,
 PySem.W.findIn K (.ref 239) "__class__"== some (some (.builtin "object.__class__")),
 PySem.W.mroIn K 239 (.type "object") == some true,
 PySem.W.mroIn K 239 (.type "BaseException") == some true,
 PySem.W.plainGet K 56 Str.empty,
 PySem.W.hasDictIn K 56,
 PySem.W.plainOver K 56,
 PySem.W.findIn K (.ref 56) "__setattr__"== some (some (.builtin "object.__setattr__")),
 PySem.W.makesIn K 56,
 PySem.W.keepIn K (.ref 56),
 PySem.W.findIn K (.ref 56) "needs"== some none,
 PySem.W.findIn K (.ref 56) "leaves"== some none,
 PySem.W.findIn K (.ref 56) "deeds"== some none,
 PySem.W.findIn K (.ref 56) "notes"== some none,
 PySem.W.plainGet K 443 Str.empty,
 PySem.W.hasDictIn K 443,
 PySem.W.plainOver K 443,
 PySem.W.findIn K (.ref 443) "__setattr__"== some (some (.builtin "object.__setattr__")),
 PySem.W.makesIn K 443,
 PySem.W.keepIn K (.ref 443),
 PySem.W.findIn K (.ref 443) "laid"== some none,
 PySem.W.findIn K (.ref 443) "vouched"== some none,
 PySem.W.specialIn K (.builtin "object.__class__") "__get__"== some (some (.builtin "getset_descriptor.__get__")),
 PySem.W.takesIn K (.builtin "object.__class__") == some true]
def zBoo (K:Fg):List Bool:=zBo1 K++zBo2 K
def zSee (K:Fg):List (Option L2.Sig):=[L2.zaN K 65,L2.zaN K 70,L2.zaN K 53,L2.zaN K 26,L2.zaN K 31,L2.zaN K 38,L2.zaN K 77,L2.zaN K 82,L2.zaN K 163,L2.zaN K 156,L2.zaN K 116,L2.zaN K 111,L2.zaN K 96,L2.zaN K 149,L2.zaN K 142,L2.zaN K 137,L2.zaN K 130,L2.zaN K 123,L2.zaN K 101,L2.zaN K 106,L2.zaN K 89,L2.zaN K 168,L2.zaN K 306,L2.zaN K 296,L2.zaN K 301,L2.zaN K 313,L2.zaN K 256,L2.zaN K 291,L2.zaN K 270,L2.zaN K 277,L2.zaN K 284,L2.zaN K 263,L2.zaN K 249,L2.zaN K 318,L2.zaN K 330,L2.zaN K 325,L2.zaN K 344,L2.zaN K 433,L2.zaN K 426,L2.zaN K 440,L2.zaN K 454,L2.zaN K 351,L2.zaN K 412,L2.zaN K 358,L2.zaN K 365,L2.zaN K 372,L2.zaN K 459,L2.zaN K 419,L2.zaN K 379,L2.zaN K 384,L2.zaN K 466,L2.zaN K 473,L2.zaN K 480,L2.zaN K 485,L2.zaN K 497,L2.zaN K 492,L2.zaN K 502,L2.zaN K 509,L2.zaN K 514,L2.zaN K 521,L2.zaN K 526,L2.zaN K 533,L2.zaN K 540]
def zSig:List (Option L2.Sig):=[gS "copied_lines" "copied_lines" zb7,
 gS "copied_deed" "copied_deed" zcj,
 gS "__init__" "Craft.__init__" zbk,
 gS "bare" "bare" zjU,
 gS "summed" "summed" zfL,
 gS "turned" "turned" zhv,
 gS "copied_craft" "copied_craft" zcV,
 gS "called_by" "called_by" zdg,
 gS "between" "between" zfW,
 gS "small_enough" "small_enough" zcW,
 gS "line_right" "line_right" zb8,
 gS "lines_right" "lines_right" zcm,
 gS "oath_right" "oath_right" zdK,
 gS "hand_right" "hand_right" zdN,
 gS "two_hands_right" "two_hands_right" zbw,
 gS "call_right" "call_right" zdM,
 gS "range_right" "range_right" zdh,
 gS "deed_right" "deed_right" zdL,
 gS "deeds_right" "deeds_right" zck,
 gS "notes_right" "notes_right" zcl,
 gS "right" "right" zja,
 gS "due_at" "due_at" zeJ,
 gS "eight_with" "eight_with" zcI,
 gS "each_from" "each_from" zdn,
 gS "all_turned" "all_turned" zcH,
 gS "constant" "constant" ze9,
 gS "first_duties" "first_duties" zcX,
 gS "call_duties" "call_duties" zdm,
 gS "part_duties" "part_duties" zdj,
 gS "draw_duties" "draw_duties" zdk,
 gS "turn_duties" "turn_duties" zdl,
 gS "deed_duties" "deed_duties" zdi,
 gS "duties" "duties" zhw,
 gS "shows" "shows" zeq,
 gS "noughts_and_ones" "noughts_and_ones" zbc,
 gS "sought" "sought" zhx,
 gS "__init__" "Hall.__init__" zcr,
 gS "release" "Hall.release" zcY,
 gS "called_at" "Hall.called_at" zcg,
 gS "release_callers" "Hall.release_callers" zbo,
 gS "same_oath" "same_oath" zes,
 gS "lay" "Hall.lay" zfa,
 gS "must_stand" "Hall.must_stand" zb2,
 gS "tear" "Hall.tear" zer,
 gS "standing" "Hall.standing" zcs,
 gS "crafts" "Hall.crafts" zdo,
 gS "all_shown" "all_shown" zdp,
 gS "duties_at" "Hall.duties_at" zcf,
 gS "vouch" "Hall.vouch" zdO,
 gS "seek" "Hall.seek" zct,
 gS "_law_cell_at" "_law_cell_at" zet,
 gS "_law_mix" "_law_mix" zjb,
 gS "_law_number" "_law_number" zfb,
 gS "_law_line_by" "_law_line_by" zdq,
 gS "_law_lines_by" "_law_lines_by" zcJ,
 gS "_law_deed_by" "_law_deed_by" zeu,
 gS "_law_parts_by" "_law_parts_by" zb9,
 gS "_law_spoilt" "_law_spoilt" zfc,
 gS "_law_alone" "_law_alone" zeK,
 gS "_law_refused" "_law_refused" zev,
 gS "_law_marred" "_law_marred" zea,
 gS "_law_same" "_law_same" zhy,
 gS "law" "law" zjc]
def HK:PySem.W.Hook:=L2.eHook (List.range 541) (λK=>((zBoo K).all id,zSee K)) (true,zSig)
set_option maxRecDepth 1000000 in
set_option maxHeartbeats 0 in
theorem said0:OpenLaw.wellSaid PySem.Challenge.rw_swornhall_k10_laid_and_torn=true:=by
 rw[PySem.W.Fast.te9446332074065402090]
 kernel_rfl
set_option maxRecDepth 1000000 in
set_option maxHeartbeats 0 in
theorem _root_.PySem.Challenge.hd_swornhall_k10_laid_and_torn (q:∀ (d:DefRec) (kwd:List (Str × PySem.Expr)),defOf My.Qv PySem.Challenge.rw_swornhall_k10_laid_and_torn.row.name=some (d,kwd)->WalkO My.Qv [] (XL My.Qv []) (Hook.says My.HK) PySem.Challenge.rw_swornhall_k10_laid_and_torn.row.toRowW d kwd λf vs=>PySem.call f vs):PySem.Challenge.rw_swornhall_k10_laid_and_torn.Holds:=by
 refine holds_law My.said0 λsaid=>?_
 have h:=q _ _ rfl
 refine (λ(_:type_of% h)=>?m) ?hc
 rotate_left
 exact h
 o_head My.HK
 case hw=>w_witness2
end
end My
namespace L2
open PySem PySem.Spec PyProof.Rows

abbrev Key:=Sum Int Str
def zif:Key->Value->Bool
 | .inl k,v=>Value.isInt k v
 | .inr x,v=>Value.isStrOf x v
def keyH (w:World):Key->Int
 | .inl k=>hashInt k
 | .inr x=>hashStr w x
theorem za7:∀ {k:Key}{v:Value},zif k v=true->(∃ i t,k=Sum.inl i/\v=Value.int i t)\/(∃ x t,k=Sum.inr x/\v=Value.str x t)
 | .inl i,v,h=>by
  obtain⟨t,e⟩:=Value.isInt_shape (k:=i) (v:=v) h
  exact .inl ⟨i,t,rfl,e⟩
 | .inr x,v,h=>by
  obtain⟨t,e⟩:=Value.isStrOf_shape (x:=x) (v:=v) h
  exact .inr ⟨x,t,rfl,e⟩
theorem zk4 (i:Int)(t:Tok):zif (.inl i) (.int i t)=true:=by simp[zif,Value.isInt]
theorem zk5 (x:Str)(t:Tok):zif (.inr x) (.str x t)=true:=by simp[zif,Value.isStrOf]
theorem zpa (a b:Int):decide ((Sum.inl a:Key)=Sum.inl b)=(a == b):=by
 by_cases e:a=b
 ·subst e;simp
 ·have h:¬ (Sum.inl a:Key)=Sum.inl b:=λq=>e (Sum.inl.inj q)
  rw[decide_eq_false h]
  exact (beq_eq_false_iff_ne.mpr e).symm
theorem zpb (a b:Str):decide ((Sum.inr a:Key)=Sum.inr b)=decide (a=b):=by
 by_cases e:a=b
 ·subst e;simp
 ·have h:¬ (Sum.inr a:Key)=Sum.inr b:=λq=>e (Sum.inr.inj q)
  rw[decide_eq_false h,decide_eq_false e]
theorem zpc (a:Int)(b:Str):decide ((Sum.inl a:Key)=Sum.inr b)=false:=decide_eq_false (λq=>nomatch q)
theorem zpd (a:Str)(b:Int):decide ((Sum.inr a:Key)=Sum.inl b)=false:=decide_eq_false (λq=>nomatch q)
def za9 (prog:Program)(w:World):PySem.KeyKind prog w Key where
 is:=zif
 hash:=keyH w
 inj:=λv a b ha hb=>by
  rcases za7 ha with ⟨i,t,rfl,rfl⟩ | ⟨x,t,rfl,rfl⟩
  ·rcases za7 hb with ⟨j,u,rfl,e⟩ | ⟨y,u,rfl,e⟩
   ·injection e with e1 _;rw[e1]
   ·exact nomatch e
  ·rcases za7 hb with ⟨j,u,rfl,e⟩ | ⟨y,u,rfl,e⟩
   ·exact nomatch e
   ·injection e with e1 _;rw[e1]
 byValue:=λk v h=>by
  rcases za7 h with ⟨i,t,rfl,rfl⟩ | ⟨x,t,rfl,rfl⟩ <;> rfl
 pyHash:=λhv h=>by
  rcases za7 hv with ⟨i,t,rfl,rfl⟩ | ⟨x,t,rfl,rfl⟩
  ·exact wpAny_pyHash_int h
  ·exact wpAny_pyHash_str h
 eqBool:=λhu hv h=>by
  rcases za7 hu with ⟨i,t,rfl,rfl⟩ | ⟨x,t,rfl,rfl⟩
  ·rcases za7 hv with ⟨j,u,rfl,rfl⟩ | ⟨y,u,rfl,rfl⟩
   ·rw[zpa] at h;exact wpAny_eqBool_int h
   ·rw[zpc] at h;exact SeqAt.EqAt.int_str i t y u _ _ _ _ h
  ·rcases za7 hv with ⟨j,u,rfl,rfl⟩ | ⟨y,u,rfl,rfl⟩
   ·rw[zpd] at h;exact SeqAt.EqAt.str_int x t j u _ _ _ _ h
   ·rw[zpb] at h;exact wpAny_eqBool_str h
 «strs»:=λk x t v h=>by
  rcases za7 h with ⟨i,u,rfl,e⟩ | ⟨y,u,rfl,e⟩
  ·exact nomatch e
  ·injection e with e1 _
   subst e1
   cases v <;> rfl
theorem zjd (prog:Program)(w:World)(i:Int)(t:Tok):(za9 prog w).is (.inl i) (.int i t)=true:=zk4 i t
theorem zje (prog:Program)(w:World)(x:Str)(t:Tok):(za9 prog w).is (.inr x) (.str x t)=true:=zk5 x t
end L2

namespace L2
open PySem PySem.Spec PyProof.Rows

inductive V where
 | non | bl (b:Bool) | int (i:Int) | str (x:Str) | byt (b:Array UInt8) | flt (b:UInt64) | ref (a:Addr) | ty (n:String)
 deriving DecidableEq
def RelV:V->Value->Prop
 | .non,u=>u=Value.none
 | .bl b,u=>u=Value.bool b
 | .int i,u=>∃ t,u=Value.int i t
 | .str x,u=>∃ t,u=Value.str x t
 | .byt b,u=>∃ t,u=Value.bytes b t
 | .flt b,u=>∃ t,u=Value.float b t
 | .ref a,u=>u=Value.ref a
 | .ty n,u=>u=Value.type n
abbrev Vals:List V->List Value->Prop:=Paired RelV
theorem Vals.length {xs:List V}{us:List Value}(r:Vals xs us):xs.length=us.length:=Paired.length r
theorem Vals.get:∀ {xs:List V}{us:List Value}{i:Nat}{x:V},Vals xs us->xs[i]?=some x->∃ u,us[i]?=some u/\RelV x u
 | _,_,_,_,.nil,e=>by simp at e
 | _,_,0,_,.cons r _,e=>by simp at e;subst e;exact⟨_,rfl,r⟩
 | _,_,i+1,x,.cons _ t,e=>by
  obtain⟨u,h1,h2⟩:=Vals.get (i:=i) (x:=x) t (by simpa using e)
  exact⟨u,by simpa using h1,h2⟩
theorem Vals.set {x:V}{u:Value}(r:RelV x u):∀ {xs:List V}{us:List Value}(i:Nat),Vals xs us->Vals (xs.set i x) (us.set i u)
 | _,_,_,.nil=>.nil
 | _,_,0,.cons _ t=>.cons r t
 | _,_,i+1,.cons q t=>.cons q (Vals.set r i t)
theorem Vals.append:∀ {xs ys:List V}{us ws:List Value},Vals xs us->Vals ys ws->Vals (xs++ys) (us++ws)
 | _,_,_,_,.nil,s=>s
 | _,_,_,_,.cons r t,s=>.cons r (Vals.append t s)
theorem Vals.take:∀ {xs:List V}{us:List Value}(n:Nat),Vals xs us->Vals (xs.take n) (us.take n)
 | _,_,0,_=>.nil
 | _,_,_+1,.nil=>.nil
 | _,_,n+1,.cons r t=>.cons r (Vals.take n t)
theorem Vals.drop:∀ {xs:List V}{us:List Value}(n:Nat),Vals xs us->Vals (xs.drop n) (us.drop n)
 | _,_,0,r=>r
 | _,_,_+1,.nil=>.nil
 | _,_,n+1,.cons _ t=>Vals.drop n t
theorem Vals.none_of:∀ {xs:List V}{us:List Value}{i:Nat},Vals xs us->xs[i]?=none->us[i]?=none:=λ{xs us i} r e=>by
 have h1:=r.length
 have h2:xs.length<=i:=List.getElem?_eq_none_iff.mp e
 exact List.getElem?_eq_none_iff.mpr (by omega)
def RelO:Option V->Option Value->Prop
 | some v,some u=>RelV v u
 | none,none=>True
 | _,_=>False
def KV {κ:Type} : List (κ × V)->List (κ × Value)->Prop:=Paired λ(p:κ × V) (q:κ × Value)=>p.1=q.1/\RelV p.2 q.2
def kV:Key->V
 | .inl i=>.int i
 | .inr x=>.str x
inductive HO where
 /-- a list -/
 | lst (xs:List V)
 /-- a tuple (never changes) -/
 | tup (xs:List V)
 /-- a dict whose keys are ints and texts;one whose keys are tuples of ints and texts (the empty one is both) -/
 | dK (kvs:List (Key × V)) | dT (kvs:List (List Key × V))
 /-- a set of ints: its members,its size -/
 | set (S:Int->Bool) (n:Nat)
 /-- an instance of the class at C,its dict at dx,its attributes -/
 | ins (C dx:Addr) (fs:List (Str × V))
 /-- the dict of the instance at x -/
 | own (x:Addr)
 /-- the dict of an exception -/
 | xd (fs:List (Str × V))
 /-- a bound method,f of x -/
 | met (f x:Addr)
 /-- a range object lo,lo+1,.. below hi -/
 | rng (lo hi:Int)
 /-- a thing that is known to the object (the script;a dict while a loop walks it): read,never written while it is so -/
 | frz (o:Obj) (u:HO)
 /-- a code object's table -/
 | tbl (ps:Array Value)
 /-- any other thing,by what is true of its one object (a def of one's own: SetO a S n:=HO.ext λh=>..) -/
 | ext (φ:Heap->Prop)
abbrev Hp:=Addr->Option HO
def upd (H:Hp)(a:Addr)(o:HO):Hp:=λb=>if b=a then some o else H b
theorem zad {H:Hp}{a:Addr}{o:HO} : upd H a o a=some o:=by unfold upd;rw[if_pos rfl]
theorem zam {H:Hp}{a b:Addr}{o:HO}(h:b≠a):upd H a o b=H b:=by unfold upd;rw[if_neg h]
theorem zgN {H:Hp}{a b:Addr}{o u:HO}(h:H a=some o)(h':H b=some u)(d:o≠u):a≠b:=by
 intro e;subst e;rw[h] at h';exact d (Option.some.inj h')
theorem zax {H:Hp}{a b:Addr}{o:HO}(h:H a=some o)(h':H b=none):a≠b:=by
 intro e;subst e;rw[h] at h';cases h'
section
variable (P:Program)(w:World)
def zbD (H:Hp)(h:Heap)(a:Addr):HO->Prop
 | .lst xs=>xs.length<=sizeLine/\∃ (its:List Value) (n:Nat),Vals xs its/\h.get? a=some {cls:=.type "list",data:=.seq its.toArray n}
 | .tup xs=>xs.length<=sizeLine/\∃ its:List Value,Vals xs its/\IsTup h a its.toArray
 | .dK kvs=>kvs.length<=sizeLine/\(a == sysModules)=false/\∃ vs,KV kvs vs/\h.DictOf (za9 P w) a vs
 | .dT kvs=>kvs.length<=sizeLine/\(a == sysModules)=false/\∃ xs:List (List Key × Addr × Value),
   Paired (λ(p:List Key × V) (q:List Key × Addr × Value)=>p.1=q.1/\H q.2.1=some (.tup (p.1.map kV))/\RelV p.2 q.2.2) kvs xs/\
   ∃ o es ep,h.get? a=some o/\o.ExactDict/\o.data=.dict es ep/\es.toList=xs.map (entryOfKey (tupleKind (za9 P w)))/\(xs.map (·.1)).Nodup
 | .set S n=>h.SetOf (intKind P w) a S n
 | .ins C dx fs=>H dx=some (.own a)/\fs.length<=1000/\dx≠a/\h.get? a=some (PySem.W.instObj C dx)/\
   ∃ mA,h.Ns1 dx mA/\(∀ f,RelO (fs.lookup f) (mA f))/\PySem.Within mA (fs.map (·.1))
 | .own _=>∃ o,h.get? a=some o
 | .xd fs=>∃ mA,h.Ns1 a mA/\∀ f,RelO (fs.lookup f) (mA f)
 | .rng lo hi=>∃ t u v,h.get? a=some {cls:=.type "range",data:=.fields #[.int lo t,.int hi u,.int 1 v]}
 | .frz o u=>h.get? a=some o/\zbD H h a u
 | .tbl ps=>h.get? a=some {cls:=.none,data:=.fields ps}
 | .met f x=>h.get? a=some (PySem.W.methodObj (.ref f) (.ref x))
 | .ext φ=>φ h/\(∃ o,h.get? a=some o)/\∀ h1 h2:Heap,φ h1->(∀ o,h1.get? a=some o->h2.get? a=some o)->φ h2
def HOk (H:Hp)(h:Heap):Prop:=∀ a o,H a=some o->zbD P w H h a o
end

section
variable {P:Program}{w:World}{H H':Hp}{h h':Heap}{a:Addr}{o:HO}
theorem zbD.lt (x:zbD P w H h a o):a<h.objs.size:=by
 cases o with
 | lst xs=>obtain⟨_,_,_,_,e⟩:=x;exact Heap.lt_size e
 | tup xs=>obtain⟨_,_,_,p⟩:=x;exact p.lt
 | dK kvs=>obtain⟨_,_,_,_,o,_,_,e,_⟩:=x;exact Heap.lt_size e
 | dT kvs=>obtain⟨_,_,_,_,o,_,_,e,_⟩:=x;exact Heap.lt_size e
 | set S n=>obtain⟨o,_,_,_,e,_⟩:=x;exact Heap.lt_size e
 | ins C dx fs=>obtain⟨_,_,_,e,_⟩:=x;exact Heap.lt_size e
 | own y=>obtain⟨_,e⟩:=x;exact Heap.lt_size e
 | xd fs=>obtain⟨_,⟨_,_,_,e,_⟩,_⟩:=x;exact Heap.lt_size e
 | rng lo hi=>obtain⟨_,_,_,e⟩:=x;exact Heap.lt_size e
 | frz ob u=>obtain⟨e,_⟩:=x;exact Heap.lt_size e
 | tbl ps=>exact Heap.lt_size (show h.get? a=some _ from x)
 | met f y=>exact Heap.lt_size (show h.get? a=some _ from x)
 | ext φ=>obtain⟨_,⟨_,e⟩,_⟩:=x;exact Heap.lt_size e
theorem Paired.mapP {α β:Type}{F G:α->β->Prop} : ∀ {l₁:List α}{l₂:List β},Paired F l₁ l₂->(∀ a b,F a b->G a b)->Paired G l₁ l₂
 | _,_,.nil,_=>.nil
 | _,_,.cons r t,f=>.cons (f _ _ r) (Paired.mapP t f)
theorem zbD.stay (x:zbD P w H h a o)(k:∀ b u,(b=a\/H b=some (.own a))->h.get? b=some u->h'.get? b=some u)
  (ho:∀ b,H b=some (.own a)->H' b=some (.own a)) (ht:∀ b xs,H b=some (.tup xs)->H' b=some (.tup xs)):zbD P w H' h' a o:=by
 induction o with
 | lst xs=>obtain⟨z,its,n,r,e⟩:=x;exact⟨z,its,n,r,k _ _ (.inl rfl) e⟩
 | tup xs=>obtain⟨z,its,r,ob,e,c⟩:=x;exact⟨z,its,r,ob,k _ _ (.inl rfl) e,c⟩
 | dK kvs=>obtain⟨z,y,vs,r,ob,es,ep,e,c⟩:=x;exact⟨z,y,vs,r,ob,es,ep,k _ _ (.inl rfl) e,c⟩
 | dT kvs=>
  obtain⟨z,y,xs,r,ob,es,ep,e,c⟩:=x
  exact⟨z,y,xs,Paired.mapP r λp q z=>⟨z.1,ht _ _ z.2.1,z.2.2⟩,ob,es,ep,k _ _ (.inl rfl) e,c⟩
 | set S n=>obtain⟨ob,es,ep,t,e,c⟩:=x;exact⟨ob,es,ep,t,k _ _ (.inl rfl) e,c⟩
 | ins C dx fs=>
  obtain⟨d,z,ne,e,mA,⟨od,es,ep,e2,c⟩,r⟩:=x
  exact⟨ho _ d,z,ne,k _ _ (.inl rfl) e,mA,⟨od,es,ep,k _ _ (.inr d) e2,c⟩,r⟩
 | own y=>obtain⟨ob,e⟩:=x;exact⟨ob,k _ _ (.inl rfl) e⟩
 | xd fs=>obtain⟨mA,⟨od,es,ep,e,c⟩,r⟩:=x;exact⟨mA,⟨od,es,ep,k _ _ (.inl rfl) e,c⟩,r⟩
 | rng lo hi=>obtain⟨t,u,v,e⟩:=x;exact⟨t,u,v,k _ _ (.inl rfl) e⟩
 | frz ob u ih=>obtain⟨e,q⟩:=x;exact⟨k _ _ (.inl rfl) e,ih q⟩
 | tbl ps=>
  have e:h.get? a=some {cls:=.none,data:=.fields ps}:=x
  show h'.get? a=some {cls:=.none,data:=.fields ps}
  exact k a _ (.inl rfl) e
 | met f y=>
  have e:h.get? a=some (PySem.W.methodObj (.ref f) (.ref y)):=x
  show h'.get? a=some (PySem.W.methodObj (.ref f) (.ref y))
  exact k a _ (.inl rfl) e
 | ext φ=>obtain⟨p,⟨o,e⟩,st⟩:=x;exact⟨st _ _ p λo q=>k _ _ (.inl rfl) q,⟨o,k _ _ (.inl rfl) e⟩,st⟩
theorem HOk.lt (x:HOk P w H h)(e:H a=some o):a<h.objs.size:=(x a o e).lt
theorem HOk.fresh (x:HOk P w H h)(e:h.objs.size<=a):H a=none:=by
 cases q:H a with
 | none=>rfl
 | some u=>exact absurd (Nat.lt_of_lt_of_le (x.lt q) e) (Nat.lt_irrefl _)
theorem HOk.kept (x:HOk P w H h)(k:∀ b u,h.get? b=some u->h'.get? b=some u):HOk P w H h':=λa o e=>
 (x a o e).stay (λb u _ q=>k b u q) (λ_ q=>q) λ_ _ q=>q
theorem HOk.laid (x:HOk P w H h)(k:∀ b u,h.get? b=some u->h'.get? b=some u)(hp:h.objs.size<=a)(new:zbD P w (upd H a o) h' a o):HOk P w (upd H a o) h':=λb u e=>by
 have hn:=x.fresh hp
 by_cases hb:b=a
 ·subst hb;rw[zad] at e;cases e;exact new
 ·rw[zam hb] at e
  exact (x b u e).stay (λc v _ q=>k c v q) (λc q=>by rw[zam (zax q hn)];exact q) λc xs q=>by rw[zam (zax q hn)];exact q
end

def Rd (H:Hp)(a:Addr)(u:HO):Prop:=H a=some u\/∃ o,H a=some (.frz o u)
theorem Rd.ok {P:Program}{w:World}{H:Hp}{h:Heap}{a:Addr}{u:HO}(r:Rd H a u)(x:HOk P w H h):zbD P w H h a u:=by
 rcases r with r | ⟨o,r⟩
 ·exact x a u r
 ·obtain⟨_,q⟩:=x a _ r
  exact q
def Mut:Option HO->Prop
 | some (.lst _)=>True
 | some (.dK _)=>True
 | some (.dT _)=>True
 | some (.set _ _)=>True
 | some (.ins _ _ _)=>True
 | some (.ext _)=>True
 | _=>False
section
variable {P:Program}{w:World}{H:Hp}{h h':Heap}{x e:Addr}{o':HO}
theorem HOk.write (ok:HOk P w H h)(mu:Mut (H x))(he:e=x\/H e=some (.own x))(k:∀ b u,b≠e->h.get? b=some u->h'.get? b=some u)(heo:∃ u,h'.get? e=some u)
  (new:zbD P w (upd H x o') h' x o'):HOk P w (upd H x o') h':=λb u q=>by
 have nown:∀ c y,H c=some (.own y)->c≠x:=λc y r z=>by subst z;rw[r] at mu;exact mu
 have ntup:∀ c xs,H c=some (.tup xs)->c≠x:=λc xs r z=>by subst z;rw[r] at mu;exact mu
 by_cases hb:b=x
 ·subst hb;rw[zad] at q;cases q;exact new
 ·rw[zam hb] at q
  by_cases hbe:b=e
  ·have q':H b=some (.own x):=by
    rcases he with z | z
    ·exact absurd (hbe.trans z) hb
    ·rw[hbe];exact z
   rw[q] at q';cases q'
   obtain⟨v,hv⟩:=heo
   exact⟨v,by rw[hbe];exact hv⟩
  ·refine (ok b u q).stay (λc v hc r=>k c v ?_ r) (λc r=>by rw[zam (nown c b r)];exact r) λc xs r=>by rw[zam (ntup c xs r)];exact r
   rcases hc with rfl | hc
   ·exact hbe
   ·rintro rfl
    rcases he with z | z
    ·exact nown c b hc z
    ·rw[hc] at z;cases z;exact hb rfl
end

structure Un (fs ex:List Addr)(H H':Hp)(h h':Heap):Prop where
 keep:∀ b o,h.get? b=some o->H b=none->b∉fs->b∉ex->h'.get? b=some o
 slot:∀ b o,h.get? b=some o->H b=none->b∈fs->b∉ex->∃ sl,h'.get? b=some {o with slots:=sl}
 free:∀ b o,h.get? b=some o->H b=none->b∉ex->H' b=none
 there:∀ b o,h.get? b=some o->b∉ex->∃ o',h'.get? b=some o'
 tups:∀ b xs,H b=some (.tup xs)->H' b=some (.tup xs)
 frzs:∀ b o u,H b=some (.frz o u)->H' b=some (.frz o u)
 tbls:∀ b ps,H b=some (.tbl ps)->∃ more,H' b=some (.tbl (ps++more))
section
variable {fs fs' ex ex':List Addr}{H H1 H2:Hp}{h h1 h2 h':Heap}{a x e:Addr}{o:HO}
theorem Un.any (u:Un fs ex H H1 h h1){b:Addr}{ob:Obj}(q:h.get? b=some ob)(n:H b=none)(hx:b∉ex):∃ sl,h1.get? b=some {ob with slots:=sl}:=by
 by_cases hb:b∈fs
 ·exact u.slot b ob q n hb hx
 ·exact⟨ob.slots,u.keep b ob q n hb hx⟩
theorem Un.kept (k:∀ b u,h.get? b=some u->h'.get? b=some u):Un fs ex H H h h':=
 ⟨λb ob q _ _ _=>k b ob q,λb ob q _ _ _=>⟨ob.slots,k b ob q⟩,λ_ _ _ n _=>n,λb ob q _=>⟨ob,k b ob q⟩,λ_ _ q=>q,λ_ _ _ q=>q,λ_ ps q=>⟨#[],by rw[q];simp⟩⟩
theorem Un.refl:Un fs ex H H h h:=Un.kept λ_ _ q=>q
theorem Un.laid (k:∀ b u,h.get? b=some u->h'.get? b=some u)(hp:h.objs.size<=a)(hn:H a=none):Un fs ex H (upd H a o) h h' where
 keep:=λb u q _ _ _=>k b u q
 slot:=λb u q _ _ _=>⟨u.slots,k b u q⟩
 free:=λb u q n _=>by rw[zam (Nat.ne_of_lt (Nat.lt_of_lt_of_le (Heap.lt_size q) hp))];exact n
 there:=λb u q _=>⟨u,k b u q⟩
 tups:=λb xs q=>by rw[zam (zax q hn)];exact q
 frzs:=λb u xs q=>by rw[zam (zax q hn)];exact q
 tbls:=λb ps q=>⟨#[],by rw[zam (zax q hn),q];simp⟩
theorem Un.write (mu:Mut (H x))(he:e=x\/H e=some (.own x))(k:∀ b u,b≠e->h.get? b=some u->h'.get? b=some u)(heo:∃ u,h'.get? e=some u):Un fs ex H (upd H x o) h h':=by
 have hx:∀ b,H b=none->b≠x:=λb n z=>by subst z;rw[n] at mu;exact mu
 have hb:∀ b,H b=none->b≠e:=λb n z=>by
  subst z
  rcases he with r | r
  ·exact hx b n r
  ·rw[n] at r;cases r
 have hm:∀ b u,H b=some u->¬ Mut (some u)->b≠x:=λb u q nm z=>by subst z;rw[q] at mu;exact nm mu
 refine⟨λb u q n _ _=>k b u (hb b n) q,λb u q n _ _=>⟨u.slots,k b u (hb b n) q⟩,λb u q n _=>by rw[zam (hx b n)];exact n,λb u q _=>?_,
  λb xs q=>by rw[zam (hm b _ q λz=>z)];exact q,λb u xs q=>by rw[zam (hm b _ q λz=>z)];exact q,λb ps q=>⟨#[],by rw[zam (hm b _ q λz=>z),q];simp⟩⟩
 by_cases hbe:b=e
 ·subst hbe;exact heo
 ·exact⟨u,k b u hbe q⟩
end

def trk (h:Heap)(H:Hp):List Addr:=(List.range h.objs.size).filter λa=>(H a).isSome
def hidT (h:Heap)(H:Hp):Heap:=PySem.W.hideAll h (trk h H)
theorem zk6 (h:Heap)(H:Hp):(hidT h H).objs.size=h.objs.size:=PySem.W.hideAll_size _ _
theorem zmN {h:Heap}{H:Hp}{b:Addr}{o:Obj}(e:h.get? b=some o)(n:H b=none):(hidT h H).get? b=some o:=
 PySem.W.hideAll_get _ e λhm=>by
  have q:(H b).isSome=true:=(List.mem_filter.mp hm).2
  rw[n] at q;simp at q
theorem zoe {h:Heap}{H:Hp}{b:Addr}{o:Obj}(e:(hidT h H).get? b=some o):h.get? b=some o/\H b=none:=by
 have e':h.get? b=some o:=PySem.W.of_hideAll (trk h H) e
 refine⟨e',?_⟩
 cases q:H b with
 | none=>rfl
 | some x=>
  have hm:b∈trk h H:=List.mem_filter.mpr ⟨List.mem_range.mpr (Heap.lt_size e'),by simp[q]⟩
  have z:(hidT h H).get? b=none:=PySem.W.hideAll_none (trk h H) hm
  rw[z] at e;cases e
end L2

namespace L2
open PySem PySem.Spec PyProof.Rows

structure Mod (K:Fg)(mg:Str->Option Value)(base:Heap):Prop where
 kin:K.In base
 glob:base.Ns mainGlobals mg
 blt:∃ mb,base.Ns builtinsNs mb/\∀ x:Str,x≠ "__name__" ->mb x=bootBuiltins x
 nolimit:base.NoLimit
structure Cx where
 prog:Program
 w:World
 K:Fg
 mg:Str->Option Value
 base:Heap
 A:Around
 N:List Str
 s₀:Shared
 H₀:Hp
 env:Env
 outer:List Env
 stack:List Env
 ex:List Addr
 fn:Str->Bool
 calm:Bool
 pn:List (Addr × Obj)
 xe:Value->Shared->Prop
def frs (l:List Env):List Addr:=l.filterMap (·.frame)
abbrev Cx.fs (X:Cx):List Addr:=frs X.outer
def Vis (sc:Scope)(x:Str):Prop:=sc.names.lookup x=some .local\/sc.names.lookup x=some .cell\/sc.names.lookup x=some .free
def Loc (sc:Scope)(x:Str):Prop:=sc.names.lookup x=some .local\/sc.names.lookup x=some .cell
def Look (env:Env)(h:Heap)(m:Str->Option Value)(x:Str)(u:Value):Prop:=
 (env.kindOf x=some .local/\m x=some u)\/((env.kindOf x=some .cell\/env.kindOf x=some .free)/\∃ c,env.cells.lookup x=some c/\h.IsCell c (some u))
structure Cx.Ok (X:Cx):Prop where
 mod:Mod X.K X.mg X.base
 kind:X.env.scope.kind=.function
 glob:X.env.globals=mainGlobals
 blt:X.env.builtins=builtinsNs
 above:X.s₀.heap.objs.size<=X.env.locals
 inj:∀ x y c,X.env.cells.lookup x=some c->X.env.cells.lookup y=some c->x=y
 has:∀ x,(X.env.kindOf x=some .cell\/X.env.kindOf x=some .free)->∃ c,X.env.cells.lookup x=some c
 cab:∀ x c,X.fn x=true->X.env.cells.lookup x=some c->X.s₀.heap.objs.size<=c
 hd:X.calm=true->X.A.handled=none
 frames:X.A.frames=some X.stack
 stk:X.stack=X.outer\/(X.stack=X.env::X.outer/\X.env.frame=some X.env.locals)
 exf:∀ b∈X.ex,b≠X.env.locals/\∀ x c,X.env.cells.lookup x=some c->c≠b
 bs:∀ b o,X.base.get? b=some o->X.s₀.heap.get? b=some o/\X.H₀ b=none
 bsz:X.base.objs.size<=X.s₀.heap.objs.size
 noex:∀ b o,X.base.get? b=some o->b∉X.ex
 exfs:∀ b∈X.ex,b∉X.fs
 funs:X.s₀.heap.FunFrames X.base X.outer
 frf:∀ b∈X.fs,X.H₀ b=none
structure Inv (X:Cx)(pins:List (Addr × Obj))(σ:List (Option V))(H:Hp)(s:Shared):Prop where
 ok:X.Ok
 os:s.os=X.s₀.os
 bare:AllBare s.gens
 base:Un X.fs X.ex X.H₀ H X.s₀.heap s.heap
 loc:∃ m,s.heap.Ns X.env.locals m/\∀ (i:Nat) (x:Str) (v:V),X.N[i]?=some x->σ[i]?=some (some v)->Vis X.env.scope x->∃ u,RelV v u/\Look X.env s.heap m x u
 cell:∀ x c,X.env.cells.lookup x=some c->∃ v,s.heap.IsCell c v
 free:H X.env.locals=none
 freeC:∀ x c,X.env.cells.lookup x=some c->H c=none
 pin:∀ p∈X.pn++pins,s.heap.get? p.1=some p.2/\H p.1=none/\p.1≠X.env.locals/\p.1∉X.fs/\∀ v,p.2.data≠.cell v
 hok:HOk X.prog X.w H s.heap
 len:σ.length=X.N.length
section
variable {X:Cx}{pins:List (Addr × Obj)}{σ:List (Option V)}{H H':Hp}{s:Shared}{h':Heap}

theorem Cx.Ok.nofr (ok:X.Ok){b:Addr}{o:Obj}(e:X.base.get? b=some o):b∉X.fs:=λhb=>by
 have:=(ok.funs.mem hb).1
 rw[e] at this;cases this
theorem Inv.bs (I:Inv X pins σ H s):∀ b o,X.base.get? b=some o->s.heap.get? b=some o/\H b=none:=λb o e=>
 ⟨I.base.keep b o (I.ok.bs b o e).1 (I.ok.bs b o e).2 (I.ok.nofr e) (I.ok.noex b o e),I.base.free b o (I.ok.bs b o e).1 (I.ok.bs b o e).2 (I.ok.noex b o e)⟩
theorem Inv.bk (I:Inv X pins σ H s):∀ b o,X.base.get? b=some o->s.heap.get? b=some o:=λb o e=>(I.bs b o e).1
theorem Inv.mod (I:Inv X pins σ H s):Mod X.K X.mg X.base:=I.ok.mod
theorem Inv.kIn (I:Inv X pins σ H s):X.K.In s.heap:=I.ok.mod.kin.keeps I.bk
theorem Inv.lt (I:Inv X pins σ H s):X.env.locals<s.heap.objs.size:=let ⟨_,hn,_⟩:=I.loc;hn.lt
theorem Inv.sz (I:Inv X pins σ H s):X.s₀.heap.objs.size<=s.heap.objs.size:=Nat.le_trans I.ok.above (Nat.le_of_lt I.lt)
theorem Inv.nofs (I:Inv X pins σ H s){a:Addr}(h:s.heap.objs.size<=a):a∉X.fs:=λhb=>by
 obtain⟨_,o,ho,_⟩:=I.ok.funs.mem hb
 exact absurd (Nat.lt_of_lt_of_le (Heap.lt_size ho) (Nat.le_trans I.sz h)) (Nat.lt_irrefl _)
theorem Inv.cne (I:Inv X pins σ H s):∀ x c,X.env.cells.lookup x=some c->c≠X.env.locals:=λx c e z=>by
 obtain⟨v,o,ho,hd⟩:=I.cell x c e
 obtain⟨m,⟨o',es,ep,ho',hd',_⟩,_⟩:=I.loc
 rw[z,ho'] at ho;cases ho;rw[hd'] at hd;cases hd
theorem Inv.funs (I:Inv X pins σ H s):s.heap.FunFrames X.base X.outer:=by
 have all:∀ (l:List Env),(∀ b∈frs l,b∈X.fs)->X.s₀.heap.FunFrames X.base l->s.heap.FunFrames X.base l:=by
  intro l
  induction l with
  | nil=>intro _ _;trivial
  | cons env r ih=>
   intro hs hl
   obtain⟨hk,⟨L,o,hf,hn,ho,hd⟩,hr⟩:=hl
   have hL:L∈X.fs:=hs L (by unfold frs;rw[List.filterMap_cons,hf];exact List.mem_cons_self)
   obtain⟨sl,e⟩:=I.base.slot L o ho (I.ok.frf L hL) hL λz=>I.ok.exfs L z hL
   exact⟨hk,⟨L,_,hf,hn,e,hd⟩,ih (λb hb=>hs b (by unfold frs;rw[List.filterMap_cons,hf];exact List.mem_cons_of_mem _ hb)) hr⟩
 exact all X.outer (λ_ hb=>hb) I.ok.funs
theorem Inv.stack (I:Inv X pins σ H s):s.heap.FunFrames X.base X.stack:=by
 rcases I.ok.stk with e | ⟨e,hf⟩
 ·rw[e];exact I.funs
 ·rw[e]
  obtain⟨m,hn,_⟩:=I.loc
  refine .cons (by rw[I.ok.kind];decide) hf hn ?_ I.funs
  exact Heap.get?_none_of_le (Nat.le_trans I.ok.bsz I.ok.above)
theorem Inv.stkSub (I:Inv X pins σ H s):∀ b∈frs X.stack,b∈X.env.locals::X.fs:=λb hb=>by
 rcases I.ok.stk with e | ⟨e,hf⟩
 ·rw[e] at hb;exact List.mem_cons_of_mem _ hb
 ·rw[e] at hb
  unfold frs at hb
  rw[List.filterMap_cons,hf] at hb
  exact hb
theorem Inv.stkFree (I:Inv X pins σ H s):∀ b∈frs X.stack,H b=none:=λb hb=>by
 rcases List.mem_cons.mp (I.stkSub b hb) with e | hb
 ·rw[e];exact I.free
 ·obtain⟨_,o,ho,_⟩:=I.ok.funs.mem hb
  exact I.base.free b o ho (I.ok.frf b hb) λz=>I.ok.exfs b z hb
theorem Inv.step {g':Array GenState}{t':Nat}{d':Drawn}{ch:List Addr}(I:Inv X pins σ H s)
  (hch:∀ b∈ch,(b∈X.ex\/X.s₀.heap.objs.size<=b)/\b≠X.env.locals/\(∀ x c,X.env.cells.lookup x=some c->c≠b)/\∀ p∈X.pn++pins,p.1≠b)
  (keep:∀ b o,b≠X.env.locals->b∉X.fs->b∉ch->s.heap.get? b=some o->H b=none->h'.get? b=some o)
  (slot:∀ b o,b≠X.env.locals->b∈X.fs->b∉ch->s.heap.get? b=some o->H b=none->∃ sl,h'.get? b=some {o with slots:=sl}) (free:∀ b o,b∉ch->s.heap.get? b=some o->H b=none->H' b=none)
  (there:∀ b o,b∉ch->s.heap.get? b=some o->∃ o',h'.get? b=some o')
  (tups:∀ b xs,H b=some (.tup xs)->H' b=some (.tup xs)) (frzs:∀ b o u,H b=some (.frz o u)->H' b=some (.frz o u)) (tbls:∀ b ps,H b=some (.tbl ps)->∃ more,H' b=some (.tbl (ps++more)))
  (ns:∀ m,s.heap.Ns X.env.locals m->h'.Ns X.env.locals m) (hok:HOk X.prog X.w H' h') (hg:AllBare g') :
  Inv X pins σ H' {s with heap:=h',gens:=g',drawn:=d',toks:=t'}:=by
 have neL:∀ b o,X.s₀.heap.get? b=some o->b≠X.env.locals:=λb o e=>Nat.ne_of_lt (Nat.lt_of_lt_of_le (Heap.lt_size e) I.ok.above)
 have neC:∀ b o,X.s₀.heap.get? b=some o->b∉X.ex->b∉ch:=λb o e hx hb=>by
  rcases (hch b hb).1 with z | z
  ·exact hx z
  ·exact absurd (Nat.lt_of_lt_of_le (Heap.lt_size e) z) (Nat.lt_irrefl _)
 have cellK:∀ x c,X.env.cells.lookup x=some c->∀ v,s.heap.IsCell c v->h'.IsCell c v:=λx c e v ⟨o,ho,hd⟩=>by
  have nch:c∉ch:=λz=>(hch c z).2.2.1 x c e rfl
  by_cases hc:c∈X.fs
  ·obtain⟨sl,q⟩:=slot c o (I.cne x c e) hc nch ho (I.freeC x c e)
   exact⟨_,q,hd⟩
  ·exact⟨o,keep c o (I.cne x c e) hc nch ho (I.freeC x c e),hd⟩
 refine⟨I.ok,I.os,hg,⟨λb o e n hb hx=>?_,λb o e n hb hx=>?_,λb o e n hx=>?_,λb o e hx=>?_,λb xs e=>tups b xs (I.base.tups b xs e),λb o xs e=>frzs b o xs (I.base.frzs b o xs e),λb ps e=>?_⟩,?_,λx c e=>?_,?_,λx c e=>?_,λp hp=>?_,hok,I.len⟩
 ·exact keep b o (neL b o e) hb (neC b o e hx) (I.base.keep b o e n hb hx) (I.base.free b o e n hx)
 ·obtain⟨sl,e1⟩:=I.base.slot b o e n hb hx
  obtain⟨sl',e2⟩:=slot b _ (neL b o e) hb (neC b o e hx) e1 (I.base.free b o e n hx)
  exact⟨sl',e2⟩
 ·obtain⟨o',e1⟩:=I.base.there b o e hx
  exact free b o' (neC b o e hx) e1 (I.base.free b o e n hx)
 ·obtain⟨o',e1⟩:=I.base.there b o e hx
  exact there b o' (neC b o e hx) e1
 ·obtain⟨m1,e1⟩:=I.base.tbls b ps e
  obtain⟨m2,e2⟩:=tbls b _ e1
  exact⟨m1++m2,by rw[e2,Array.append_assoc]⟩
 ·obtain⟨m,hn,hl⟩:=I.loc
  refine⟨m,ns m hn,λi x v e1 e2 e3=>?_⟩
  obtain⟨u,r,l⟩:=hl i x v e1 e2 e3
  refine⟨u,r,?_⟩
  rcases l with l | ⟨k,c,e,z⟩
  ·exact .inl l
  ·exact .inr ⟨k,c,e,cellK x c e _ z⟩
 ·obtain⟨v,z⟩:=I.cell x c e
  exact⟨v,cellK x c e v z⟩
 ·obtain⟨m,⟨o,_,_,ho,_⟩,_⟩:=I.loc
  exact free _ o (λz=>(hch _ z).2.1 rfl) ho I.free
 ·obtain⟨v,o,ho,hd⟩:=I.cell x c e
  exact free c o (λz=>(hch c z).2.2.1 x c e rfl) ho (I.freeC x c e)
 ·obtain⟨e,n,ne,nf,d⟩:=I.pin p hp
  have nch:p.1∉ch:=λz=>(hch p.1 z).2.2.2 p hp rfl
  exact⟨keep p.1 p.2 ne nf nch e n,free p.1 p.2 nch e n,ne,nf,d⟩
theorem Inv.un {t':Nat}(I:Inv X pins σ H s)(u:Un X.fs [] H H' s.heap h')(hok:HOk X.prog X.w H' h'):Inv X pins σ H' {s with heap:=h',toks:=t'}:=by
 obtain⟨m,⟨o,es,ep,ho,r⟩,_⟩:=id I.loc
 obtain⟨sl,hL⟩:=u.any ho I.free (by simp)
 exact I.step (g':=s.gens) (d':=s.drawn) (ch:=[]) (λ_ z=>nomatch z) (λb o _ hb _ e n=>u.keep b o e n hb (by simp)) (λb o _ hb _ e n=>u.slot b o e n hb (by simp)) (λb o _ e n=>u.free b o e n (by simp)) (λb o _ e=>u.there b o e (by simp)) u.tups u.frzs u.tbls (λm' hm=>by
  obtain⟨o',es',ep',ho',r'⟩:=hm
  rw[ho] at ho';cases ho'
  exact⟨_,es',ep',hL,r'⟩) hok I.bare
theorem Inv.call {g':Array GenState}{t':Nat}{d':Drawn}{ch:List Addr}(I:Inv X pins σ H s)(u:Un (frs X.stack) ch H H' s.heap h')(hok:HOk X.prog X.w H' h')(hg:AllBare g')
  (hch:∀ b∈ch,(b∈X.ex\/X.s₀.heap.objs.size<=b)/\b≠X.env.locals/\(∀ x c,X.env.cells.lookup x=some c->c≠b)/\∀ p∈X.pn++pins,p.1≠b) :
  Inv X pins σ H' {s with heap:=h',gens:=g',drawn:=d',toks:=t'}:=by
 obtain⟨m,⟨o,es,ep,ho,r⟩,_⟩:=id I.loc
 obtain⟨sl,hL⟩:=u.any ho I.free λz=>(hch _ z).2.1 rfl
 exact I.step (ch:=ch) hch (λb o hL hb hc e n=>u.keep b o e n (λz=>(List.mem_cons.mp (I.stkSub b z)).elim hL hb) hc) (λb o _ _ hc e n=>u.any e n hc) (λb o hc e n=>u.free b o e n hc) (λb o hc e=>u.there b o e hc) u.tups u.frzs u.tbls (λm' hm=>by
  obtain⟨o',es',ep',ho',r'⟩:=hm
  rw[ho] at ho';cases ho'
  exact⟨_,es',ep',hL,r'⟩) hok hg
theorem Inv.turned {t':Nat}{it:Addr}(I:Inv X pins σ H s)(k:∀ b o,b≠it->s.heap.get? b=some o->h'.get? b=some o)(hn:H it=none)(hL:it≠X.env.locals)
  (h1:it∈X.ex\/X.s₀.heap.objs.size<=it) (h2:∀ x c,X.env.cells.lookup x=some c->c≠it) (h3:∀ p∈X.pn++pins,p.1≠it):Inv X pins σ H {s with heap:=h',toks:=t'}:=by
 have nit:∀ b u,H b=some u->b≠it:=λb u e z=>by rw[z,hn] at e;cases e
 refine I.step (g':=s.gens) (d':=s.drawn) (ch:=[it]) (λb hb=>?_) (λb o _ _ hc e _=>k b o (λz=>hc (by simp[z])) e) (λb o _ _ hc e _=>⟨o.slots,k b o (λz=>hc (by simp[z])) e⟩) (λ_ _ _ _ n=>n)
  (λb o hc e=>⟨o,k b o (λz=>hc (by simp[z])) e⟩) (λ_ _ e=>e) (λ_ _ _ e=>e) (λb ps e=>⟨#[],by rw[e];simp⟩) (λm hm=>?_) (λb u e=>?_) I.bare
 ·have e:b=it:=by simpa using hb
  subst e
  exact⟨h1,hL,h2,h3⟩
 ·obtain⟨o,es,ep,ho,r⟩:=hm
  exact⟨o,es,ep,k _ o (Ne.symm hL) ho,r⟩
 ·refine (I.hok b u e).stay (λc v hc q=>k c v ?_ q) (λ_ q=>q) λ_ _ q=>q
  rcases hc with z | z
  ·rw[z];exact nit b u e
  ·exact nit c _ z
theorem Inv.tok (I:Inv X pins σ H s)(t:Nat):Inv X pins σ H {s with toks:=t}:=I.un (h':=s.heap) (t':=t) Un.refl I.hok
theorem Inv.kept {t':Nat}(I:Inv X pins σ H s)(k:∀ b u,s.heap.get? b=some u->h'.get? b=some u):Inv X pins σ H {s with heap:=h',toks:=t'}:=I.un (Un.kept k) (I.hok.kept k)
theorem Inv.laid {a:Addr}{o:HO}{t':Nat}(I:Inv X pins σ H s)(k:∀ b u,s.heap.get? b=some u->h'.get? b=some u)(hp:s.heap.objs.size<=a)(new:zbD X.prog X.w (upd H a o) h' a o) :
  Inv X pins σ (upd H a o) {s with heap:=h',toks:=t'}:=I.un (Un.laid k hp (I.hok.fresh hp)) (I.hok.laid k hp new)
theorem Inv.write {x e:Addr}{o:HO}{t':Nat}(I:Inv X pins σ H s)(mu:Mut (H x))(he:e=x\/H e=some (.own x))(k:∀ b u,b≠e->s.heap.get? b=some u->h'.get? b=some u)(heo:∃ u,h'.get? e=some u)
  (new:zbD X.prog X.w (upd H x o) h' x o):Inv X pins σ (upd H x o) {s with heap:=h',toks:=t'}:=I.un (Un.write mu he k heo) (I.hok.write mu he k heo new)
theorem Inv.pins_of {pins':List (Addr × Obj)}(I:Inv X pins σ H s)(h:∀ p∈pins',s.heap.get? p.1=some p.2/\H p.1=none/\p.1≠X.env.locals/\p.1∉X.fs/\∀ v,p.2.data≠.cell v):Inv X pins' σ H s:=
 ⟨I.ok,I.os,I.bare,I.base,I.loc,I.cell,I.free,I.freeC,λp hp=>(zma.mp hp).elim (λz=>I.pin p (List.mem_append_left _ z)) (h p),I.hok,I.len⟩
theorem zhz {N:List Str}(hN:N.Nodup){i j:Nat}{x:Str}(a:N[i]?=some x)(b:N[j]?=some x):i=j:=by
 obtain⟨h1,e1⟩:=zge.mp a
 obtain⟨h2,e2⟩:=zge.mp b
 exact (List.getElem_inj hN).mp (e1.trans e2.symm)
theorem zig {M:Model}{A:Around}{E:Value->Shared->Prop}{i:Nat}{x:Str}{v:V}{u:Value}{Q:Unit->Shared->Prop}(I:Inv X pins σ H s)(hN:X.N.Nodup)(hi:X.N[i]?=some x)(hx:Loc X.env.scope x)(r:RelV v u)
  (h:∀ s',Inv X pins (σ.set i (some v)) H s'->(∃ a,Heap.SameBut a s.heap s'.heap/\(a=X.env.locals\/X.env.cells.lookup x=some a))->Q () s') (hf:X.fn x=true\/X.env.scope.names.lookup x=some .local:=by first | exact .inl rfl | exact .inr rfl | assumption):wpAny M A (storeName X.env x u) Q E s:=by
 obtain⟨m,hn,hl⟩:=id I.loc
 have hcls:(X.env.scope.kind == .class || (X.env.scope.kind == .module && X.env.locals != X.env.globals))=false:=by rw[I.ok.kind];rfl
 have hiσ:i<σ.length:=by rw[I.len];exact (zge.mp hi).1
 have cne:=I.cne
 have tracked:∀ {a:Addr}{h':Heap},(∃ o,s.heap.get? a=some o/\H a=none)->Heap.SameBut a s.heap h'->HOk X.prog X.w H h':=λ{a h'} ha hs b ob e=>by
  obtain⟨_,_,hfree⟩:=ha
  refine (I.hok b ob e).stay (λc w' hc q=>(hs.2 c ?_).trans q) (λ_ q=>q) λ_ _ q=>q
  rintro rfl
  rcases hc with rfl | hc
  ·rw[hfree] at e;cases e
  ·rw[hfree] at hc;cases hc
 rcases hx with hk | hk
 ·refine wpAny_storeName_local hk hn (λh' hn' hs=>?_) hcls
  obtain⟨oL,_,_,hoL,_⟩:=id hn
  refine h _ ⟨I.ok,I.os,I.bare,⟨λb o e n hb hx=>?_,λb o e n hb hx=>?_,I.base.free,λb o e hx=>?_,I.base.tups,I.base.frzs,I.base.tbls⟩,⟨_,hn',λj y v' e1 e2 e3=>?_⟩,λy c e=>?_,I.free,I.freeC,λp hp=>?_,tracked ⟨oL,hoL,I.free⟩ hs,by simpa using I.len⟩ ⟨_,hs,.inl rfl⟩
  ·exact (hs.2 b (Nat.ne_of_lt (Nat.lt_of_lt_of_le (Heap.lt_size e) I.ok.above))).trans (I.base.keep b o e n hb hx)
  ·obtain⟨sl,e1⟩:=I.base.slot b o e n hb hx
   exact⟨sl,(hs.2 b (Nat.ne_of_lt (Nat.lt_of_lt_of_le (Heap.lt_size e) I.ok.above))).trans e1⟩
  ·obtain⟨o',e1⟩:=I.base.there b o e hx
   exact⟨o',(hs.2 b (Nat.ne_of_lt (Nat.lt_of_lt_of_le (Heap.lt_size e) I.ok.above))).trans e1⟩
  ·by_cases hj:j=i
   ·subst hj
    rw[hi] at e1;cases e1
    rw[List.getElem?_set_self hiσ] at e2
    cases e2
    exact⟨u,r,.inl ⟨hk,by simp⟩⟩
   ·rw[List.getElem?_set_ne (Ne.symm hj)] at e2
    obtain⟨u',r',q⟩:=hl j y v' e1 e2 e3
    refine⟨u',r',?_⟩
    rcases q with ⟨k,e⟩ | ⟨k,c,e,z⟩
    ·refine .inl ⟨k,?_⟩
     have:y≠x:=λe=>hj (zhz hN e1 (e ▸ hi))
     simp[this,e]
    ·exact .inr ⟨k,c,e,z.sameBut hs (cne y c e)⟩
  ·obtain⟨w',z⟩:=I.cell y c e
   exact⟨w',z.sameBut hs (cne y c e)⟩
  ·obtain⟨e,n,ne,nf,d⟩:=I.pin p hp
   exact⟨(hs.2 p.1 ne).trans e,n,ne,nf,d⟩
 ·have hfn:X.fn x=true:=by
   rcases hf with z | z
   ·exact z
   ·rw[z] at hk;cases hk
  obtain⟨c,hc⟩:=I.ok.has x (.inl hk)
  obtain⟨w',z⟩:=I.cell x c hc
  refine wpAny_storeName_cell I.ok.kind hk hc z (λh' hc' hs=>?_)
  obtain⟨oc,hoc,hocd⟩:=id z
  refine h {s with heap:=h'} ⟨I.ok,I.os,I.bare,⟨λb o e n hb hx=>?_,λb o e n hb hx=>?_,I.base.free,λb o e hx=>?_,I.base.tups,I.base.frzs,I.base.tbls⟩,⟨m,hn.sameBut hs (Ne.symm (cne x c hc)),λj y v' e1 e2 e3=>?_⟩,λy c' e=>?_,I.free,I.freeC,λp hp=>?_,tracked ⟨oc,hoc,I.freeC x c hc⟩ hs,by simpa using I.len⟩ ⟨c,hs,.inr hc⟩
  ·exact (hs.2 b (Nat.ne_of_lt (Nat.lt_of_lt_of_le (Heap.lt_size e) (I.ok.cab x c hfn hc)))).trans (I.base.keep b o e n hb hx)
  ·obtain⟨sl,e1⟩:=I.base.slot b o e n hb hx
   exact⟨sl,(hs.2 b (Nat.ne_of_lt (Nat.lt_of_lt_of_le (Heap.lt_size e) (I.ok.cab x c hfn hc)))).trans e1⟩
  ·obtain⟨o',e1⟩:=I.base.there b o e hx
   exact⟨o',(hs.2 b (Nat.ne_of_lt (Nat.lt_of_lt_of_le (Heap.lt_size e) (I.ok.cab x c hfn hc)))).trans e1⟩
  ·by_cases hj:j=i
   ·subst hj
    rw[hi] at e1;cases e1
    rw[List.getElem?_set_self hiσ] at e2
    cases e2
    exact⟨u,r,.inr ⟨.inl hk,c,hc,hc'⟩⟩
   ·rw[List.getElem?_set_ne (Ne.symm hj)] at e2
    obtain⟨u',r',q⟩:=hl j y v' e1 e2 e3
    refine⟨u',r',?_⟩
    rcases q with q | ⟨k,c',e,z'⟩
    ·exact .inl q
    ·refine .inr ⟨k,c',e,z'.sameBut hs ?_⟩
     rintro rfl
     exact hj (zhz hN e1 (I.ok.inj _ _ _ e hc ▸ hi))
  ·by_cases hcc:c'=c
   ·subst hcc;exact⟨_,hc'⟩
   ·obtain⟨w2,z2⟩:=I.cell y c' e
    exact⟨w2,z2.sameBut hs hcc⟩
  ·obtain⟨e,n,ne,nf,d⟩:=I.pin p hp
   refine⟨(hs.2 p.1 ?_).trans e,n,ne,nf,d⟩
   intro q
   rw[q,hoc] at e
   have q':oc=p.2:=Option.some.inj e
   exact d w' (by rw[<-q'];exact hocd)
theorem zeb {M:Model}{A:Around}{E:Value->Shared->Prop}{i:Nat}{x:Str}{v:V}{u:Value}{Q:Unit->Shared->Prop}(I:Inv X pins σ H s)(hN:X.N.Nodup)(hi:X.N[i]?=some x)(hx:Loc X.env.scope x)(r:RelV v u)
  (h:∀ s',Inv X pins (σ.set i (some v)) H s'->Q () s') (hf:X.fn x=true\/X.env.scope.names.lookup x=some .local:=by first | exact .inl rfl | exact .inr rfl | assumption):wpAny M A (storeName X.env x u) Q E s:=
 zig I hN hi hx r (λs' I' _=>h s' I') hf
theorem Inv.call' {s':Shared}{ch:List Addr}(I:Inv X pins σ H s)(ho:s'.os=s.os)(u:Un (frs X.stack) ch H H' s.heap s'.heap)(hok:HOk X.prog X.w H' s'.heap)(hg:AllBare s'.gens)
  (hch:∀ b∈ch,(b∈X.ex\/X.s₀.heap.objs.size<=b)/\b≠X.env.locals/\(∀ x c,X.env.cells.lookup x=some c->c≠b)/\∀ p∈X.pn++pins,p.1≠b):Inv X pins σ H' s':=by
 obtain⟨h',g',d',t',o'⟩:=s'
 have e:o'=s.os:=ho
 subst e
 exact I.call (g':=g') (t':=t') (d':=d') u hok hg hch
end

abbrev XK:=Value->Option Addr->Hp->Prop
abbrev St:=List (Option V)
abbrev VK:=V->Hp->Prop
abbrev TE:=St->Hp->VK->Prop
abbrev TT:=St->Hp->(Bool->Hp->Prop)->Prop
abbrev TA:=St->Hp->(List V->Hp->Prop)->Prop
structure Ends where
 nx:St->Hp->Prop
 rt:VK
 bk:St->Hp->Prop:=λ_ _=>False
 ct:St->Hp->Prop:=λ_ _=>False
abbrev TS:=Ends->St->Hp->Prop
def EP (X:Cx)(pins:List (Addr × Obj))(σ:St)(Q:VK)(u:Value)(s':Shared):Prop:=∃ v H',Inv X pins σ H' s'/\RelV v u/\Q v H'
def TP (X:Cx)(pins:List (Addr × Obj))(σ:St)(Q:Bool->Hp->Prop)(b:Bool)(s':Shared):Prop:=∃ H',Inv X pins σ H' s'/\Q b H'
def AP (X:Cx)(pins:List (Addr × Obj))(σ:St)(Q:List V->Hp->Prop)(us:List Value)(s':Shared):Prop:=∃ vs H',Inv X pins σ H' s'/\Vals vs us/\Q vs H'
def SP (X:Cx)(pins:List (Addr × Obj))(D:Ends)(f:Flow)(s':Shared):Prop:=
 match f with
 | .next=>∃ σ' H',Inv X pins σ' H' s'/\D.nx σ' H'
 | .brk=>∃ σ' H',Inv X pins σ' H' s'/\D.bk σ' H'
 | .cont=>∃ σ' H',Inv X pins σ' H' s'/\D.ct σ' H'
 | .ret u=>∃ v σ' H',Inv X pins σ' H' s'/\RelV v u/\D.rt v H'
def PE (X:Cx)(e:Expr)(t:TE):Prop:=
 ∀ (pins:List (Addr × Obj)) (s:Shared) (σ:St) (H:Hp) (Q:VK),Inv X pins σ H s->t σ H Q->wpAny (model X.prog X.w) X.A (eval e X.env) (EP X pins σ Q) X.xe s
def PT (X:Cx)(e:Expr)(t:TT):Prop:=
 ∀ (pins:List (Addr × Obj)) (s:Shared) (σ:St) (H:Hp) (Q:Bool->Hp->Prop),Inv X pins σ H s->t σ H Q->wpAny (model X.prog X.w) X.A (isTrue e X.env (eval e X.env)) (TP X pins σ Q) X.xe s
def PW (X:Cx)(e:Expr)(t:TT):Prop:=
 ∀ (whole:Sem Value) (pins:List (Addr × Obj)) (s:Shared) (σ:St) (H:Hp) (Q:Bool->Hp->Prop),Inv X pins σ H s->t σ H Q->wpAny (model X.prog X.w) X.A (isTrue e X.env whole) (TP X pins σ Q) X.xe s
theorem PW.pt {X:Cx}{e:Expr}{t:TT}(h:PW X e t):PT X e t:=h _
def PA (X:Cx)(es:List Expr)(t:TA):Prop:=
 ∀ (pos:Pos) (pins:List (Addr × Obj)) (s:Shared) (σ:St) (H:Hp) (Q:List V->Hp->Prop),Inv X pins σ H s->t σ H Q->wpAny (model X.prog X.w) X.A (spliced (backTo pos (starEach es X.env))) (AP X pins σ Q) X.xe s
def PS (X:Cx)(st:Stmt)(t:TS):Prop:=
 ∀ (pins:List (Addr × Obj)) (s:Shared) (σ:St) (H:Hp) (D:Ends),Inv X pins σ H s->t D σ H->wpAny (model X.prog X.w) X.A (exec st X.env) (SP X pins D) X.xe s
def PSs (X:Cx)(st:List Stmt)(t:TS):Prop:=
 ∀ (pins:List (Addr × Obj)) (s:Shared) (σ:St) (H:Hp) (D:Ends),Inv X pins σ H s->t D σ H->wpAny (model X.prog X.w) X.A (execs st X.env) (SP X pins D) X.xe s
theorem thn {α:Type}{t:Sem α}{Q Q':α->Shared->Prop}{M:Model}{A:Around}{E:Value->Shared->Prop}{s:Shared}(h:wpAny M A t Q E s)(hQ:∀ a s,Q a s->Q' a s):wpAny M A t Q' E s:=wpAny_mono h hQ λ_ _ x=>x
end L2

namespace L2
open PySem PySem.Spec PyProof.Rows
section
variable {X:Cx}

theorem bin {a b:Expr}{ta tb:TE}(ha:PE X a ta)(hb:PE X b tb){pins:List (Addr × Obj)}{s:Shared}{σ:St}{H:Hp}{R:V->V->Hp->Prop}(I:Inv X pins σ H s)(h:ta σ H λx H1=>tb σ H1 λy H2=>R x y H2)
  {α:Type}{Q:α->Shared->Prop}{f:Value->Value->Sem α}
  (hf:∀ v u s2 x y H2,Inv X pins σ H2 s2->RelV x v->RelV y u->R x y H2->wpAny (model X.prog X.w) X.A (f v u) Q X.xe s2) :
  wpAny (model X.prog X.w) X.A (eval a X.env) (λv s₁=>wpAny (model X.prog X.w) X.A (eval b X.env) (λu s₂=>wpAny (model X.prog X.w) X.A (f v u) Q X.xe s₂) X.xe s₁) X.xe s:=by
 refine thn (ha pins s σ H _ I h) λv s1 ⟨x,H1,I1,r1,q1⟩=>?_
 refine thn (hb pins s1 σ H1 _ I1 q1) λu s2 ⟨y,H2,I2,r2,q2⟩=>?_
 exact hf v u s2 x y H2 I2 r1 r2 q2
def tVar (i:Nat):TE:=λσ H Q=>∃ v,σ[i]?=some (some v)/\Q v H
def tC (v:V):TE:=λ_ H Q=>Q v H
theorem zpe {i:Nat}{x:Str}{pos:Pos}(hN:X.N[i]?=some x)(hv:Vis X.env.scope x)(hd:(x == ("__debug__" : Str))=false:=by decide)(hcd:(x == ("__classdict__" : Str))=false:=by decide):PE X (.Name x pos) (tVar i):=by
 intro pins s σ H Q I h
 obtain⟨v,e,h⟩:=h
 obtain⟨m,hn,hl⟩:=I.loc
 obtain⟨u,r,l⟩:=hl i x v hN e hv
 have fin:EP X pins σ Q u s:=⟨v,H,I,r,h⟩
 rcases l with ⟨hk,hm⟩ | ⟨hk,c,hc,hcell⟩
 ·exact wpAny_Name (wpAny_loadName_local I.ok.kind hk hn hm fin) hd
 ·rcases hk with hk | hk
  ·exact wpAny_Name (wpAny_loadName_cell I.ok.kind hk hc hcell fin) hd
  ·exact wpAny_Name (wpAny_loadName_free I.ok.kind hk hc hcell fin hcd) hd
theorem zac {i j pos} : PE X (.Constant (.int i) j pos) (tC (.int i)):=λ_ _ _ H _ I h=>wpAny_Constant_int ⟨.int i,H,I.tok _,⟨_,rfl⟩,h⟩
theorem zdr {b j pos} : PE X (.Constant (.bool b) j pos) (tC (.bl b)):=λ_ _ _ H _ I h=>Constant_bool ⟨.bl b,H,I,rfl,h⟩
theorem zfx {j pos} : PE X (.Constant .none j pos) (tC .non):=λ_ _ _ H _ I h=>Constant_none ⟨.non,H,I,rfl,h⟩
theorem zca {x j pos} : PE X (.Constant (.str x) j pos) (tC (.str x)):=λ_ _ _ H _ I h=>Calls.Constant_str ⟨.str x,H,I.tok _,⟨_,rfl⟩,h⟩
def Gl (X:Cx)(x:Str):Prop:=X.env.kindOf x=some .globalImplicit
theorem zew {E:Value->Shared->Prop}{pins:List (Addr × Obj)}{s:Shared}{σ:St}{H:Hp}{x:Str}{u:Value}{pos:Pos}{Q:Value->Shared->Prop}(I:Inv X pins σ H s)(hg:Gl X x)(hm:X.mg x=some u)(h:Q u s)
  (hd:(x == ("__debug__" : Str))=false:=by decide):wpAny (model X.prog X.w) X.A (eval (.Name x pos) X.env) Q E s:=
 Calls.Name_function_global I.ok.kind hg (Calls.loadGlobal_global (by rw[I.ok.glob];exact I.mod.glob.keeps I.bk) hm h) hd
theorem zg7 {E:Value->Shared->Prop}{pins:List (Addr × Obj)}{s:Shared}{σ:St}{H:Hp}{x:Str}{u:Value}{pos:Pos}{Q:Value->Shared->Prop}(I:Inv X pins σ H s)(hg:Gl X x)(hm:X.mg x=none)(hv:bootBuiltins x=some u)(h:Q u s)
  (hn:x≠ "__name__":=by decide) (hd:(x == ("__debug__" : Str))=false:=by decide):wpAny (model X.prog X.w) X.A (eval (.Name x pos) X.env) Q E s:=by
 obtain⟨mb,h1,h2⟩:=I.mod.blt
 exact Calls.Name_function_global I.ok.kind hg (Calls.loadGlobal_builtin (by rw[I.ok.glob];exact I.mod.glob.keeps I.bk) hm (by rw[I.ok.blt];exact h1.keeps I.bk) ((h2 x hn).trans hv) h) hd
theorem zk7 {x:Str}{v:V}{u:Value}{pos:Pos}(hg:Gl X x)(hm:X.mg x=some u)(r:RelV v u)(hd:(x == ("__debug__" : Str))=false:=by decide):PE X (.Name x pos) (tC v):=
 λ_ _ _ H _ I h=>zew I hg hm ⟨v,H,I,r,h⟩ hd
theorem zfX {x:Str}{v:V}{u:Value}{pos:Pos}(hg:Gl X x)(hm:X.mg x=none)(hv:bootBuiltins x=some u)(r:RelV v u)(hn:x≠ "__name__":=by decide)(hd:(x == ("__debug__" : Str))=false:=by decide):PE X (.Name x pos) (tC v):=
 λ_ _ _ H _ I h=>zg7 I hg hm hv ⟨v,H,I,r,h⟩ hn hd
variable {a b:Expr}{ta tb:TE}{pos:Pos}
def PC (X:Cx)(op:CmpOp)(a b:Expr)(t:TE):Prop:=
 ∀ (pins:List (Addr × Obj)) (s:Shared) (σ:St) (H:Hp) (Q:VK),Inv X pins σ H s->t σ H Q->
  wpAny (model X.prog X.w) X.A (eval a X.env) (λv s₁=>wpAny (model X.prog X.w) X.A (eval b X.env) (λu s₂=>wpAny (model X.prog X.w) X.A (compareOp op v u) (EP X pins σ Q) X.xe s₂) X.xe s₁) X.xe s
def tB (t:TE):TT:=λσ H Q=>t σ H λx H1=>∃ c,x=.bl c/\Q c H1
theorem zg8 {op:CmpOp}{t:TE}(h:PC X op a b t)(h1:behindInMarks op b=false:=by first | exact nobehind _ (by decide) (by decide) | rfl):PT X (.Compare a [op] [b] pos) (tB t):=by
 intro pins s σ H Q I hw
 refine wpAny_isTrue_Compare1 (thn (h pins s σ H _ I hw) λv s1 h1=>thn h1 λu s2 h2=>thn h2 λc s3 ⟨x,H1,I1,r1,q1⟩=>?_) h1
 obtain⟨d,rfl,q⟩:=q1
 cases r1
 exact wpAny_truthy_bool ⟨H1,I1,q⟩
theorem zbP {e:Expr}{t:TE}(h:PE X e t)(he:∀ whole,isTrue e X.env whole=(do let v <-whole;standAt e.pos;holding [v] (truthy v)):=by intro _;rfl):PT X e (tB t):=by
 intro pins s σ H Q I hw
 refine isTrue_plain (thn (h pins s σ H _ I hw) λv s1 ⟨x,H1,I1,r1,q1⟩=>?_) (he _)
 obtain⟨d,rfl,q⟩:=q1
 cases r1
 exact wpAny_truthy_bool ⟨H1,I1,q⟩
variable {tA tB':TT}{rest:List Expr}
def tAnd (t u:TT):TT:=λσ H Q=>t σ H λc H1=>if c=true then u σ H1 Q else Q false H1
def tOr (t u:TT):TT:=λσ H Q=>t σ H λc H1=>if c=true then Q true H1 else u σ H1 Q
def tNot (t:TT):TT:=λσ H Q=>t σ H λc H1=>Q (!c) H1
theorem zk8 (ha:PT X a tA):PW X (.BoolOp .And [a] pos) tA:=by
 intro wh pins s σ H Q I h
 refine isTrue_and (thn (ha pins s σ H Q I h) λc s1 e=>?_)
 cases c with
 | true=>exact isTrue_and_nil e
 | false=>exact e
theorem zfY (ha:PT X a tA):PW X (.BoolOp .Or [a] pos) tA:=by
 intro wh pins s σ H Q I h
 refine isTrue_or (thn (ha pins s σ H Q I h) λc s1 e=>?_)
 cases c with
 | false=>exact isTrue_or_nil e
 | true=>exact e
theorem znM (ha:PT X a tA)(hb:PW X (.BoolOp .And (b::rest) pos) tB'):PW X (.BoolOp .And (a::b::rest) pos) (tAnd tA tB'):=by
 intro wh pins s σ H Q I h
 refine isTrue_and (thn (ha pins s σ H _ I h) λc s1 ⟨H1,I1,q1⟩=>?_)
 cases c with
 | true=>exact hb wh pins s1 σ H1 Q I1 q1
 | false=>exact⟨H1,I1,q1⟩
theorem zhA (ha:PT X a tA)(hb:PW X (.BoolOp .Or (b::rest) pos) tB'):PW X (.BoolOp .Or (a::b::rest) pos) (tOr tA tB'):=by
 intro wh pins s σ H Q I h
 refine isTrue_or (thn (ha pins s σ H _ I h) λc s1 ⟨H1,I1,q1⟩=>?_)
 cases c with
 | true=>exact⟨H1,I1,q1⟩
 | false=>exact hb wh pins s1 σ H1 Q I1 q1
theorem zdD (ha:PT X a tA):PT X (.UnaryOp .Not a pos) (tNot tA):=by
 intro pins s σ H Q I h
 exact isTrue_not (ha pins s σ H (λc H1=>Q (!c) H1) I h)
def zpf (ta tb:TE):TE:=λσ H Q=>ta σ H λx H1=>∃ c,x=.bl c/\if c=true then tb σ H1 Q else Q (.bl false) H1
theorem zb0 {op}{t:TE}(h:PE X a t):PE X (.BoolOp op [a] pos) t:=λpins s σ H Q I hw=>BoolOp_one (h pins s σ H Q I hw)
theorem zbA (ha:PE X a ta)(hb:PE X (.BoolOp .And (b::rest) pos) tb):PE X (.BoolOp .And (a::b::rest) pos) (zpf ta tb):=by
 intro pins s σ H Q I h
 refine BoolOp_and (thn (ha pins s σ H _ I h) λv s1 ⟨x,H1,I1,r1,q1⟩=>?_)
 obtain⟨c,rfl,q1⟩:=q1
 cases r1
 refine wpAny_truthy_bool ?_
 cases c with
 | true=>exact hb pins s1 σ H1 Q I1 q1
 | false=>exact⟨.bl false,H1,I1,rfl,q1⟩
def tIf (t:TT)(ta tb:TE):TE:=λσ H Q=>t σ H λc H1=>if c=true then ta σ H1 Q else tb σ H1 Q
theorem zjV {c:Expr}(hc:PT X c tA)(ha:PE X a ta)(hb:PE X b tb):PE X (.IfExp c a b pos) (tIf tA ta tb):=by
 intro pins s σ H Q I h
 refine wpAny_IfExp (thn (hc pins s σ H _ I h) λd s1 ⟨H1,I1,q1⟩=>?_)
 cases d with
 | true=>exact ha pins s1 σ H1 Q I1 q1
 | false=>exact hb pins s1 σ H1 Q I1 q1
end
end L2

namespace L2
open PySem PySem.Spec PyProof.Rows

def SqL (K:Fg)(H:Hp)(a:Addr)(xs:List V):Prop:=
 Rd H a (.lst xs)\/
  ∃ (o:Obj) (its:Array Value) (n:Nat),K.lookup a=some o/\o.cls=.type "list" /\o.dict=none/\o.data=.seq its n/\its.size<=sizeLine/\Vals xs its.toList
def SqT (K:Fg)(H:Hp)(a:Addr)(xs:List V):Prop:=
 Rd H a (.tup xs)\/
  ∃ (o:Obj) (its:Array Value) (n:Nat),K.lookup a=some o/\o.cls=.type "tuple" /\o.data=.seq its n/\its.size<=sizeLine/\Vals xs its.toList
def absV:Value->Option V
 | .none=>some .non
 | .bool b=>some (.bl b)
 | .int i _=>some (.int i)
 | .str x _=>some (.str x)
 | .bytes b _=>some (.byt b)
 | .float b _=>some (.flt b)
 | .ref a=>some (.ref a)
 | .type n=>some (.ty n)
 | _=>none
theorem RelV.abs {x:V}{u:Value}(r:RelV x u):absV u=some x:=by
 cases x with
 | non=>cases r;rfl
 | bl _=>cases r;rfl
 | int _=>obtain⟨t,rfl⟩:=r;rfl
 | str _=>obtain⟨t,rfl⟩:=r;rfl
 | byt _=>obtain⟨t,rfl⟩:=r;rfl
 | flt _=>obtain⟨t,rfl⟩:=r;rfl
 | ref _=>cases r;rfl
 | ty _=>cases r;rfl
theorem RelV.inj {x y:V}{u:Value}(r:RelV x u)(q:RelV y u):x=y:=Option.some.inj (r.abs.symm.trans q.abs)
theorem Vals.inj:∀ {xs ys:List V}{us:List Value},Vals xs us->Vals ys us->xs=ys
 | _,_,_,.nil,.nil=>rfl
 | _,_,_,.cons r t,.cons r' t'=>by rw[r.inj r',Vals.inj t t']
section
variable {X:Cx}{pins:List (Addr × Obj)}{σ:St}{H:Hp}{s:Shared}{a:Addr}{xs ys:List V}
theorem SqL.of {K:Fg}(h:H a=some (.lst xs)):SqL K H a xs:=.inl (.inl h)
theorem SqT.of {K:Fg}(h:H a=some (.tup xs)):SqT K H a xs:=.inl (.inl h)
theorem Inv.list (I:Inv X pins σ H s)(h:SqL X.K H a xs):∃ its:List Value,Vals xs its/\PlainL s.heap a its.toArray/\xs.length<=sizeLine:=by
 rcases h with h | ⟨o,its,n,hk,hc,hd,hs,hz,r⟩
 ·obtain⟨z,its,n,r,e⟩:=h.ok I.hok
  exact⟨its,r,⟨_,n,e,rfl,rfl,rfl⟩,z⟩
 ·refine⟨its.toList,r,⟨o,n,I.kIn a o hk,hc,hd,by simpa using hs⟩,?_⟩
  have e:=r.length
  simp only[Array.length_toList] at e
  omega
theorem Inv.tuple (I:Inv X pins σ H s)(h:SqT X.K H a xs):∃ its:List Value,Vals xs its/\IsTup s.heap a its.toArray/\xs.length<=sizeLine:=by
 rcases h with h | ⟨o,its,n,hk,hc,hs,hz,r⟩
 ·obtain⟨z,its,r,p⟩:=h.ok I.hok
  exact⟨its,r,p,z⟩
 ·refine⟨its.toList,r,⟨o,I.kIn a o hk,hc,n,by simpa using hs⟩,?_⟩
  have e:=r.length
  simp only[Array.length_toList] at e
  omega
theorem Inv.list_inj (I:Inv X pins σ H s)(h:SqL X.K H a xs)(h':SqL X.K H a ys):xs=ys:=by
 obtain⟨its,r,⟨o,n,e,_,_,d⟩,_⟩:=I.list h
 obtain⟨its',r',⟨o',n',e',_,_,d'⟩,_⟩:=I.list h'
 rw[e] at e';cases e'
 rw[d] at d'
 injection d' with d1 _
 have:its=its':=by simpa using congrArg Array.toList d1
 subst this
 exact r.inj r'
theorem Inv.tuple_inj (I:Inv X pins σ H s)(h:SqT X.K H a xs)(h':SqT X.K H a ys):xs=ys:=by
 obtain⟨its,r,⟨o,e,_,n,d⟩,_⟩:=I.tuple h
 obtain⟨its',r',⟨o',e',_,n',d'⟩,_⟩:=I.tuple h'
 rw[e] at e';cases e'
 rw[d] at d'
 injection d' with d1 _
 have:its=its':=by simpa using congrArg Array.toList d1
 subst this
 exact r.inj r'
end

abbrev Cx.wish (X:Cx)(E:Value->Shared->Prop):Cx:={X with xe:=E}
abbrev Cx.nox (X:Cx):Cx:=X.wish λ_ _=>False
theorem Cx.Ok.wish {X:Cx}(ok:X.Ok)(E:Value->Shared->Prop):(X.wish E).Ok:=
 ⟨ok.mod,ok.kind,ok.glob,ok.blt,ok.above,ok.inj,ok.has,ok.cab,ok.hd,ok.frames,ok.stk,ok.exf,ok.bs,ok.bsz,ok.noex,ok.exfs,ok.funs,ok.frf⟩
theorem Cx.Ok.unwish {X:Cx}{E:Value->Shared->Prop}(ok:(X.wish E).Ok):X.Ok:=
 ⟨ok.mod,ok.kind,ok.glob,ok.blt,ok.above,ok.inj,ok.has,ok.cab,ok.hd,ok.frames,ok.stk,ok.exf,ok.bs,ok.bsz,ok.noex,ok.exfs,ok.funs,ok.frf⟩
section
variable {X:Cx}{pins:List (Addr × Obj)}{σ:St}{H:Hp}{s:Shared}{E:Value->Shared->Prop}
theorem Inv.wish (I:Inv X pins σ H s)(E:Value->Shared->Prop):Inv (X.wish E) pins σ H s:=⟨I.ok.wish E,I.os,I.bare,I.base,I.loc,I.cell,I.free,I.freeC,I.pin,I.hok,I.len⟩
theorem Inv.unwish (I:Inv (X.wish E) pins σ H s):Inv X pins σ H s:=⟨I.ok.unwish,I.os,I.bare,I.base,I.loc,I.cell,I.free,I.freeC,I.pin,I.hok,I.len⟩
theorem SP.unwish {D:Ends}{f:Flow}{s':Shared}(h:SP (X.wish E) pins D f s'):SP X pins D f s':=by
 cases f with
 | next=>obtain⟨σ',H',I,q⟩:=h;exact⟨σ',H',I.unwish,q⟩
 | brk=>obtain⟨σ',H',I,q⟩:=h;exact⟨σ',H',I.unwish,q⟩
 | cont=>obtain⟨σ',H',I,q⟩:=h;exact⟨σ',H',I.unwish,q⟩
 | ret u=>obtain⟨v,σ',H',I,r,q⟩:=h;exact⟨v,σ',H',I.unwish,r,q⟩
theorem PSs.nox {st:List Stmt}{t:TS}(h:PSs X.nox st t):PSs X st t:=λpins s σ H D I hw=>
 wpAny_mono (h pins s σ H D (I.wish _) hw) (λ_ _ q=>q.unwish) λ_ _ z=>False.elim z
end

section
variable {X:Cx}{st:Stmt}{rest:List Stmt}{t u:TS}{e:Expr}{te:TE}{pos:Pos}
def zmO:TS:=λD σ H=>D.nx σ H
def tSeq (t u:TS):TS:=λD σ H=>t {D with nx:=u D} σ H
theorem zav:PSs X [] zmO:=λ_ _ σ H _ I h=>wpAny_execs_nil ⟨σ,H,I,h⟩
theorem zae (h1:PS X st t)(h2:PSs X rest u):PSs X (st::rest) (tSeq t u):=by
 intro pins s σ H D I h
 refine wpAny_execs_cons (thn (h1 pins s σ H {D with nx:=u D} I h) λf s1 q=>?_)
 cases f with
 | next=>
  obtain⟨σ',H',I',q⟩:=q
  exact h2 pins s1 σ' H' D I' q
 | ret v=>exact q
 | brk=>exact q
 | cont=>exact q
theorem zai (h1:PS X st t):PSs X [st] t:=by
 intro pins s σ H D I h
 refine wpAny_execs_cons (thn (h1 pins s σ H D I h) λf s1 q=>?_)
 cases f with
 | next=>exact wpAny_execs_nil q
 | ret v=>exact q
 | brk=>exact q
 | cont=>exact q
theorem Inv.quiet {pins:List (Addr × Obj)}{σ:St}{H:Hp}{s:Shared}(I:Inv X pins σ H s):interactive X.env=false:=by simp[interactive,I.ok.kind]
def zof (te:TE):TS:=λD σ H=>te σ H λ_ H1=>D.nx σ H1
theorem zbd (he:PE X e te)(hs:swapsWith e none pos.line X.env=pure false:=by rfl):PS X (.Expr e pos) (zof te):=by
 intro pins s σ H D I h
 exact wpAny_Expr_any (thn (he pins s σ H _ I h) λv s1 ⟨x,H1,I1,r1,q1⟩=>⟨σ,H1,I1,q1⟩) I.quiet hs
def tRet (te:TE):TS:=λD σ H=>te σ H D.rt
theorem zan (he:PE X e te):PS X (.Return (some e) pos) (tRet te):=by
 intro pins s σ H D I h
 exact wpAny_Return_some (thn (he pins s σ H _ I h) λv s1 ⟨x,H1,I1,r1,q1⟩=>⟨x,σ,H1,I1,r1,q1⟩)
def tIfS (c:TT)(t u:TS):TS:=λD σ H=>c σ H λb H1=>if b=true then t D σ H1 else u D σ H1
theorem za2 {c:Expr}{a b:List Stmt}{tc:TT}(hc:PT X c tc)(ha:PSs X a t)(hb:PSs X b u):PS X (.If c a b pos) (tIfS tc t u):=by
 intro pins s σ H D I h
 refine wpAny_If (thn (hc pins s σ H _ I h) λd s1 ⟨H1,I1,q1⟩=>?_)
 cases d with
 | true=>exact ha pins s1 σ H1 D I1 q1
 | false=>exact hb pins s1 σ H1 D I1 q1
def zpg:TS:=λ_ _ _=>False
end

abbrev TG:=V->St->Hp->(St->Hp->Prop)->Prop
abbrev TGs:=List V->St->Hp->(St->Hp->Prop)->Prop
def PG (X:Cx)(target:Expr)(t:TG):Prop:=
 ∀ (pins:List (Addr × Obj)) (s:Shared) (σ:St) (H:Hp) (v:V) (u:Value) (Q:St->Hp->Prop),Inv X pins σ H s->RelV v u->t v σ H Q->
  wpAny (model X.prog X.w) X.A (assign target X.env u) (λ_ s'=>∃ σ' H',Inv X pins σ' H' s'/\Q σ' H') X.xe s
def PGs (X:Cx)(ts:List Expr)(t:TGs):Prop:=
 ∀ (pins:List (Addr × Obj)) (s:Shared) (σ:St) (H:Hp) (vs:List V) (us:List Value) (Q:St->Hp->Prop),Inv X pins σ H s->Vals vs us->t vs σ H Q->
  wpAny (model X.prog X.w) X.A (assignInOrder ((assignEach ts X.env).map (·.2)) us) (λ_ s'=>∃ σ' H',Inv X pins σ' H' s'/\Q σ' H') X.xe s
abbrev TSet:=V->V->V->Hp->(Hp->Prop)->Prop
def PSet (X:Cx)(t:TSet):Prop:=
 ∀ (pins:List (Addr × Obj)) (s:Shared) (σ:St) (H:Hp) (o i v:V) (ov iv u:Value) (Q:Hp->Prop),Inv X pins σ H s->RelV o ov->RelV i iv->RelV v u->t o i v H Q->
  wpAny (model X.prog X.w) X.A (setItem ov iv u) (λ_ s'=>∃ H',Inv X pins σ H' s'/\Q H') X.xe s
section
variable {X:Cx}{pos:Pos}
def zmP (i:Nat):TG:=λv σ H Q=>Q (σ.set i (some v)) H
theorem zas {i:Nat}{x:Str}(hN:X.N.Nodup)(hi:X.N[i]?=some x)(hx:Loc X.env.scope x)(hf:X.fn x=true\/X.env.scope.names.lookup x=some .local:=by first | exact .inl rfl | exact .inr rfl | assumption):PG X (.Name x pos) (zmP i):=by
 intro pins s σ H v u Q I r h
 exact wpAny_assign_Name (zeb I hN hi hx r (λs' I'=>⟨_,H,I',h⟩) hf)
def gNil:TGs:=λvs σ H Q=>vs=[]/\Q σ H
inductive ConsI (vs:List V)(P:V->List V->Prop):Prop
 | mk (v:V) (r:List V) (e:vs=v::r) (q:P v r):ConsI vs P
def gCons (t:TG)(u:TGs):TGs:=λvs σ H Q=>ConsI vs λv r=>t v σ H λσ' H'=>u r σ' H' Q
theorem zjf:PGs X [] gNil:=by
 intro pins s σ H vs us Q I r h
 obtain⟨e,h⟩:=h
 subst e
 cases r
 exact assignInOrder_nil ⟨σ,H,I,h⟩
theorem zec {e:Expr}{es:List Expr}{t:TG}{u:TGs}(h1:PG X e t)(h2:PGs X es u)
  (hs:(assignEach (e::es) X.env).map (·.2)=assign e X.env::(assignEach es X.env).map (·.2):=by rfl):PGs X (e::es) (gCons t u):=by
 intro pins s σ H vs us Q I r h
 obtain⟨v,vr,e1,h⟩:=h
 subst e1
 cases r with
 | cons r rr=>
  rw[hs]
  refine assignInOrder_cons (thn (h1 pins s σ H _ _ _ I r h) λ_ s1 ⟨σ1,H1,I1,q1⟩=>?_)
  exact h2 pins s1 σ1 H1 _ _ Q I1 rr q1
inductive TupI (K:Fg)(n:Nat)(v:V)(H:Hp)(P:List V->Prop):Prop
 | mk (a:Addr) (xs:List V) (e:v=.ref a) (h:SqT K H a xs) (l:xs.length=n) (q:P xs):TupI K n v H P
def gTup (K:Fg)(n:Nat)(t:TGs):TG:=λv σ H Q=>TupI K n v H λxs=>t xs σ H Q
theorem zph {es:List Expr}{k:Nat}{t:TGs}{n:Nat}(hc:X.calm=true)(h:PGs X es t)
  (hn:(assignEach es X.env).length=n:=by rfl) (hst:(assignEach es X.env).findIdx? (·.1)=none:=by rfl):PG X (.Tuple es k pos) (gTup X.K n t):=by
 intro pins s σ H v u Q I r hw
 obtain⟨a,xs,e1,hq,hl,hw⟩:=hw
 subst e1
 cases r
 obtain⟨its,rv,ht,hz⟩:=I.tuple hq
 refine assign_Tuple_tuple (I.ok.hd hc) ht (by simp[hn,<-hl,rv.length]) hst λh' hx=>?_
 have I1:Inv X pins σ H {s with heap:=h'}:=I.kept (t':=s.toks) λb o e=>hx b o (Nat.ne_of_lt (Heap.lt_size e)) e
 exact h pins _ σ H xs _ Q I1 (by simpa using rv) hw
def gSub (to ti:TE)(t:TSet):TG:=λv σ H Q=>to σ H λo H1=>ti σ H1 λi H2=>t o i v H2 λH3=>Q σ H3
theorem zk9 {o i:Expr}{to ti:TE}{t:TSet}(ho:PE X o to)(hi:PE X i ti)(hs:PSet X t)
  (ha:∀ v,assign (.Subscript o i pos) X.env v=(do
   let ov <-holding [v] (eval o X.env)
   let iv <-holding [v,ov] (eval i X.env)
   standAt pos
   holding [v,ov,iv] (setItem ov iv v)
   release [v,ov,iv] []):=by intro _;rfl):PG X (.Subscript o i pos) (gSub to ti t):=by
 intro pins s σ H v u Q I r h
 rw[ha]
 refine wpAny_bind (wpAny_holding (thn (ho pins s σ H _ I h) λov s1 ⟨x,H1,I1,r1,q1⟩=>?_))
 refine wpAny_bind (wpAny_holding (thn (hi pins s1 σ H1 _ I1 q1) λiv s2 ⟨y,H2,I2,r2,q2⟩=>?_))
 refine wpAny_bind (wpAny_standAt (wpAny_bind (wpAny_holding (thn (hs pins s2 σ H2 x y v ov iv u _ I2 r1 r2 r q2) λ_ s3 ⟨H3,I3,q3⟩=>?_))))
 exact wpAny_release ⟨σ,H3,I3,q3⟩
def tAsg (te:TE)(g:TG):TS:=λD σ H=>te σ H λx H1=>g x σ H1 D.nx
theorem zla {tg e:Expr}{te:TE}{g:TG}(he:PE X e te)(hg:PG X tg g)(hs:swapsWithSole [tg] e pos.line X.env=pure false:=by rfl)(hw:swappedStores [tg] e X.env=pure none:=by rfl)
  (h1:(assignEach [tg] X.env).map (·.2)=[assign tg X.env]:=by rfl):PS X (.Assign [tg] e pos) (tAsg te g):=by
 intro pins s σ H D I h
 refine wpAny_Assign_stores (thn (he pins s σ H _ I h) λv s1 ⟨x,H1,I1,r1,q1⟩=>?_) hs hw
 rw[h1]
 exact thn (hg pins s1 σ H1 x v _ I1 r1 q1) λ_ s2 q=>q
theorem zau {i:Nat}{x:Str}{e:Expr}{te:TE}{pos':Pos}(hN:X.N.Nodup)(hi:X.N[i]?=some x)(hx:Loc X.env.scope x)(he:PE X e te)(hs:swapsWith e (some (.Name x pos')) pos.line X.env=pure false:=by rfl)(hf:X.fn x=true\/X.env.scope.names.lookup x=some .local:=by first | exact .inl rfl | exact .inr rfl | assumption) :
  PS X (.Assign [.Name x pos'] e pos) (tAsg te (zmP i)):=by
 intro pins s σ H D I h
 refine wpAny_Assign_Name (thn (he pins s σ H _ I h) λv s1 ⟨y,H1,I1,r1,q1⟩=>?_) hs
 exact zeb I1 hN hi hx r1 (λs2 I2=>⟨_,H1,I2,q1⟩) hf
def tPar (i j:Nat)(ta:TA):TS:=λD σ H=>ta σ H λvs H1=>∃ v w,vs=[v,w]/\D.nx ((σ.set i (some v)).set j (some w)) H1
theorem zpi {i j:Nat}{x y:Str}{a b:Expr}{ta:TA}{px py pt:Pos}{kt k2 pt2}(hc:X.calm=true)(hN:X.N.Nodup)(hi:X.N[i]?=some x)(hj:X.N[j]?=some y)(hij:i≠j)
  (hx:X.env.scope.names.lookup x=some .local) (hy:X.env.scope.names.lookup y=some .local) (ha:PA X [a,b] ta)
  (hw:swappedStores [.Tuple [.Name x px,.Name y py] kt pt] (.Tuple [a,b] k2 pt2) X.env=pure (some [x,y]))
  (hs:swapsWithSole [.Tuple [.Name x px,.Name y py] kt pt] (.Tuple [a,b] k2 pt2) pos.line X.env=pure false:=by rfl) :
  PS X (.Assign [.Tuple [.Name x px,.Name y py] kt pt] (.Tuple [a,b] k2 pt2) pos) (tPar i j ta):=by
 intro pins s σ H D I h
 rw[exec_Assign_arm]
 refine wpAny_bind (wpAny_standAt ?_)
 rw[hs]
 refine wpAny_bind (wpAny_pure ?_)
 rw[if_neg (by decide)]
 refine wpAny_bind (Tuple_ (thn (ha _ pins s σ H _ I h) λus s1 ⟨vs,H1,I1,r1,q1⟩=>?_))
 obtain⟨v,w,e1,q1⟩:=q1
 subst e1
 obtain⟨u1,u2,rfl,rv,rw'⟩:∃ u1 u2,us=[u1,u2]/\RelV v u1/\RelV w u2:=by
  cases r1 with
  | cons p q=>
   cases q with
   | cons p' q'=>
    cases q'
    exact⟨_,_,rfl,p,p'⟩
 refine wpAny_newObj_type ?_ (by show 2<=sizeLine;decide)
 have I2:Inv X pins σ H1 {s1 with heap:=s1.heap.push {cls:=.type "tuple",data:=.seq [u1,u2].toArray}}:=I1.kept (t':=s1.toks) λb o e=>Heap.get?_push_of_some _ e
 rw[hw]
 refine wpAny_bind (wpAny_pure ?_)
 show wpAny (model X.prog X.w) X.A (do rule "assign.swapped-stores";let items <-unpackItems (.ref s1.heap.objs.size) 2 none;assignInOrder [λv=>bindName X.env y v,λv=>bindName X.env x v] items.reverse;pure Flow.next) _ _ _
 refine wpAny_bind (wpAny_rule (wpAny_bind (unpackItems_tuple (items:=#[u1,u2]) (I.ok.hd hc) (IsTup.new s1.heap _) λh' hx'=>?_)))
 have I3:=I2.kept (h':=h') (t':=s1.toks) λb o e=>hx' b o (Nat.ne_of_lt (Heap.lt_size e)) e
 show wpAny _ _ (assignInOrder [λv=>bindName X.env y v,λv=>bindName X.env x v] [u2,u1] >>= λ_=>pure Flow.next) _ _ _
 refine wpAny_bind (assignInOrder_cons (wpAny_bindName (zeb I3 hN hj (.inl hy) rw' (λs2 I4=>?_) (.inr hy))))
 refine assignInOrder_cons (wpAny_bindName (zeb I4 hN hi (.inl hx) rv (λs3 I5=>assignInOrder_nil (wpAny_pure ?_)) (.inr hx)))
 rw[List.set_comm _ _ (Ne.symm hij)] at I5
 exact⟨_,H1,I5,q1⟩
end

section
variable {X:Cx}{pos:Pos}
end

structure It where
 go:Nat->Hp->Prop
 yld:Nat->Hp->V->Hp->Prop
 stop:Nat->Hp->Prop
def FpOk (X:Cx)(pins:List (Addr × Obj))(H:Hp)(b:Addr):Prop:=
 H b=none/\b≠X.env.locals/\b∉X.fs/\(b∈X.ex\/X.s₀.heap.objs.size<=b)/\(∀ x c,X.env.cells.lookup x=some c->c≠b)/\∀ p∈X.pn++pins,p.1≠b
theorem Inv.fpOk {X:Cx}{pins:List (Addr × Obj)}{σ:St}{H H':Hp}{s:Shared}{b:Addr}(I:Inv X pins σ H s)(hb:s.heap.objs.size<=b)(hn:H' b=none):FpOk X pins H' b:=by
 refine⟨hn,Nat.ne_of_gt (Nat.lt_of_lt_of_le I.lt hb),I.nofs hb,.inr (Nat.le_trans I.sz hb),λx c e z=>?_,λp hp z=>?_⟩
 ·obtain⟨v,q⟩:=I.cell x c e
  exact absurd (Nat.lt_of_lt_of_le q.lt (by rw[z];exact hb)) (Nat.lt_irrefl _)
 ·exact absurd (Nat.lt_of_lt_of_le (Heap.lt_size (I.pin p hp).1) (by rw[z];exact hb)) (Nat.lt_irrefl _)
structure Turn (P:Program)(w:World)(K:Fg)(tg:Expr)(J:It)(fp:List Addr)(it:Addr)(tn:Nat->Heap->Prop):Prop where
 mem:it∈fp
 obj:∀ i h,tn i h->∀ b∈fp,∃ o,h.get? b=some o/\∀ v,o.data≠.cell v
 keep:∀ i h h',tn i h->(∀ b∈fp,∀ o,h.get? b=some o->h'.get? b=some o)->tn i h'
 item:∀ (X:Cx),X.prog=P->X.w=w->X.K=K->X.calm=true->∀ (i:Nat) (pins:List (Addr × Obj)) (s:Shared) (σ:St) (H:Hp) (E:Value->Shared->Prop),Inv X pins σ H s->(∀ b∈fp,FpOk X pins H b)->tn i s.heap->J.go i H->
  wpAny (model P w) X.A (pyNext (.ref it)) (λr s1=>∃ u,r=some u/\
   wpAny (model P w) X.A (letOwnedTupleGo tg (.ref it) u) (λ_ s2=>∃ x H',Inv X pins σ H' s2/\RelV x u/\J.yld i H x H'/\tn (i+1) s2.heap/\∀ b∈fp,H' b=none) E s1) E s
 done:∀ (X:Cx),X.prog=P->X.w=w->X.K=K->X.calm=true->∀ (i:Nat) (pins:List (Addr × Obj)) (s:Shared) (σ:St) (H:Hp) (E:Value->Shared->Prop),Inv X pins σ H s->(∀ b∈fp,FpOk X pins H b)->tn i s.heap->J.stop i H->
  wpAny (model P w) X.A (pyNext (.ref it)) (λr s1=>r=none/\Inv X pins σ H s1) E s
 self:∀ (A:Around) (i:Nat) (s:Shared) (Q:Value->Shared->Prop) (E:Value->Shared->Prop),tn i s.heap->Q (.ref it) s->wpAny (model P w) A (pyIter (.ref it)) Q E s
abbrev TI:=St->Hp->(It->Hp->Prop)->Prop
def PIE (X:Cx)(pins:List (Addr × Obj))(σ:St)(tg:Expr)(R:It->Hp->Prop)(itv:Value)(s2:Shared):Prop:=
 ∃ (it:Addr) (fp:List Addr) (tn:Nat->Heap->Prop) (J:It) (H':Hp),itv=.ref it/\Inv X pins σ H' s2/\Turn X.prog X.w X.K tg J fp it tn/\tn 0 s2.heap/\(∀ b∈fp,FpOk X pins H' b)/\R J H'
def PI (X:Cx)(tg iter:Expr)(wi:TI):Prop:=
 ∀ (pins:List (Addr × Obj)) (s:Shared) (σ:St) (H:Hp) (R:It->Hp->Prop),Inv X pins σ H s->wi σ H R->
  wpAny (model X.prog X.w) X.A (eval iter X.env) (λv s1=>wpAny (model X.prog X.w) X.A (pyIter v) (PIE X pins σ tg R) X.xe s1) X.xe s
theorem zmQ {M:Model}{A:Around}{E:Value->Shared->Prop}{s:Shared}{tg:Expr}{it:Addr}{u:Value}{o:Obj}{n:String}{vs:Array Value}{Q:Unit->Shared->Prop}(ho:s.heap.get? it=some o)(hc:o.cls=.type n)(hd:o.data=.fields vs)
    (hn:["enumerate","zip","dict_itemiterator","dict_reverseitemiterator","odict_iterator","itertools.zip_longest","itertools.pairwise"].contains n=false) (hQ:Q () s):wpAny M A (letOwnedTupleGo tg (.ref it) u) Q E s:=by
  unfold letOwnedTupleGo
  cases tg <;> first
    | exact wpAny_pure hQ
    | (cases u <;> first
        | exact wpAny_pure hQ
        | (refine wpAny_bind (wpAny_load ho ?_)
           rw[hc,hd]
           show wpAny M A (if (["enumerate","zip","dict_itemiterator","dict_reverseitemiterator","odict_iterator","itertools.zip_longest","itertools.pairwise"].contains n && vs[0]? == some (rawInt _))=true then _ else _) Q E s
           rw[if_neg (by intro h;rw[hn,Bool.false_and] at h;cases h)]
           exact wpAny_pure hQ))
def Itl (K:Fg)(a:Addr):It:=
 ⟨λi H=>∃ xs x,SqL K H a xs/\xs[i]?=some x,λi H x H'=>H'=H/\∀ xs,SqL K H a xs->xs[i]?=some x,λi H=>∃ xs,SqL K H a xs/\xs.length<=i⟩
def Itt (K:Fg)(a:Addr):It:=
 ⟨λi H=>∃ xs x,SqT K H a xs/\xs[i]?=some x,λi H x H'=>H'=H/\∀ xs,SqT K H a xs->xs[i]?=some x,λi H=>∃ xs,SqT K H a xs/\xs.length<=i⟩
def Itr (lo:Int)(n:Nat):It:=⟨λi _=>i<n,λi H x H'=>H'=H/\x=.int (lo+i),λi _=>n<=i⟩
theorem zlb {P:Program}{w:World}{K:Fg}{tg:Expr}(a it:Addr):Turn P w K tg (Itl K a) [it] it (λi h=>h.IsListIter it a i) where
 mem:=by simp
 obj:=λi h st b hb=>by
  have e:b=it:=by simpa using hb
  subst e
  obtain⟨o,e,c,d⟩:=st
  exact⟨o,e,λv z=>by rw[d] at z;cases z⟩
 keep:=λi h h' st k=>st.at λo e=>k it (by simp) o e
 item:=by
  intro X hP hw hK hc i pins s σ H E I hf st hg
  subst hP hw hK
  obtain⟨xs,x,hq,hx⟩:=hg
  obtain⟨its,rv,p,hz⟩:=I.list hq
  obtain⟨u,hu,ru⟩:=rv.get hx
  obtain⟨f0,f1,f2,f3,f4,f5⟩:=hf it (by simp)
  refine wpAny_pyNext_list_item st p.isList (x:=u) (by simpa using hu) λh' st' sb=>?_
  have I1:Inv X pins σ H {s with heap:=h'}:=I.turned (t':=s.toks) (λb o hb e=>(sb.2 b hb).trans e) f0 f1 f3 f4 f5
  obtain⟨o,e,c,d⟩:=id st'
  exact⟨u,rfl,zmQ (s:={s with heap:=h'}) e c d (by decide) ⟨x,H,I1,ru,⟨rfl,λys hy=>by rw[I.list_inj hy hq];exact hx⟩,st',λb hb=>(hf b hb).1⟩⟩
 done:=by
  intro X hP hw hK hc i pins s σ H E I hf st hg
  subst hP hw hK
  obtain⟨xs,hq,hx⟩:=hg
  obtain⟨its,rv,p,hz⟩:=I.list hq
  obtain⟨f0,f1,f2,f3,f4,f5⟩:=hf it (by simp)
  have hl:=rv.length
  exact wpAny_pyNext_list_end (I.ok.hd hc) st p.isList (by simp;omega) λh' eb=>⟨rfl,I.turned (t':=s.toks) (λb o hb e=>eb b o hb e) f0 f1 f3 f4 f5⟩
 self:=λ_ _ _ _ _ st h=>wpAny_pyIter_listiter st h
theorem zko {P:Program}{w:World}{K:Fg}{tg:Expr}(a it:Addr):Turn P w K tg (Itt K a) [it] it (λi h=>h.IsTupleIter it a i) where
 mem:=by simp
 obj:=λi h st b hb=>by
  have e:b=it:=by simpa using hb
  subst e
  obtain⟨o,e,c,d⟩:=st
  exact⟨o,e,λv z=>by rw[d] at z;cases z⟩
 keep:=λi h h' st k=>st.at λo e=>k it (by simp) o e
 item:=by
  intro X hP hw hK hc i pins s σ H E I hf st hg
  subst hP hw hK
  obtain⟨xs,x,hq,hx⟩:=hg
  obtain⟨its,rv,p,hz⟩:=I.tuple hq
  obtain⟨u,hu,ru⟩:=rv.get hx
  obtain⟨f0,f1,f2,f3,f4,f5⟩:=hf it (by simp)
  refine wpAny_pyNext_tuple_item st (show s.heap.IsTuple a its.toArray from p) (x:=u) (by simpa using hu) λh' st' sb=>?_
  have I1:Inv X pins σ H {s with heap:=h'}:=I.turned (t':=s.toks) (λb o hb e=>(sb.2 b hb).trans e) f0 f1 f3 f4 f5
  obtain⟨o,e,c,d⟩:=id st'
  exact⟨u,rfl,zmQ (s:={s with heap:=h'}) e c d (by decide) ⟨x,H,I1,ru,⟨rfl,λys hy=>by rw[I.tuple_inj hy hq];exact hx⟩,st',λb hb=>(hf b hb).1⟩⟩
 done:=by
  intro X hP hw hK hc i pins s σ H E I hf st hg
  subst hP hw hK
  obtain⟨xs,hq,hx⟩:=hg
  obtain⟨its,rv,p,hz⟩:=I.tuple hq
  obtain⟨f0,f1,f2,f3,f4,f5⟩:=hf it (by simp)
  have hl:=rv.length
  exact wpAny_pyNext_tuple_end (I.ok.hd hc) st (show s.heap.IsTuple a its.toArray from p) (by simp;omega) λh' eb=>⟨rfl,I.turned (t':=s.toks) (λb o hb e=>eb b o hb e) f0 f1 f3 f4 f5⟩
 self:=λ_ _ _ _ _ st h=>wpAny_pyIter_tupleiter st h
theorem zg9 {P:Program}{w:World}{K:Fg}{tg:Expr}(it:Addr)(lo:Int)(n:Nat):Turn P w K tg (Itr lo n) [it] it (λi h=>IsRangeIter h it (lo+(i:Nat) * 1) ((n:Int) - (i:Nat)) 1) where
 mem:=by simp
 obj:=λi h st b hb=>by
  have e:b=it:=by simpa using hb
  subst e
  exact⟨_,st,λv z=>by
   have z':Data.fields _=Data.cell v:=z
   cases z'⟩
 keep:=λi h h' st k=>k it (by simp) _ st
 item:=by
  intro X hP hw hK hc i pins s σ H E I hf st hg
  subst hP hw hK
  obtain⟨f0,f1,f2,f3,f4,f5⟩:=hf it (by simp)
  have W:=Walks.range (prog:=X.prog) (w:=X.w) (I.ok.hd hc) it lo 1 n
  refine W.item i s _ _ hg st λv h' tk hv st' kk=>?_
  obtain⟨t,rfl⟩:=hv
  have I1:Inv X pins σ H {s with heap:=h',toks:=tk}:=I.turned (λb o hb e=>kk b o (by simpa using hb) e) f0 f1 f3 f4 f5
  refine⟨_,rfl,zmQ (s:={s with heap:=h',toks:=tk}) (n:="range_iterator") st' rfl rfl (by decide) ⟨.int (lo+i),H,I1,⟨t,?_⟩,⟨rfl,rfl⟩,st',λb hb=>(hf b hb).1⟩⟩
  rw[Int.mul_one]
 done:=by
  intro X hP hw hK hc i pins s σ H E I hf st hg
  subst hP hw hK
  obtain⟨f0,f1,f2,f3,f4,f5⟩:=hf it (by simp)
  exact wpAny_pyNext_range_end (I.ok.hd hc) st (by have:n<=i:=hg;omega) λh' eb=>⟨rfl,I.turned (t':=s.toks) (λb o hb e=>eb b o hb e) f0 f1 f3 f4 f5⟩
 self:=λ_ _ _ _ _ st h=>wpAny_pyIter_rangeiter st h
end L2

namespace L2
open PySem PySem.Spec PyProof.Rows
section
variable {X:Cx}{tg:Expr}
def zog (K:Fg)(tl:TE):TI:=λσ H R=>tl σ H λx H1=>∃ a,x=.ref a/\(∃ xs,SqL K H1 a xs)/\R (Itl K a) H1
def iTup (K:Fg)(tl:TE):TI:=λσ H R=>tl σ H λx H1=>∃ a,x=.ref a/\(∃ xs,SqT K H1 a xs)/\R (Itt K a) H1
theorem zoh {l:Expr}{tl:TE}(hl:PE X l tl):PI X tg l (zog X.K tl):=by
 intro pins s σ H R I h
 refine thn (hl pins s σ H _ I h) λv s1 ⟨x,H1,I1,r1,q1⟩=>?_
 obtain⟨a,e,⟨xs,hq⟩,q⟩:=q1
 subst e
 cases r1
 obtain⟨its,rv,p,hz⟩:=I1.list hq
 refine wpAny_pyIter_list p.isList ?_
 refine⟨s1.heap.objs.size,[s1.heap.objs.size],_,_,H1,rfl,I1.kept (t':=s1.toks) λb o e=>Heap.get?_push_of_some _ e,zlb a _,⟨_,Heap.get?_push_size _ rfl,rfl,rfl⟩,λb hb=>?_,q⟩
 have e:b=s1.heap.objs.size:=by simpa using hb
 subst e
 exact I1.fpOk (Nat.le_refl _) (I1.hok.fresh (Nat.le_refl _))
theorem zpj {l:Expr}{tl:TE}(hl:PE X l tl):PI X tg l (iTup X.K tl):=by
 intro pins s σ H R I h
 refine thn (hl pins s σ H _ I h) λv s1 ⟨x,H1,I1,r1,q1⟩=>?_
 obtain⟨a,e,⟨xs,hq⟩,q⟩:=q1
 subst e
 cases r1
 obtain⟨its,rv,p,hz⟩:=I1.tuple hq
 refine wpAny_pyIter_tuple (show s1.heap.IsTuple a its.toArray from p) ?_
 refine⟨s1.heap.objs.size,[s1.heap.objs.size],_,_,H1,rfl,I1.kept (t':=s1.toks) λb o e=>Heap.get?_push_of_some _ e,zko a _,⟨_,Heap.get?_push_size _ rfl,rfl,rfl⟩,λb hb=>?_,q⟩
 have e:b=s1.heap.objs.size:=by simpa using hb
 subst e
 exact I1.fpOk (Nat.le_refl _) (I1.hok.fresh (Nat.le_refl _))
theorem zmR {pins:List (Addr × Obj)}{σ:St}{H:Hp}{s:Shared}{R:It->Hp->Prop}{E:Value->Shared->Prop}{lo hi:Int}{t u v:Tok}{tk:Nat}(I:Inv X pins σ H s)(h1:-(2 ^ 62)<=lo)(h2:lo<2 ^ 62)(h3:-(2 ^ 62)<=hi)(h4:hi<2 ^ 62)
  (q:R (Itr lo (hi - lo).toNat) H):wpAny (model X.prog X.w) X.A (pyIter (.ref s.heap.objs.size)) (PIE X pins σ tg R) E {s with heap:=s.heap.push {cls:=.type "range",data:=.fields #[.int lo t,.int hi u,.int 1 v]},toks:=tk}:=by
 refine wpAny_pyIter_range (IsRange.new ..) (small_one h1 h2 h3 h4) ?_
 have I1:Inv X pins σ H {s with heap:=s.heap.push {cls:=.type "range",data:=.fields #[.int lo t,.int hi u,.int 1 v]},toks:=tk}:=I.kept λb o e=>Heap.get?_push_of_some _ e
 refine⟨(s.heap.push {cls:=.type "range",data:=.fields #[.int lo t,.int hi u,.int 1 v]}).objs.size,[(s.heap.push {cls:=.type "range",data:=.fields #[.int lo t,.int hi u,.int 1 v]}).objs.size],_,_,H,rfl,
  I1.kept (t':=tk) λb o e=>Heap.get?_push_of_some _ e,zg9 _ lo (hi - lo).toNat,?_,λb hb=>?_,q⟩
 ·have e1:lo+((0:Nat):Int) * 1=lo:=by simp
  have e2:(((hi - lo).toNat:Nat):Int) - ((0:Nat):Int)=Builtin.Range.rangeSize lo hi 1:=by rw[rangeSize_one];split <;> omega
  show IsRangeIter _ _ (lo+((0:Nat):Int) * 1) ((((hi - lo).toNat:Nat):Int) - ((0:Nat):Int)) 1
  rw[e1,e2]
  exact Heap.get?_push_size _ rfl
 ·have e:b=(s.heap.push {cls:=.type "range",data:=.fields #[.int lo t,.int hi u,.int 1 v]}).objs.size:=by simpa using hb
  subst e
  exact I1.fpOk (Nat.le_refl _) (I1.hok.fresh (Nat.le_refl _))
def zoi (ta:TA):TI:=λσ H R=>ta σ H λvs H1=>∃ j:Int,vs=[.int j]/\-(2 ^ 62)<=j/\j<2 ^ 62/\R (Itr 0 j.toNat) H1
theorem zbs {a:Expr}{ta:TA}{p pos:Pos}(hg:Gl X "range")(hm:X.mg "range"=none)(ha:PA X [a] ta)(hs:starEach [a] X.env=[(false,eval a X.env)]:=by rfl):PI X tg (.Call (.Name "range" p) [a] [] pos) (zoi ta):=by
 intro pins s σ H R I h
 refine Call_ (zg7 I hg hm boot_range (PyProof.Rows.callWith_type1 (thn (ha pos pins s σ H _ I h) λus s1 ⟨vs,H1,I1,r1,q1⟩=>?_) hs rfl))
 obtain⟨j,e,q1,q2,q⟩:=q1
 subst e
 cases r1 with
 | cons r rr=>
  cases rr
  obtain⟨t,rfl⟩:=r
  exact call_range_1 (zmR I1 (by omega) (by omega) q1 q2 (by simpa using q))
def tFor (wi:TI)(g:TG)(tb:TS):TS:=λD σ H=>wi σ H λJ H1=>∃ W:Nat->Nat->St->Hp->Prop,(∃ m,W 0 m σ H1)/\∀ i m σ H,W i m σ H->
 (J.stop i H/\D.nx σ H)\/(J.go i H/\∃ N:St->Hp->Prop,(∀ σ' H',N σ' H'->∃ m',m'<m/\W (i+1) m' σ' H')/\∀ x H',J.yld i H x H'->g x σ H' λσ2 H2=>tb {D with nx:=N,ct:=N,bk:=D.nx} σ2 H2)
def zha (fp:List Addr)(h:Heap):List (Addr × Obj):=fp.filterMap λb=>(h.get? b).map λo=>(b,o)
theorem zcq {fp:List Addr}{h:Heap}{b:Addr}{o:Obj}(hb:b∈fp)(e:h.get? b=some o):(b,o)∈zha fp h:=List.mem_filterMap.mpr ⟨b,hb,by rw[e];rfl⟩
theorem zlc {fp:List Addr}{h:Heap}{p:Addr × Obj}(hp:p∈zha fp h):p.1∈fp/\h.get? p.1=some p.2:=by
 obtain⟨b,hb,e⟩:=List.mem_filterMap.mp hp
 cases q:h.get? b with
 | none=>rw[q] at e;cases e
 | some o=>
  rw[q] at e
  have e':(b,o)=p:=Option.some.inj e
  subst e'
  exact⟨hb,q⟩
theorem Inv.pinned {pins:List (Addr × Obj)}{σ:St}{H:Hp}{s:Shared}{fp:List Addr}(I:Inv X pins σ H s)(hf:∀ b∈fp,FpOk X pins H b)(ho:∀ b∈fp,∃ o,s.heap.get? b=some o/\∀ v,o.data≠.cell v):Inv X (pins++zha fp s.heap) σ H s:=
 I.pins_of λp hp=>(zma.mp hp).elim (λz=>I.pin p (List.mem_append_right _ z)) λz=>by
  obtain⟨hb,e⟩:=zlc z
  obtain⟨f0,f1,f2,_⟩:=hf p.1 hb
  obtain⟨o,e',d⟩:=ho p.1 hb
  rw[e] at e';cases e'
  exact⟨e,f0,f1,f2,d⟩
theorem Inv.unpinned {pins pl:List (Addr × Obj)}{σ:St}{H:Hp}{s:Shared}(I:Inv X (pins++pl) σ H s):Inv X pins σ H s:=I.pins_of λp hp=>I.pin p (List.mem_append_right _ (List.mem_append_left _ hp))
theorem zci {iter:Expr}{body:List Stmt}{wi:TI}{g:TG}{tb:TS}{pos:Pos}(hp:PassesOwn (model X.prog X.w) X.A X.env X.xe)(hc:X.calm=true)(hi:PI X tg iter wi)(hg:PG X tg g)(hb:PSs X body tb)
  (hs:∀ x,foldedSetIterable iter X.env x=pure x:=by intro _;rfl):PS X (.For tg iter body [] pos) (tFor wi g tb):=by
 intro pins s σ H D I h
 refine wpAny_For (thn (hi pins s σ H _ I h) λv s1 h1=>thn h1 λitv s2 h2=>?_) hs
 obtain⟨it,fp,tn,J,H2,e,I2,T,st2,f2,W,⟨m0,w0⟩,turn⟩:=h2
 subst e
 -- what stays true of the iterator's objects through the loop
 have stat:∀ {H':Hp},(∀ b∈fp,H' b=none)->∀ b∈fp,FpOk X pins H' b:=λhn b hb=>⟨hn b hb,(f2 b hb).2⟩
 refine codeAny_forLoop_any (λn s'=>∃ i σ' H',Inv X pins σ' H' s'/\tn i s'.heap/\(∀ b∈fp,H' b=none)/\W i n σ' H') ?_ m0 ⟨0,σ,H2,I2,st2,λb hb=>(f2 b hb).1,w0⟩
 rintro n s3 ⟨i,σ3,H3,I3,st3,fr3,w3⟩
 rcases turn i n σ3 H3 w3 with ⟨stop,qn⟩ | ⟨go,N,hN,step⟩
 ·refine wpAny_passesOwn hp (thn (T.done X rfl rfl rfl hc i pins s3 σ3 H3 X.xe I3 (stat fr3) st3 stop) λr s4 ⟨hr,I4⟩=>?_)
  subst hr
  exact wpAny_execs_nil ⟨σ3,H3,I4,qn⟩
 ·refine wpAny_passesOwn hp (thn (T.item X rfl rfl rfl hc i pins s3 σ3 H3 X.xe I3 (stat fr3) st3 go) λr s4 ⟨u,hr,h4⟩=>?_)
  subst hr
  refine wpAny_passesOwn hp (thn h4 λ_ s5 ⟨x,H5,I5,r5,y5,st5,fr5⟩=>?_)
  have I5':=I5.pinned (stat fr5) (T.obj _ _ st5)
  refine wpAny_passesOwn hp (thn (hg _ s5 σ3 H5 x u _ I5' r5 (step x H5 y5)) λ_ s6 ⟨σ6,H6,I6,q6⟩=>?_)
  refine wpAny_passesOwn hp (thn (hb _ s6 σ6 H6 _ I6 q6) λf s7 q7=>?_)
  have again:∀ {σ7:St}{H7:Hp},Inv X (pins++zha fp s5.heap) σ7 H7 s7->N σ7 H7->∃ m,m<n/\∃ i σ' H',Inv X pins σ' H' s7/\tn i s7.heap/\(∀ b∈fp,H' b=none)/\W i m σ' H':=λ{σ7 H7} I7 n7=>by
   obtain⟨m',hm,w7⟩:=hN σ7 H7 n7
   refine⟨m',hm,i+1,σ7,H7,I7.unpinned,T.keep _ _ _ st5 λb hb o e=>(I7.pin (b,o) (List.mem_append_right _ (List.mem_append_right _ (zcq hb e)))).1,λb hb=>?_,w7⟩
   obtain⟨o,e,d⟩:=T.obj _ _ st5 b hb
   exact (I7.pin (b,o) (List.mem_append_right _ (List.mem_append_right _ (zcq hb e)))).2.1
  cases f with
  | next=>obtain⟨σ7,H7,I7,n7⟩:=q7;exact again I7 n7
  | cont=>obtain⟨σ7,H7,I7,n7⟩:=q7;exact again I7 n7
  | brk=>obtain⟨σ7,H7,I7,q7⟩:=q7;exact⟨σ7,H7,I7.unpinned,q7⟩
  | ret v=>obtain⟨x7,σ7,H7,I7,r7,q7⟩:=q7;exact⟨x7,σ7,H7,I7.unpinned,r7,q7⟩
end

theorem zmS {K:Fg}{a:Addr}{xs:List V}{g:TG}{tb:TS}{D:Ends}{σ:St}{H:Hp}(Pv:Nat->St->Hp->Prop)(h0:Pv 0 σ H)(hl:∀ i σ H,i<=xs.length->Pv i σ H->SqL K H a xs)
  (hs:∀ i x σ H,xs[i]?=some x->Pv i σ H->g x σ H λσ2 H2=>tb {D with nx:=Pv (i+1),ct:=Pv (i+1),bk:=D.nx} σ2 H2) (hd:∀ σ H,Pv xs.length σ H->D.nx σ H) :
  ∃ W:Nat->Nat->St->Hp->Prop,(∃ m,W 0 m σ H)/\∀ i m σ H,W i m σ H->
   ((Itl K a).stop i H/\D.nx σ H)\/((Itl K a).go i H/\∃ N:St->Hp->Prop,(∀ σ' H',N σ' H'->∃ m',m'<m/\W (i+1) m' σ' H')/\∀ x H',(Itl K a).yld i H x H'->g x σ H' λσ2 H2=>tb {D with nx:=N,ct:=N,bk:=D.nx} σ2 H2):=by
 refine⟨λi m σ H=>m=xs.length - i/\i<=xs.length/\Pv i σ H,⟨xs.length,by simp,Nat.zero_le _,h0⟩,?_⟩
 rintro i m σ H ⟨rfl,hi,p⟩
 have q:=hl i σ H hi p
 by_cases hlt:i<xs.length
 ·refine .inr ⟨⟨xs,xs[i],q,by simp[hlt]⟩,Pv (i+1),λσ' H' p'=>⟨xs.length - (i+1),by omega,rfl,hlt,p'⟩,λx H' y=>?_⟩
  obtain⟨e,y⟩:=y
  subst e
  exact hs i x σ _ (y xs q) p
 ·have e:i=xs.length:=by omega
  subst e
  exact .inl ⟨⟨xs,q,Nat.le_refl _⟩,hd σ H p⟩
theorem zld {lo:Int}{n:Nat}{g:TG}{tb:TS}{D:Ends}{σ:St}{H:Hp}(Pv:Nat->St->Hp->Prop)(h0:Pv 0 σ H)
  (hs:∀ i σ H,i<n->Pv i σ H->g (.int (lo+i)) σ H λσ2 H2=>tb {D with nx:=Pv (i+1),ct:=Pv (i+1),bk:=D.nx} σ2 H2) (hd:∀ σ H,Pv n σ H->D.nx σ H) :
  ∃ W:Nat->Nat->St->Hp->Prop,(∃ m,W 0 m σ H)/\∀ i m σ H,W i m σ H->
   ((Itr lo n).stop i H/\D.nx σ H)\/((Itr lo n).go i H/\∃ N:St->Hp->Prop,(∀ σ' H',N σ' H'->∃ m',m'<m/\W (i+1) m' σ' H')/\∀ x H',(Itr lo n).yld i H x H'->g x σ H' λσ2 H2=>tb {D with nx:=N,ct:=N,bk:=D.nx} σ2 H2):=by
 refine⟨λi m σ H=>m=n - i/\i<=n/\Pv i σ H,⟨n,by simp,Nat.zero_le _,h0⟩,?_⟩
 rintro i m σ H ⟨rfl,hi,p⟩
 by_cases hlt:i<n
 ·refine .inr ⟨hlt,Pv (i+1),λσ' H' p'=>⟨n - (i+1),by omega,rfl,hlt,p'⟩,λx H' y=>?_⟩
  obtain⟨e,y⟩:=y
  subst e y
  exact hs i σ _ hlt p
 ·have e:i=n:=by omega
  subst e
  exact .inl ⟨Nat.le_refl _,hd σ H p⟩
end L2

namespace L2
open PySem PySem.Spec PyProof.Rows

abbrev R2:=V->V->Hp->VK->Prop
def OpR (X:Cx)(f:Value->Value->Sem Value)(r:R2):Prop:=
 ∀ (pins:List (Addr × Obj)) (s:Shared) (σ:St) (H:Hp) (x y:V) (v u:Value) (Q:VK),Inv X pins σ H s->RelV x v->RelV y u->r x y H Q->
  wpAny (model X.prog X.w) X.A (f v u) (EP X pins σ Q) X.xe s
def UnR (X:Cx)(f:Value->Sem Value)(r:V->Hp->VK->Prop):Prop:=
 ∀ (pins:List (Addr × Obj)) (s:Shared) (σ:St) (H:Hp) (x:V) (v:Value) (Q:VK),Inv X pins σ H s->RelV x v->r x H Q->
  wpAny (model X.prog X.w) X.A (f v) (EP X pins σ Q) X.xe s
def zbC (X:Cx)(f:Value)(r:List V->Hp->VK->Prop):Prop:=
 ∀ (pins:List (Addr × Obj)) (s:Shared) (σ:St) (H:Hp) (xs:List V) (us:List Value) (Q:VK),Inv X pins σ H s->Vals xs us->r xs H Q->
  wpAny (model X.prog X.w) X.A (call f us) (EP X pins σ Q) X.xe s
def tOp (r:R2)(ta tb:TE):TE:=λσ H Q=>ta σ H λx H1=>tb σ H1 λy H2=>r x y H2 Q
def tUn (r:V->Hp->VK->Prop)(ta:TE):TE:=λσ H Q=>ta σ H λx H1=>r x H1 Q
def rI (C:Int->Int->Prop)(g:Int->Int->V):R2:=λx y H Q=>∃ i j,x=.int i/\y=.int j/\C i j/\Q (g i j) H
def rI0 (g:Int->Int->V):R2:=λx y H Q=>∃ i j,x=.int i/\y=.int j/\Q (g i j) H
def rU (g:Int->V):V->Hp->VK->Prop:=λx H Q=>∃ i,x=.int i/\Q (g i) H
section
variable {X:Cx}{a b c:Expr}{ta tb tc:TE}{pos:Pos}

theorem binT (ha:PE X a ta)(hb:PE X b tb){pins:List (Addr × Obj)}{s:Shared}{σ:St}{H:Hp}{R:V->V->Hp->Prop}(I:Inv X pins σ H s)
  (h:ta σ H λx H1=>tb σ H1 λy H2=>R x y H2) {Q:Value->Shared->Prop}{f:Value->Value->Sem Value}
  (hf:∀ v u s2 x y H2,Inv X pins σ H2 s2->RelV x v->RelV y u->R x y H2->wpAny (model X.prog X.w) X.A (f v u) Q X.xe s2) :
  wpAny (model X.prog X.w) X.A (eval a X.env) (λv s₁=>wpAny (model X.prog X.w) X.A (eval b X.env) (λu s₂=>wpAny (model X.prog X.w) X.A (f v u) Q X.xe s₂) X.xe s₁) X.xe s:=by
 refine thn (ha pins s σ H _ I h) λv s1 ⟨x,H1,I1,r1,q1⟩=>?_
 refine thn (hb pins s1 σ H1 _ I1 q1) λu s2 ⟨y,H2,I2,r2,q2⟩=>?_
 exact hf v u s2 x y H2 I2 r1 r2 q2
theorem zat {op:Operator}{r:R2}(ho:OpR X (binaryOp op) r)(ha:PE X a ta)(hb:PE X b tb):PE X (.BinOp a op b pos) (tOp r ta tb):=by
 intro pins s σ H Q I h
 exact wpAny_BinOp (binT ha hb I h λv u s2 x y H2 I2 rx ry q=>ho pins s2 σ H2 x y v u Q I2 rx ry q)
theorem zeL {op:UnaryOp}{r:V->Hp->VK->Prop}(ho:UnR X (unaryOp op) r)(ha:PE X a ta):PE X (.UnaryOp op a pos) (tUn r ta):=by
 intro pins s σ H Q I h
 exact UnaryOp_ (thn (ha pins s σ H _ I h) λv s1 ⟨x,H1,I1,r1,q1⟩=>ho pins s1 σ H1 x v Q I1 r1 q1)
theorem opI {f:Value->Value->Sem Value}{C:Int->Int->Prop}{g:Int->Int->Int}
  (rule:∀ (i j:Int) (t u:Tok) (s:Shared) (Q:Value->Shared->Prop) (E:Value->Shared->Prop),C i j->Q (.int (g i j) s.toks) {s with toks:=s.toks+1}->wpAny (model X.prog X.w) X.A (f (.int i t) (.int j u)) Q E s) :
  OpR X f (rI C λi j=>.int (g i j)):=by
 intro pins s σ H x y v u Q I rx ry h
 obtain⟨i,j,rfl,rfl,hc,q⟩:=h
 obtain⟨t,rfl⟩:=rx
 obtain⟨t',rfl⟩:=ry
 exact rule i j t t' s _ _ hc ⟨.int (g i j),H,I.tok _,⟨_,rfl⟩,q⟩
theorem opI0 {f:Value->Value->Sem Value}{g:Int->Int->Int}
  (rule:∀ (i j:Int) (t u:Tok) (s:Shared) (Q:Value->Shared->Prop) (E:Value->Shared->Prop),Q (.int (g i j) s.toks) {s with toks:=s.toks+1}->wpAny (model X.prog X.w) X.A (f (.int i t) (.int j u)) Q E s) :
  OpR X f (rI0 λi j=>.int (g i j)):=by
 intro pins s σ H x y v u Q I rx ry h
 obtain⟨i,j,rfl,rfl,q⟩:=h
 obtain⟨t,rfl⟩:=rx
 obtain⟨t',rfl⟩:=ry
 exact rule i j t t' s _ _ ⟨.int (g i j),H,I.tok _,⟨_,rfl⟩,q⟩
theorem opB0 {f:Value->Value->Sem Value}{g:Int->Int->Bool}
  (rule:∀ (i j:Int) (t u:Tok) (s:Shared) (Q:Value->Shared->Prop) (E:Value->Shared->Prop),Q (.bool (g i j)) s->wpAny (model X.prog X.w) X.A (f (.int i t) (.int j u)) Q E s) :
  OpR X f (rI0 λi j=>.bl (g i j)):=by
 intro pins s σ H x y v u Q I rx ry h
 obtain⟨i,j,rfl,rfl,q⟩:=h
 obtain⟨t,rfl⟩:=rx
 obtain⟨t',rfl⟩:=ry
 exact rule i j t t' s _ _ ⟨.bl (g i j),H,I,rfl,q⟩
def CDiv (i j:Int):Prop:=0<j/\j<1073741824
def CPow (i j:Int):Prop:=0<=j/\j<=1000000/\i.natAbs<2 ^ 64
def CMul (i j:Int):Prop:=(-(2 ^ 64)<i/\i<2 ^ 64)\/(-(2 ^ 64)<j/\j<2 ^ 64)
theorem CMul.ok {i j:Int}(h:CMul i j):IntMulOk i j:=by
 rcases h with ⟨h1,h2⟩ | ⟨h1,h2⟩
 ·exact .of_left (intBits_le_64 h1 h2)
 ·exact .of_right (intBits_le_64 h1 h2)
theorem zpk:OpR X (binaryOp .Add) (rI0 λi j=>.int (i+j)):=opI0 λ_ _ _ _ _ _ _ q=>add_int q
theorem zih:OpR X (binaryOp .Sub) (rI0 λi j=>.int (i - j)):=opI0 λ_ _ _ _ _ _ _ q=>sub_int q
theorem zpl:OpR X (binaryOp .Mult) (rI CMul λi j=>.int (i * j)):=opI λ_ _ _ _ _ _ _ hc q=>mul_int q hc.ok
theorem zcZ:OpR X (binaryOp .FloorDiv) (rI CDiv λi j=>.int (i / j)):=opI λi j _ _ _ _ _ hc q=>by
 have h1:(0:Int)<j:=hc.1
 have h2:j<1073741824:=hc.2
 exact floordiv_int (by omega) (by rw[Int.fdiv_eq_ediv_of_nonneg i (by omega)];exact q) (.inl (PyProof.noPylong_small (by omega)))
theorem zcK:OpR X (binaryOp .Mod) (rI (λ_ j=>0<j) λi j=>.int (i % j)):=opI λi j _ _ _ _ _ hc q=>by
 have h1:(0:Int)<j:=hc
 exact mod_int' (by omega) (by rw[Int.fmod_eq_emod_of_nonneg i (by omega)];exact q)
theorem zii:OpR X (binaryOp .Pow) (rI CPow λi j=>.int (i ^ j.toNat)):=opI λ_ _ _ _ _ _ _ hc q=>pow_int_small hc.1 hc.2.1 hc.2.2 q
theorem unI {f:Value->Sem Value}{g:Int->Int}
  (rule:∀ (i:Int) (t:Tok) (s:Shared) (Q:Value->Shared->Prop) (E:Value->Shared->Prop),Q (.int (g i) s.toks) {s with toks:=s.toks+1}->wpAny (model X.prog X.w) X.A (f (.int i t)) Q E s) :
  UnR X f (rU λi=>.int (g i)):=by
 intro pins s σ H x v Q I rx h
 obtain⟨i,rfl,q⟩:=h
 obtain⟨t,rfl⟩:=rx
 exact rule i t s _ _ ⟨.int (g i),H,I.tok _,⟨_,rfl⟩,q⟩
theorem zcL:UnR X (unaryOp .USub) (rU λi=>.int (-i)):=unI λ_ _ _ _ _ q=>neg_int q
end

def scal:V->V->Bool
 | .non,.non=>true | .non,.int _=>true | .int _,.non=>true | .non,.bl _=>true | .bl _,.non=>true | .non,.str _=>true | .str _,.non=>true
 | .int _,.int _=>true | .bl _,.bl _=>true | .str _,.str _=>true | .byt _,.byt _=>true
 | .int _,.str _=>true | .str _,.int _=>true | .bl _,.str _=>true | .str _,.bl _=>true
 | _,_=>false
def rEq:R2:=λx y H Q=>scal x y=true/\Q (.bl (decide (x=y))) H
def rNe:R2:=λx y H Q=>scal x y=true/\Q (.bl (!decide (x=y))) H
theorem zle {i j:Int} : decide (V.int i=V.int j)=(i == j):=by
 rw[Bool.eq_iff_iff]
 simp
theorem znN {i j:Bool} : decide (V.bl i=V.bl j)=(i == j):=by
 rw[Bool.eq_iff_iff]
 simp
theorem zlf {i j:Str} : decide (V.str i=V.str j)=(i == j):=by
 rw[Bool.eq_iff_iff]
 simp
theorem zlg {i j:Array UInt8} : decide (V.byt i=V.byt j)=(i.toList == j.toList):=by
 rw[Bool.eq_iff_iff]
 cases i
 cases j
 simp
section
variable {X:Cx}{a b c:Expr}{ta tb tc:TE}{pos:Pos}
theorem za5 {pins:List (Addr × Obj)}{σ:St}{H:Hp}{s:Shared}{Q:VK}{k k':Bool}(I:Inv X pins σ H s)(q:Q (.bl k) H)(e:k=k'):EP X pins σ Q (.bool k') s:=by
 subst e
 exact⟨.bl k,H,I,rfl,q⟩
theorem zoj:OpR X (compareOp .Eq) rEq:=by
 intro pins s σ H x y v u Q I rx ry h
 obtain⟨hs,q⟩:=h
 cases x with
 | non=>
  cases rx
  cases y with
  | non=>cases ry;exact PySem.EqNone.eq_none_none (za5 I q (by simp))
  | bl j=>cases ry;exact PySem.EqNone.eq_none_bool (za5 I q (by simp))
  | int j=>obtain⟨t',rfl⟩:=ry;exact PySem.EqNone.eq_none_int (za5 I q (by simp))
  | str j=>obtain⟨t',rfl⟩:=ry;exact PySem.EqNone.eq_none_str (za5 I q (by simp))
  | _=>exact absurd (show false=true from hs) Bool.false_ne_true
 | bl i=>
  cases rx
  cases y with
  | non=>cases ry;exact PySem.EqNone.eq_bool_none (za5 I q (by simp))
  | bl j=>cases ry;exact eq_bool (za5 I q znN)
  | str j=>obtain⟨t',rfl⟩:=ry;exact PySem.EqMixed.eq_bool_str (za5 I q (by simp))
  | _=>exact absurd (show false=true from hs) Bool.false_ne_true
 | int i=>
  obtain⟨t,rfl⟩:=rx
  cases y with
  | non=>cases ry;exact PySem.EqNone.eq_int_none (za5 I q (by simp))
  | int j=>obtain⟨t',rfl⟩:=ry;exact eq_int (za5 I q zle)
  | str j=>obtain⟨t',rfl⟩:=ry;exact PySem.EqMixed.eq_int_str (za5 I q (by simp))
  | _=>exact absurd (show false=true from hs) Bool.false_ne_true
 | str i=>
  obtain⟨t,rfl⟩:=rx
  cases y with
  | non=>cases ry;exact PySem.EqNone.eq_str_none (za5 I q (by simp))
  | bl j=>cases ry;exact PySem.EqMixed.eq_str_bool (za5 I q (by simp))
  | int j=>obtain⟨t',rfl⟩:=ry;exact PySem.EqMixed.eq_str_int (za5 I q (by simp))
  | str j=>obtain⟨t',rfl⟩:=ry;exact eq_str (za5 I q zlf)
  | _=>exact absurd (show false=true from hs) Bool.false_ne_true
 | byt i=>
  obtain⟨t,rfl⟩:=rx
  cases y with
  | byt j=>obtain⟨t',rfl⟩:=ry;exact PySem.W.eq_bytes (za5 I q zlg)
  | _=>exact absurd (show false=true from hs) Bool.false_ne_true
 | _=>cases y <;> exact absurd (show false=true from hs) Bool.false_ne_true
theorem op_ne:OpR X (compareOp .NotEq) rNe:=by
 intro pins s σ H x y v u Q I rx ry h
 obtain⟨hs,q⟩:=h
 cases x with
 | non=>
  cases rx
  cases y with
  | non=>cases ry;exact PySem.EqNone.ne_none_none (za5 I q (by simp))
  | bl j=>cases ry;exact PySem.EqNone.ne_none_bool (za5 I q (by simp))
  | int j=>obtain⟨t',rfl⟩:=ry;exact PySem.EqNone.ne_none_int (za5 I q (by simp))
  | str j=>obtain⟨t',rfl⟩:=ry;exact PySem.EqNone.ne_none_str (za5 I q (by simp))
  | _=>exact absurd (show false=true from hs) Bool.false_ne_true
 | bl i=>
  cases rx
  cases y with
  | non=>cases ry;exact PySem.EqNone.ne_bool_none (za5 I q (by simp))
  | bl j=>cases ry;exact ne_bool (za5 I q (congrArg not znN))
  | str j=>obtain⟨t',rfl⟩:=ry;exact PySem.EqMixed.ne_bool_str (za5 I q (by simp))
  | _=>exact absurd (show false=true from hs) Bool.false_ne_true
 | int i=>
  obtain⟨t,rfl⟩:=rx
  cases y with
  | non=>cases ry;exact PySem.EqNone.ne_int_none (za5 I q (by simp))
  | int j=>obtain⟨t',rfl⟩:=ry;exact ne_int (za5 I q (congrArg not zle))
  | str j=>obtain⟨t',rfl⟩:=ry;exact PySem.EqMixed.ne_int_str (za5 I q (by simp))
  | _=>exact absurd (show false=true from hs) Bool.false_ne_true
 | str i=>
  obtain⟨t,rfl⟩:=rx
  cases y with
  | non=>cases ry;exact PySem.EqNone.ne_str_none (za5 I q (by simp))
  | bl j=>cases ry;exact PySem.EqMixed.ne_str_bool (za5 I q (by simp))
  | int j=>obtain⟨t',rfl⟩:=ry;exact PySem.EqMixed.ne_str_int (za5 I q (by simp))
  | str j=>obtain⟨t',rfl⟩:=ry;exact ne_str (za5 I q (congrArg not zlf))
  | _=>exact absurd (show false=true from hs) Bool.false_ne_true
 | byt i=>
  obtain⟨t,rfl⟩:=rx
  cases y with
  | byt j=>obtain⟨t',rfl⟩:=ry;exact PySem.W.ne_bytes (za5 I q (congrArg not zlg))
  | _=>exact absurd (show false=true from hs) Bool.false_ne_true
 | _=>cases y <;> exact absurd (show false=true from hs) Bool.false_ne_true
theorem zlh:OpR X (compareOp .Lt) (rI0 λi j=>.bl (decide (i<j))):=opB0 λ_ _ _ _ _ _ _ q=>lt_int q
theorem zmT:OpR X (compareOp .LtE) (rI0 λi j=>.bl (decide (i<=j))):=opB0 λ_ _ _ _ _ _ _ q=>le_int q
theorem zok:OpR X (compareOp .Gt) (rI0 λi j=>.bl (decide (j<i))):=opB0 λ_ _ _ _ _ _ _ q=>gt_int q
theorem znO:OpR X (compareOp .Is) (λx y H Q=>y=.non/\Q (.bl (decide (x=.non))) H):=by
 intro pins s σ H x y v u Q I rx ry h
 obtain⟨rfl,q⟩:=h
 cases ry
 refine is_none_gen (za5 I q ?_)
 cases x <;> first
  | (cases rx;rfl)
  | (obtain⟨t,rfl⟩:=rx;rfl)
theorem zjg:OpR X (compareOp .IsNot) (λx y H Q=>y=.non/\Q (.bl (!decide (x=.non))) H):=by
 intro pins s σ H x y v u Q I rx ry h
 obtain⟨rfl,q⟩:=h
 cases ry
 refine isnot_none_gen (za5 I q ?_)
 cases x <;> first
  | (cases rx;rfl)
  | (obtain⟨t,rfl⟩:=rx;rfl)
theorem OpR.or {f:Value->Value->Sem Value}{r r':R2}(h:OpR X f r)(h':OpR X f r'):OpR X f (λx y H Q=>r x y H Q\/r' x y H Q):=by
 intro pins s σ H x y v u Q I rx ry q
 rcases q with q | q
 ·exact h pins s σ H x y v u Q I rx ry q
 ·exact h' pins s σ H x y v u Q I rx ry q
theorem zaw (b:Expr){op:CmpOp}(h:op≠.In:=by decide)(h2:op≠.NotIn:=by decide):behindInMarks op b=false:=by
 have e1:(op == CmpOp.In)=false:=by cases op <;> first | rfl | exact absurd rfl h
 have e2:(op == CmpOp.NotIn)=false:=by cases op <;> first | rfl | exact absurd rfl h2
 cases b <;> simp[behindInMarks,e1,e2]
theorem zbg {op:CmpOp}{r:R2}(ho:OpR X (compareOp op) r)(ha:PE X a ta)(hb:PE X b tb)(hm:behindInMarks op b=false):PE X (.Compare a [op] [b] pos) (tOp r ta tb):=by
 intro pins s σ H Q I h
 exact wpAny_Compare1 (binT ha hb I h λv u s2 x y H2 I2 rx ry q=>ho pins s2 σ H2 x y v u Q I2 rx ry q) hm
def zpm (t:TE):TT:=λσ H Q=>t σ H λx H'=>∃ k,x=.bl k/\Q k H'
theorem zaz {op:CmpOp}{r:R2}(ho:OpR X (compareOp op) r)(ha:PE X a ta)(hb:PE X b tb)(hm:behindInMarks op b=false):PT X (.Compare a [op] [b] pos) (zpm (tOp r ta tb)):=by
 intro pins s σ H Q I h
 refine wpAny_isTrue_Compare1 (thn (ha pins s σ H _ I h) λv s1 ⟨x,H1,I1,r1,q1⟩=>thn (hb pins s1 σ H1 _ I1 q1) λu s2 ⟨y,H2,I2,r2,q2⟩=>
  thn (ho pins s2 σ H2 x y v u _ I2 r1 r2 q2) λc s3 ⟨z,H3,I3,r3,k,e,q3⟩=>?_) hm
 subst e
 cases r3
 exact wpAny_truthy_bool ⟨H3,I3,q3⟩
def znP (r r':R2)(ta tb tc:TE):TE:=λσ H Q=>ta σ H λx H1=>tb σ H1 λy H2=>r x y H2 λz H3=>∃ k,z=.bl k/\
 (if k=true then tc σ H3 λw' H4=>r' y w' H4 Q else Q (.bl false) H3)
theorem zmU {op op':CmpOp}{r r':R2}(ho:OpR X (compareOp op) r)(ho':OpR X (compareOp op') r')(ha:PE X a ta)(hb:PE X b tb)(hc:PE X c tc)
  (hm:lastMarks [op,op'] [b,c]=false:=by with_unfolding_all rfl):PE X (.Compare a [op,op'] [b,c] pos) (znP r r' ta tb tc):=by
 intro pins s σ H Q I h
 refine Compare_chain (thn (ha pins s σ H _ I h) λv s1 ⟨x,H1,I1,r1,q1⟩=>chain_link (thn (hb pins s1 σ H1 _ I1 q1) λu s2 ⟨y,H2,I2,r2,q2⟩=>
  thn (ho pins s2 σ H2 x y v u _ I2 r1 r2 q2) λd s3 ⟨z,H3,I3,r3,k,e,q3⟩=>?_)) hm
 subst e
 cases r3
 refine wpAny_truthy_bool ?_
 cases k with
 | false=>exact ite_ff ⟨.bl false,H3,I3,rfl,q3⟩
 | true=>exact ite_tt (chain_last (thn (hc pins s3 σ H3 _ I3 q3) λw' s4 ⟨z',H4,I4,r4,q4⟩=>ho' pins s4 σ H4 y z' u w' Q I4 r2 r4 q4))
theorem zij:(sizeLine:Nat)<2 ^ 63:=by rw[sizeLine_eq];decide
theorem zhB {x:V}{us:List Value}(r:Vals [x] us):∃ u,us=[u]/\RelV x u:=by
 cases r with
 | cons r1 r2=>cases r2;exact⟨_,rfl,r1⟩
theorem zkp {x y:V}{us:List Value}(r:Vals [x,y] us):∃ u w',us=[u,w']/\RelV x u/\RelV y w':=by
 cases r with
 | cons r1 r2=>
  cases r2 with
  | cons r3 r4=>cases r4;exact⟨_,_,rfl,r1,r3⟩
theorem zli (hc:X.calm=true):zbC X (.builtin "max") (λxs H Q=>∃ i j,xs=[.int i,.int j]/\Q (.int (if j>i then j else i)) H):=by
 intro pins s σ H xs us Q I r h
 obtain⟨i,j,rfl,q⟩:=h
 obtain⟨u,w',rfl,⟨t,rfl⟩,⟨t',rfl⟩⟩:=zkp r
 refine max_two_ints (I.ok.hd hc) λh' tk k=>⟨_,H,I.kept k,?_,q⟩
 by_cases hj:j>i
 ·rw[if_pos hj,if_pos hj];exact⟨_,rfl⟩
 ·rw[if_neg hj,if_neg hj];exact⟨_,rfl⟩
theorem zlj (hc:X.calm=true):zbC X (.builtin "min") (λxs H Q=>∃ i j,xs=[.int i,.int j]/\Q (.int (if j<i then j else i)) H):=by
 intro pins s σ H xs us Q I r h
 obtain⟨i,j,rfl,q⟩:=h
 obtain⟨u,w',rfl,⟨t,rfl⟩,⟨t',rfl⟩⟩:=zkp r
 refine min_two_ints (I.ok.hd hc) λh' tk k=>⟨_,H,I.kept k,?_,q⟩
 by_cases hj:j<i
 ·rw[if_pos hj,if_pos hj];exact⟨_,rfl⟩
 ·rw[if_neg hj,if_neg hj];exact⟨_,rfl⟩
theorem zlk:zbC X (.type "int") (λxs H Q=>(∃ i,xs=[.int i]/\Q (.int i) H)\/∃ k,xs=[.bl k]/\Q (.int (if k then 1 else 0)) H):=by
 intro pins s σ H xs us Q I r h
 rcases h with ⟨i,rfl,q⟩ | ⟨k,rfl,q⟩
 ·obtain⟨u,rfl,t,rfl⟩:=zhB r
  exact call_int_int ⟨.int i,H,I,⟨_,rfl⟩,q⟩
 ·obtain⟨u,rfl,r1⟩:=zhB r
  cases r1
  exact call_int_bool ⟨.int (if k then 1 else 0),H,I.tok _,⟨_,rfl⟩,q⟩
end
end L2

namespace L2
open PySem PySem.Spec PyProof.Rows

structure ObjM (h:Heap)(x dx C:Addr)(mA:Str->Option Value):Prop where
 obj:h.get? x=some (PySem.W.instObj C dx)
 ns:h.Ns1 dx mA
 ne:dx≠x
theorem zll {h:Heap}{dx:Addr}{mA:Str->Option Value}(n:h.Ns1 dx mA):∃ od,h.get? dx=some od/\∀ name,PySem.W.lookIn name od=some (mA name):=by
 obtain⟨o,es,ep,ho,hd,hk,_,hm⟩:=n
 refine⟨o,ho,λname=>?_⟩
 have e:=hm name
 unfold nsFind findBy at e
 rw[<-Array.find?_toList] at e
 unfold PySem.W.lookIn
 rw[hd]
 dsimp only
 split
 ·rename_i y q
  rw[q] at e
  exact congrArg some e
 ·rename_i q
  rw[q] at e
  have a:es.toList.any (·.refKey)=false:=by
   rw[List.any_eq_false]
   intro y hy
   obtain⟨z,t,hkey⟩:=hk y (Array.mem_toList_iff.mp hy)
   simp[DictEntry.refKey,hkey]
  have a':¬ es.toList.any (·.refKey)=true:=by rw[a];exact Bool.false_ne_true
  rw[if_neg a']
  exact congrArg some e
theorem ObjM.look {h:Heap}{x dx C:Addr}{mA:Str->Option Value}(I:ObjM h x dx C mA):∃ od,PySem.W.InstAt h x (PySem.W.instObj C dx) C (some od)/\∀ name,PySem.W.lookIn name od=some (mA name):=
 let ⟨od,ho,hl⟩:=zll I.ns
 ⟨od,⟨I.obj,rfl,rfl,ho⟩,hl⟩
section
variable {prog:Program}{w:World}{A:Around}{E:Value->Shared->Prop}{s:Shared}{K:Fg}{x dx C f:Addr}{mA:Str->Option Value}{name:Str}{v:Value}

theorem zol {expr:Bool}{Q:Value->Shared->Prop}(X:K.In s.heap)(I:ObjM s.heap x dx C mA)(hg:PySem.W.plainGet K C name=true)(hh:PySem.W.hasDictIn K C=true)
  (ha:PySem.W.findIn K (.ref C) name=some none) (hv:mA name=some v) (hv':PySem.W.handedIn v=true) (h:Q v {s with toks:=s.toks+1}) :
  wpAny (model prog w) A (getAttr (.ref x) name expr) Q E s:=by
 obtain⟨od,J,hl⟩:=I.look
 exact PySem.W.get_value X J (PySem.W.plainGet_of hg).1 (PySem.W.findObj_own hh ha rfl (by rw[hl,hv])) hv' h
theorem zmV {pl:Sem Bool}{Q:Value × List Value->Shared->Prop}(X:K.In s.heap)(I:ObjM s.heap x dx C mA)(hg:PySem.W.plainGet K C name=true)
  (hf:PySem.W.findIn K (.ref C) name=some (some (.ref f))) (ht:PySem.W.isFn K (.ref f)=true) (hv:mA name=none) (h:Q (.ref f,[.ref x]) s) :
  wpAny (model prog w) A (getMethod (.ref x) name pl) Q E s:=by
 obtain⟨od,J,hl⟩:=I.look
 exact PySem.W.method_fn X J (PySem.W.plainGet_of hg).1 (PySem.W.plainGet_of hg).2 hf (beq_iff_eq.mp ht) (by show (PySem.W.lookIn name od).map (·.isSome)=some false;rw[hl,hv];rfl) h
theorem zom {ns:List Str}{Q:Unit->Shared->Prop}(X:K.In s.heap)(I:ObjM s.heap x dx C mA)
  (hs:PySem.W.findIn K (.ref C) "__setattr__"=some (some (.builtin "object.__setattr__"))) (hp:PySem.W.plainOver K C=true) (ht:PySem.W.takerIn K C name=some none) (hh:PySem.W.hasDictIn K C=true)
  (hw:PySem.Within mA ns) (hsz:ns.length<=sizeLine)
  (h:∀ h',ObjM h' x dx C (λy=>if y=name then some v else mA y)->Heap.SameBut dx s.heap h'->Q () {s with heap:=h',toks:=s.toks+2}) :
  wpAny (model prog w) A (setAttr (.ref x) name v) Q E s:=by
 obtain⟨od,J,hl⟩:=I.look
 refine PySem.W.set_plain X J hs (PySem.W.osa_open (s:={s with toks:=s.toks+1}) (r:=none) X J hp ht λb=>?_)
 obtain⟨cd,hc,hd'⟩:=PySem.W.any_some hh
 have hx:s.heap.get? x=some ⟨.ref C,some dx,.plain,#[]⟩:=I.obj
 refine wpAny_bind (wpAny_pure (wpAny_bind (wpAny_bind (wpAny_loadPart hx (wpAny_bind (PySem.W.Looks.here (s:={s with toks:=s.toks+1}) (PySem.W.looks_clsIn X hc) ?_))))))
 rw[hd']
 refine wpAny_pure (a:=some dx) (wpAny_bind (wpAny_pure (wpAny_bind ?_)))
 refine wpAny_nsSet1 (s:={s with toks:=s.toks+1}) I.ns λh' hn2 hs2=>?_
 obtain⟨oD,esD,epD,hoD,hdD,hcD⟩:=hn2.count (PySem.Within.cons name v hw)
 refine wpAny_bind (wpAny_lookBehind hoD (by rw[hdD];exact pastItsLine_dict (Nat.le_trans hcD (by rw[List.length_cons];omega))) ?_)
 exact wpAny_pure (h _ ⟨(hs2.2 _ (Ne.symm I.ne)).trans I.obj,hn2,I.ne⟩ hs2)
theorem zmW {R:Result->Shared->Prop}{vs:List Value}{kw:List (Str × Value)}(X:K.In s.heap)(hm:PySem.W.makesIn K C=true)
  (hi:PySem.W.findIn K (.ref C) "__init__"=some (some (.ref f))) (hf:PySem.W.typeIn K (.ref f)=some (.type "function"))
  (h:codeAny (model prog w) (A.under (.builtin "type.__call__" ⟨.ref C::vs,kw⟩)) (.call (.ref f) ⟨.ref (s.heap.objs.size+1)::vs,kw⟩) (PySem.W.InitBack (s.heap.objs.size+1) R)
   {s with heap:=(s.heap.push PySem.W.emptyDict).push (PySem.W.instObj C s.heap.objs.size)}) :
  codeAny (model prog w) A (.call (.ref C) ⟨vs,kw⟩) R s:=by
 obtain⟨hh,g,d,t,os⟩:=s
 exact PySem.W.make_core (PySem.W.makes_of X hm) (PySem.W.looks_findIn X hi) (λself=>PySem.W.bind_fn X self hf) (.inl rfl) h
end

def putF (f:Str)(v:V):List (Str × V)->List (Str × V)
 | []=>[(f,v)]
 | (g,x)::r=>if g=f then (g,v)::r else (g,x)::putF f v r
theorem zaJ (f g:Str)(v:V):∀ fs:List (Str × V),(putF f v fs).lookup g=if g=f then some v else fs.lookup g
 | []=>by
  show List.lookup g [(f,v)]=_
  by_cases h:g=f
  ·have hb:(g == f)=true:=beq_iff_eq.mpr h
   simp only[List.lookup,hb,if_pos h]
  ·have hb:(g == f)=false:=beq_eq_false_iff_ne.mpr h
   simp only[List.lookup,hb,if_neg h]
 | (k,x)::r=>by
  have ih:=zaJ f g v r
  rw[show putF f v ((k,x)::r)=(if k=f then (k,v)::r else (k,x)::putF f v r) from rfl]
  by_cases hk:k=f
  ·rw[if_pos hk]
   by_cases h:g=k
   ·have hb:(g == k)=true:=beq_iff_eq.mpr h
    simp only[List.lookup,hb,if_pos (h.trans hk)]
   ·have hb:(g == k)=false:=beq_eq_false_iff_ne.mpr h
    simp only[List.lookup,hb,if_neg (λe:g=f=>h (e.trans hk.symm))]
  ·rw[if_neg hk]
   by_cases h:g=k
   ·have hb:(g == k)=true:=beq_iff_eq.mpr h
    simp only[List.lookup,hb,if_neg (λe:g=f=>hk (h.symm.trans e))]
   ·have hb:(g == k)=false:=beq_eq_false_iff_ne.mpr h
    simp only[List.lookup,hb]
    exact ih
theorem zfZ (f:Str)(v:V):∀ fs:List (Str × V),f∈(putF f v fs).map (·.1)/\∀ g,g∈fs.map (·.1)->g∈(putF f v fs).map (·.1)
 | []=>⟨by simp[putF],λg h=>by simp at h⟩
 | (k,x)::r=>by
  obtain⟨i1,i2⟩:=zfZ f v r
  rw[show putF f v ((k,x)::r)=(if k=f then (k,v)::r else (k,x)::putF f v r) from rfl]
  by_cases hk:k=f
  ·rw[if_pos hk]
   subst hk
   exact⟨by simp,λg h=>by simpa using h⟩
  ·rw[if_neg hk]
   refine⟨?_,λg h=>?_⟩
   ·rw[zmc]
    exact List.mem_cons_of_mem _ i1
   ·rw[zmc] at h ⊢
    rcases List.mem_cons.mp h with e | e
    ·exact List.mem_cons.mpr (.inl e)
    ·exact List.mem_cons_of_mem _ (i2 g e)
theorem zex (f:Str)(v:V):∀ fs:List (Str × V),(putF f v fs).length<=fs.length+1
 | []=>by simp[putF]
 | (k,x)::r=>by
  have ih:=zex f v r
  rw[show putF f v ((k,x)::r)=(if k=f then (k,v)::r else (k,x)::putF f v r) from rfl]
  by_cases hk:k=f
  ·rw[if_pos hk,List.length_cons,List.length_cons];omega
  ·rw[if_neg hk,List.length_cons,List.length_cons];omega
theorem RelO.some_of {v:V}{o:Option Value}(r:RelO (some v) o):∃ u,o=some u/\RelV v u:=by
 cases o with
 | none=>exact (show False from r).elim
 | some u=>exact⟨u,rfl,r⟩
theorem RelO.none_of {o:Option Value}(r:RelO none o):o=none:=by
 cases o with
 | none=>rfl
 | some u=>exact (show False from r).elim
theorem zln {v:V}{u:Value}(r:RelV v u):PySem.W.handedIn u=true:=by
 cases v with
 | non=>cases (show u=Value.none from r);rfl
 | bl b=>cases (show u=Value.bool b from r);rfl
 | int i=>obtain⟨t,e⟩:=(show ∃ t,u=Value.int i t from r);cases e;rfl
 | str x=>obtain⟨t,e⟩:=(show ∃ t,u=Value.str x t from r);cases e;rfl
 | byt b=>obtain⟨t,e⟩:=(show ∃ t,u=Value.bytes b t from r);cases e;rfl
 | flt b=>obtain⟨t,e⟩:=(show ∃ t,u=Value.float b t from r);cases e;rfl
 | ref a=>cases (show u=Value.ref a from r);rfl
 | ty n=>cases (show u=Value.type n from r);rfl
section
variable {P:Program}{w:World}{H H':Hp}{h h':Heap}{a C dx:Addr}{fs fs':List (Str × V)}
theorem zf0 (hok:HOk P w H h)(e:H a=some (.ins C dx fs)):∃ mA,ObjM h a dx C mA/\(∀ f,RelO (fs.lookup f) (mA f))/\PySem.Within mA (fs.map (·.1))/\fs.length<=1000/\H dx=some (.own a):=by
 obtain⟨d,z,ne,ob,mA,n,r,q⟩:=(show zbD P w H h a (.ins C dx fs) from hok a _ e)
 exact⟨mA,⟨ob,n,ne⟩,r,q,z,d⟩
end

structure Cls (K:Fg)(C:Addr):Prop where
 pg:PySem.W.plainGet K C Str.empty=true
 hd:PySem.W.hasDictIn K C=true
 po:PySem.W.plainOver K C=true
 sa:PySem.W.findIn K (.ref C) "__setattr__"=some (some (.builtin "object.__setattr__"))
theorem Cls.get {K:Fg}{C:Addr}(c:Cls K C)(f:Str):PySem.W.plainGet K C f=true:=c.pg
def zdE (K:Fg)(C:Addr)(f:Str):Prop:=PySem.W.findIn K (.ref C) f=some none
theorem zdE.taker {K:Fg}{C:Addr}{f:Str}(n:zdE K C f):PySem.W.takerIn K C f=some none:=by
 unfold PySem.W.takerIn
 rw[show PySem.W.findIn K (.ref C) f=some none from n]
 rfl
structure Meth (K:Fg)(C:Addr)(m:Str)(f:Addr):Prop where
 at_:PySem.W.findIn K (.ref C) m=some (some (.ref f))
 fn:PySem.W.isFn K (.ref f)=true
 kp:PySem.W.keepIn K (.ref f)=true
section
variable {X:Cx}{pins:List (Addr × Obj)}{σ:St}{H:Hp}{s:Shared}{a C dx:Addr}{fs:List (Str × V)}{f:Str}{v:V}{A:Around}{E:Value->Shared->Prop}

theorem zkq {b:Bool}{Q:Value->Shared->Prop}(I:Inv X pins σ H s)(e:H a=some (.ins C dx fs))(c:Cls X.K C)(n:zdE X.K C f)(l:fs.lookup f=some v)
  (h:∀ u s',Inv X pins σ H s'->RelV v u->Q u s'):wpAny (model X.prog X.w) A (getAttr (.ref a) f b) Q E s:=by
 obtain⟨mA,O,r,_,_,_⟩:=zf0 I.hok e
 obtain⟨u,hu,ru⟩:=RelO.some_of (v:=v) (o:=mA f) (by rw[<-l];exact r f)
 exact zol I.kIn O (c.get f) c.hd n hu (zln ru) (h u _ (I.tok _) ru)
theorem zed {m:Str}{g:Addr}{pl:Sem Bool}{Q:Value × List Value->Shared->Prop}(I:Inv X pins σ H s)(e:H a=some (.ins C dx fs))(c:Cls X.K C)(k:Meth X.K C m g)(l:fs.lookup m=none)
  (h:Q (.ref g,[.ref a]) s):wpAny (model X.prog X.w) A (getMethod (.ref a) m pl) Q E s:=by
 obtain⟨mA,O,r,_,_,_⟩:=zf0 I.hok e
 have hn:mA m=none:=RelO.none_of (by rw[<-l];exact r m)
 exact zmV I.kIn O (c.get m) k.at_ k.fn hn h
theorem zkr {y:V}{u:Value}{Q:Unit->Shared->Prop}(I:Inv X pins σ H s)(e:H a=some (.ins C dx fs))(c:Cls X.K C)(n:zdE X.K C f)(hl:fs.length<1000)(ry:RelV y u)
  (h:∀ s',Inv X pins σ (upd H a (.ins C dx (putF f y fs))) s'->Q () s'):wpAny (model X.prog X.w) A (setAttr (.ref a) f u) Q E s:=by
 obtain⟨mA,O,r,wi,_,ho⟩:=zf0 I.hok e
 have hz:(fs.map (·.1)).length<=sizeLine:=by rw[zlm,sizeLine_eq];omega
 refine zom I.kIn O c.sa c.po n.taker c.hd wi hz λh' O' sb=>h _ ?_
 have hd:∃ o,h'.get? dx=some o:=let ⟨o,_,_,e',_⟩:=O'.ns;⟨o,e'⟩
 refine I.write (x:=a) (e:=dx) (by rw[e];exact True.intro) (.inr ho) (λb q hb z=>(sb.2 b hb).trans z) hd ?_
 refine⟨by rw[zam O.ne];exact ho,?_,O.ne,O'.obj,_,O'.ns,λg=>?_,λg hg=>?_⟩
 ·have:=zex f y fs;omega
 ·show RelO ((putF f y fs).lookup g) (if g=f then some u else mA g)
  rw[zaJ]
  by_cases q:g=f
  ·rw[if_pos q,if_pos q];exact ry
  ·rw[if_neg q,if_neg q];exact r g
 ·by_cases q:g=f
  ·rw[q];exact (zfZ f y fs).1
  ·refine (zfZ f y fs).2 g (wi g λz=>hg ?_)
   show (if g=f then some u else mA g)=none
   rw[if_neg q];exact z
theorem Inv.made (I:Inv X pins σ H s):Inv X pins σ (upd (upd H s.heap.objs.size (.own (s.heap.objs.size+1))) (s.heap.objs.size+1) (.ins C s.heap.objs.size []))
  {s with heap:=(s.heap.push PySem.W.emptyDict).push (PySem.W.instObj C s.heap.objs.size)}:=by
 have e1:(s.heap.push PySem.W.emptyDict).get? s.heap.objs.size=some PySem.W.emptyDict:=Heap.get?_push_size s.heap rfl
 have e2:((s.heap.push PySem.W.emptyDict).push (PySem.W.instObj C s.heap.objs.size)).get? (s.heap.objs.size+1)=some (PySem.W.instObj C s.heap.objs.size):=by
  have:=Heap.get?_push_size (s.heap.push PySem.W.emptyDict) (o:=PySem.W.instObj C s.heap.objs.size) rfl
  rwa [Heap.size_push] at this
 have e3:(s.heap.push PySem.W.emptyDict).Ns s.heap.objs.size (λ_=>none):=⟨PySem.W.emptyDict,#[],_,e1,rfl,(λe he=>absurd he (by simp)),λ_=>rfl⟩
 have I1:=I.laid (a:=s.heap.objs.size) (o:=.own (s.heap.objs.size+1)) (h':=s.heap.push PySem.W.emptyDict) (t':=s.toks) (λb u q=>Heap.get?_push_of_some _ q) (Nat.le_refl _) ⟨_,e1⟩
 refine I1.laid (a:=s.heap.objs.size+1) (o:=.ins C s.heap.objs.size []) (t':=s.toks) (λb u q=>Heap.get?_push_of_some _ q) (Nat.le_of_eq (Heap.size_push _ _)) ?_
 have ne:s.heap.objs.size≠s.heap.objs.size+1:=Nat.ne_of_lt (Nat.lt_succ_self _)
 refine⟨by rw[zam ne,zad],Nat.zero_le _,ne,e2,λ_=>none,(Heap.Ns1.of_empty e3).at λo q=>Heap.get?_push_of_some _ q,λ_=>True.intro,λy hy=>absurd rfl hy⟩
theorem zon {prog:Program}{w:World}{env:Env}{e:Expr}{f:Str}{pos:Pos}{s:Shared}{Q:Value->Shared->Prop}(hb:attributeBase e f env (eval e env)=eval e env)
  (h:wpAny (model prog w) A (eval e env) (λo s₁=>wpAny (model prog w) A (getAttr o f true) Q E s₁) E s):wpAny (model prog w) A (eval (.Attribute e f pos) env) Q E s:=
 Attribute_any_ h (by rw[arm_eval_Attribute,hb])
end

inductive FldI (K:Fg)(f:Str)(x:V)(H:Hp)(Q:VK):Prop
 | mk (a C dx:Addr) (fs:List (Str × V)) (v:V) (e:x=.ref a) (ea:H a=some (.ins C dx fs)) (c:Cls K C) (n:zdE K C f) (l:fs.lookup f=some v) (q:Q v H):FldI K f x H Q
inductive FldS (K:Fg)(f:Str)(y x:V)(H:Hp)(P:Hp->Prop):Prop
 | mk (a C dx:Addr) (fs:List (Str × V)) (e:x=.ref a) (ea:H a=some (.ins C dx fs)) (c:Cls K C) (n:zdE K C f) (l:fs.length<1000) (q:P (upd H a (.ins C dx (putF f y fs)))):FldS K f y x H P
def tFld (K:Fg)(ta:TE)(f:Str):TE:=λσ H Q=>ta σ H λx H1=>FldI K f x H1 Q
def sFld (K:Fg)(ta tv:TE)(f:Str):TS:=λD σ H=>tv σ H λy H1=>ta σ H1 λx H2=>FldS K f y x H2 (D.nx σ)
section
variable {X:Cx}{o e value:Expr}{f:Str}{pos pos' tpos:Pos}{ta tv:TE}
theorem zpn (he:PE X e ta)(hb:attributeBase e f X.env (eval e X.env)=eval e X.env):PE X (.Attribute e f pos) (tFld X.K ta f):=by
 intro pins s σ H Q I h
 refine zon hb (thn (he pins s σ H _ I h) λu s1 ⟨x,H1,I1,rx,a,C,dx,fs,v,ex,ea,c,n,l,q⟩=>?_)
 subst ex
 obtain rfl:u=Value.ref a:=rx
 exact zkq I1 ea c n l λu' s2 I2 ru=>⟨v,H1,I2,ru,q⟩
theorem zhb (ha:PE X o ta)(hv:PE X value tv)(hs:swapsWith value (some (.Attribute o f pos')) pos.line X.env=pure false):PS X (.Assign [.Attribute o f pos'] value pos) (sFld X.K ta tv f):=by
 intro pins s σ H D I h
 refine plainObj_wpAny_Assign_Attribute (thn (hv pins s σ H _ I h) λu s1 ⟨y,H1,I1,ry,q⟩=>thn (ha pins s1 σ H1 _ I1 q) λov s2 ⟨x,H2,I2,rx,a,C,dx,fs,ex,ea,c,n,l,q2⟩=>?_) hs
 subst ex
 obtain rfl:ov=Value.ref a:=rx
 exact zkr I2 ea c n l ry λs3 I3=>⟨σ,_,I3,q2⟩
theorem zoo {pl:Sem Bool}{m:Str}{apos:Pos}{args:List Expr}{pins:List (Addr × Obj)}{s:Shared}{σ:St}{H:Hp}{Q:Value->Shared->Prop}{te:TE}(he:PE X e te)(I:Inv X pins σ H s)
  (h:te σ H λx H1=>∃ a C dx fs g,x=.ref a/\H1 a=some (.ins C dx fs)/\Cls X.K C/\Meth X.K C m g/\fs.lookup m=none/\
   ∀ s1,Inv X pins σ H1 s1->wpAny (model X.prog X.w) X.A (callWith pos (.ref g) [.ref a] (backTo pos (starEach args X.env)) (backToKw pos (keywordEach [] X.env))) Q X.xe s1)
  (ht:eval (.Call (.Attribute e m apos) args [] pos) X.env=(do
   let ov <-eval e X.env
   standAt apos.atName
   let (f,first) <-holding [ov] (getMethod ov m pl)
   callWith pos f first (backTo pos (starEach args X.env)) (backToKw pos (keywordEach [] X.env)))) :
  wpAny (model X.prog X.w) X.A (eval (.Call (.Attribute e m apos) args [] pos) X.env) Q X.xe s:=by
 refine PySem.W.methodCall_KW (pl:=pl) (thn (he pins s σ H _ I h) λu s1 ⟨x,H1,I1,rx,a,C,dx,fs,g,ex,ea,c,k,l,q⟩=>?_) ht
 subst ex
 obtain rfl:u=Value.ref a:=rx
 exact zed I1 ea c k l (q s1 I1)
end

section
variable {X:Cx}{pins:List (Addr × Obj)}{σ:St}{H:Hp}{s:Shared}{A:Around}{E:Value->Shared->Prop}{Q:Value->Shared->Prop}{c:Value}{b:Bool}
inductive TyOf (K:Fg)(H:Hp):V->Value->Prop where
 | non:TyOf K H .non (.type "NoneType")
 | bl (x:Bool):TyOf K H (.bl x) (.type "bool")
 | int (i:Int):TyOf K H (.int i) (.type "int")
 | str (x:Str):TyOf K H (.str x) (.type "str")
 | flt (x:UInt64):TyOf K H (.flt x) (.type "float")
 | lst {a:Addr}{xs:List V}(e:H a=some (.lst xs)):TyOf K H (.ref a) (.type "list")
 | frz {a:Addr}{o:Obj}{xs:List V}(e:H a=some (.frz o (.lst xs))):TyOf K H (.ref a) (.type "list")
 | tup {a:Addr}{xs:List V}(e:H a=some (.tup xs)):TyOf K H (.ref a) (.type "tuple")
 | dK {a:Addr}{kvs:List (Key × V)}(e:H a=some (.dK kvs)):TyOf K H (.ref a) (.type "dict")
 | dT {a:Addr}{kvs:List (List Key × V)}(e:H a=some (.dT kvs)):TyOf K H (.ref a) (.type "dict")
 | ins {a C dx:Addr}{fs:List (Str × V)}(e:H a=some (.ins C dx fs)) (cl:Cls K C) (ha:PySem.W.findIn K (.ref C) "__class__"=some (some (.builtin "object.__class__")))
   (hn:PySem.W.specialIn K (.builtin "object.__class__") "__get__"=some (some (.builtin "getset_descriptor.__get__"))) (htk:PySem.W.takesIn K (.builtin "object.__class__")=some true)
   (hm:PySem.W.mroIn K C (.type "object")=some true):TyOf K H (.ref a) (.ref C)
theorem zlo {x:V}{u t:Value}(I:Inv X pins σ H s)(rx:RelV x u)(ty:TyOf X.K H x t)(e:PySem.W.kitOne X.K t c=some b)(h:∀ tk,Q (.bool b) {s with toks:=tk}) :
  wpAny (model X.prog X.w) A (call (.builtin "isinstance") [u,c]) Q E s:=by
 cases ty with
 | non=>cases (show u=Value.none from rx);exact PySem.W.kia_one PySem.W.kitx_none I.kIn True.intro e (λz=>nomatch z) h
 | bl y=>cases (show u=Value.bool y from rx);exact PySem.W.kia_one PySem.W.kitx_bool I.kIn True.intro e (λz=>nomatch z) h
 | int i=>obtain⟨t,q⟩:=(show ∃ t,u=Value.int i t from rx);cases q;exact PySem.W.kia_one PySem.W.kitx_int I.kIn True.intro e (λz=>nomatch z) h
 | str y=>obtain⟨t,q⟩:=(show ∃ t,u=Value.str y t from rx);cases q;exact PySem.W.kia_one PySem.W.kitx_str I.kIn True.intro e (λz=>nomatch z) h
 | flt y=>obtain⟨t,q⟩:=(show ∃ t,u=Value.float y t from rx);cases q;exact PySem.W.kia_one PySem.W.kitx_float I.kIn True.intro e (λz=>nomatch z) h
 | @lst a xs ea=>
  cases (show u=Value.ref a from rx)
  obtain⟨_,_,n,_,h1⟩:=(show zbD X.prog X.w H s.heap a (.lst xs) from I.hok a _ ea)
  exact PySem.W.kia_one PySem.W.kitx_list I.kIn ⟨_,h1,rfl⟩ e (λz=>nomatch z) h
 | @frz a ob xs ea=>
  cases (show u=Value.ref a from rx)
  obtain⟨_,_,_,n,_,h1⟩:=(show zbD X.prog X.w H s.heap a (.frz ob (.lst xs)) from I.hok a _ ea)
  exact PySem.W.kia_one PySem.W.kitx_list I.kIn ⟨_,h1,rfl⟩ e (λz=>nomatch z) h
 | @tup a xs ea=>
  cases (show u=Value.ref a from rx)
  obtain⟨_,_,_,p⟩:=(show zbD X.prog X.w H s.heap a (.tup xs) from I.hok a _ ea)
  obtain⟨o,h1,h2,_⟩:=p
  exact PySem.W.kia_one PySem.W.kitx_tuple I.kIn ⟨o,h1,h2⟩ e (λz=>nomatch z) h
 | @dK a kvs ea=>
  cases (show u=Value.ref a from rx)
  obtain⟨_,_,vs,_,p⟩:=(show zbD X.prog X.w H s.heap a (.dK kvs) from I.hok a _ ea)
  obtain⟨o,es,ep,h1,h2,_⟩:=p
  exact PySem.W.kia_one PySem.W.kitx_dict I.kIn ⟨o,h1,h2.1⟩ e (λz=>nomatch z) h
 | @dT a kvs ea=>
  cases (show u=Value.ref a from rx)
  obtain⟨_,_,xs,_,o,es,ep,h1,h2,_⟩:=(show zbD X.prog X.w H s.heap a (.dT kvs) from I.hok a _ ea)
  exact PySem.W.kia_one PySem.W.kitx_dict I.kIn ⟨o,h1,h2.1⟩ e (λz=>nomatch z) h
 | @ins a C dx fs ea cl ha hn htk hm=>
  cases (show u=Value.ref a from rx)
  obtain⟨mA,O,_⟩:=zf0 I.hok ea
  obtain⟨od,J,_⟩:=O.look
  exact PySem.W.kia_one (PySem.W.kitx_own (cl.get _) cl.hd ha hn htk hm) I.kIn J e (λz=>nomatch z) h
end
end L2

namespace L2
open PySem PySem.Spec PyProof.Rows

structure Room (k:Nat)(A:Around):Prop where
 hd:A.handled=none
 dp:A.depth+3 * k+5<recursionLimit
 un:A.units+16 * k+200<cLine
 gd:A.guards=some []
theorem Room.mono {j k:Nat}{A:Around}(r:Room k A)(h:j<=k):Room j A:=⟨r.hd,by have:=r.dp;omega,by have:=r.un;omega,r.gd⟩
theorem Room.deeper {k:Nat}{A:Around}(r:Room (k+1) A)(env:Env):Room k (A.deeper env):=
 ⟨r.hd,by have:=r.dp;show A.depth+1+3 * k+5<_;omega,by have:=r.un;show A.units+3+16 * k+200<_;omega,r.gd⟩
theorem zks {A:Around}{C:Addr}{us:List Value}{kw:List (Str × Value)} : (A.under (.builtin "type.__call__" ⟨.ref C::us,kw⟩)).depth=A.depth+1:=by
 first | rfl | simp[Around.under,Code.weight,Code.isCreation,Code.isGuard,Code.isCaller,Code.frames,Code.isFrame,guardIds]
theorem zkt {A:Around}{C:Addr}{us:List Value}{kw:List (Str × Value)} : (A.under (.builtin "type.__call__" ⟨.ref C::us,kw⟩)).units=A.units+1:=by
 first | rfl | simp[Around.under,Code.cUnits,Code.frames,Code.isFrame]
theorem zjh {A:Around}{C:Addr}{us:List Value}{kw:List (Str × Value)}(h:A.guards=some []):(A.under (.builtin "type.__call__" ⟨.ref C::us,kw⟩)).guards=some []:=by
 simp[Around.under,Code.guards,Code.isGuard,guardIds,pushGuards,h]
theorem Room.make {k:Nat}{A:Around}(r:Room (k+1) A)(C:Addr)(us:List Value)(kw:List (Str × Value)):Room k (A.under (.builtin "type.__call__" ⟨.ref C::us,kw⟩)):=
 ⟨r.hd,by have:=r.dp;rw[zks];omega,by have:=r.un;rw[zkt];omega,zjh r.gd⟩
theorem Room.depth {k:Nat}{A:Around}(r:Room k A):A.depth<recursionLimit:=by have:=r.dp;omega
theorem Room.units {k:Nat}{A:Around}(r:Room k A):A.units+64<cLine:=by have:=r.un;omega
def tNil:TA:=λ_ H Q=>Q [] H
def zc6 (ta:TE)(tr:TA):TA:=λσ H Q=>ta σ H λx H1=>tr σ H1 λxs H2=>Q (x::xs) H2
section
variable {X:Cx}{e:Expr}{es:List Expr}{te:TE}{t:TA}{pos:Pos}
theorem zab:PA X [] tNil:=λ_ _ _ _ H Q I h=>Calls.spliced_nil ⟨[],H,I,.nil,h⟩
theorem za0 (ha:PE X e te)(hr:PA X es t)(hs:starEach (e::es) X.env=(false,eval e X.env)::starEach es X.env:=by rfl):PA X (e::es) (zc6 te t):=by
 intro pos pins s σ H Q I h
 rw[hs]
 show wpAny _ _ (spliced ((false,eval e X.env)::backTo pos (starEach es X.env))) _ _ s
 refine Calls.spliced_cons (thn (ha pins s σ H _ I h) λu s1 ⟨x,H1,I1,r1,q1⟩=>?_)
 exact thn (hr pos pins s1 σ H1 _ I1 q1) λus s2 ⟨xs,H2,I2,r2,q2⟩=>⟨x::xs,H2,I2,.cons r1 r2,q2⟩
def tTup (t:TA):TE:=λσ H Q=>t σ H λxs H1=>xs.length<=sizeLine/\∀ p,H1 p=none->Q (.ref p) (upd H1 p (.tup xs))
def tLst (t:TA):TE:=λσ H Q=>t σ H λxs H1=>xs.length<=sizeLine/\∀ p,H1 p=none->Q (.ref p) (upd H1 p (.lst xs))
theorem zdP {x1}(h:PA X es t):PE X (.Tuple es x1 pos) (tTup t):=by
 intro pins s σ H Q I hq
 refine wpAny_Tuple_spliced (thn (h pos pins s σ H _ I hq) λus s1 ⟨xs,H1,I1,r,z,q⟩=>⟨by rw[<-r.length];exact z,?_⟩)
 have hf:H1 s1.heap.objs.size=none:=I1.hok.fresh (Nat.le_refl _)
 refine⟨.ref s1.heap.objs.size,upd H1 s1.heap.objs.size (.tup xs),I1.laid (t':=s1.toks) (λb u e=>Heap.get?_push_of_some _ e) (Nat.le_refl _) ?_,rfl,q _ hf⟩
 exact⟨z,us,r,⟨_,Heap.get?_push_size _ rfl,rfl,_,rfl⟩⟩
theorem zaE (h:PA X es t):PE X (.List es pos) (tLst t):=by
 intro pins s σ H Q I hq
 refine wpAny_List_spliced (thn (h pos pins s σ H _ I hq) λus s1 ⟨xs,H1,I1,r,z,q⟩=>⟨by rw[<-r.length];exact z,?_⟩)
 have hf:H1 s1.heap.objs.size=none:=I1.hok.fresh (Nat.le_refl _)
 refine⟨.ref s1.heap.objs.size,upd H1 s1.heap.objs.size (.lst xs),I1.laid (t':=s1.toks) (λb u e=>Heap.get?_push_of_some _ e) (Nat.le_refl _) ?_,rfl,q _ hf⟩
 exact⟨z,us,0,r,Heap.get?_push_size _ rfl⟩
end

abbrev Sp:=List V->Hp->VK->XK->Prop
abbrev CXT:=List Env->Hp->Shared->XK->Value->Shared->Prop
structure Env0 (P:Program)(w:World)(K:Fg)(mg:Str->Option Value)(base:Heap)(A:Around)(outer:List Env)(s:Shared)(H:Hp):Prop where
 frames:A.frames=some outer
 mod:Mod K mg base
 bs:∀ b o,base.get? b=some o->s.heap.get? b=some o/\H b=none
 bsz:base.objs.size<=s.heap.objs.size
 funs:s.heap.FunFrames base outer
 frf:∀ b∈frs outer,H b=none
 hok:HOk P w H s.heap
 bare:AllBare s.gens
def CE (outer:List Env)(P:Program)(w:World)(H:Hp)(s:Shared)(Q:VK)(u:Value)(s':Shared):Prop:=
 ∃ v H',s'.os=s.os/\AllBare s'.gens/\Un (frs outer) [] H H' s.heap s'.heap/\HOk P w H' s'.heap/\RelV v u/\Q v H'
def CR (CX:CXT)(outer:List Env)(P:Program)(w:World)(H:Hp)(s:Shared)(Q:VK)(E:XK)(r:Result)(s':Shared):Prop:=
 match r with
 | .ok (.ret u)=>CE outer P w H s Q u s'
 | .ok _=>False
 | .error e=>CX outer H s E e s'
structure FnOk (P:Program)(w:World)(K:Fg)(mg:Str->Option Value)(base:Heap)(CX:CXT)(k:Nat)(f:Addr)(fd:FuncData)(ps:List Str)(sp:Sp):Prop where
 len:∀ vs H Q E,sp vs H Q E->vs.length=ps.length
 run:∀ (A:Around) (outer:List Env) (s:Shared) (H:Hp) (args:Args) (us:List Value) (vs:List V) (Q:VK) (E:XK),Room k A->Env0 P w K mg base A outer s H->BindsTo s fd args (ps.zip us)->Vals vs us->sp vs H Q E->
  codeAny (model P w) A (.call (.ref f) args) (CR CX outer P w H s Q E) s
theorem FnOk.mono {P:Program}{w:World}{K:Fg}{mg:Str->Option Value}{base:Heap}{CX:CXT}{j k:Nat}{f:Addr}{fd:FuncData}{ps:List Str}{sp:Sp}(F:FnOk P w K mg base CX j f fd ps sp)(h:j<=k) :
  FnOk P w K mg base CX k f fd ps sp:=⟨F.len,λA outer s H args us vs Q E hr=>F.run A outer s H args us vs Q E (hr.mono h)⟩
theorem Env0.make {P:Program}{w:World}{K:Fg}{mg:Str->Option Value}{base:Heap}{A:Around}{outer:List Env}{s:Shared}{H:Hp}(e:Env0 P w K mg base A outer s H)(C:Addr)(us:List Value)(kw:List (Str × Value)) :
  Env0 P w K mg base (A.under (.builtin "type.__call__" ⟨.ref C::us,kw⟩)) outer s H:=⟨by first | exact e.frames | (simpa [Around.under,Code.envs,Code.isFrame,pushEnvs] using e.frames),e.mod,e.bs,e.bsz,e.funs,e.frf,e.hok,e.bare⟩
section
variable {X:Cx}{pins:List (Addr × Obj)}{σ:St}{H:Hp}{s s':Shared}
theorem Inv.env0 (I:Inv X pins σ H s):Env0 X.prog X.w X.K X.mg X.base X.A X.stack s H:=
 ⟨I.ok.frames,I.ok.mod,I.bs,Nat.le_trans I.ok.bsz I.sz,I.stack,I.stkFree,I.hok,I.bare⟩
theorem Inv.after {Q:VK}{u:Value}(I:Inv X pins σ H s)(h:CE X.stack X.prog X.w H s Q u s'):EP X pins σ Q u s':=by
 obtain⟨v,H',os,bare,un,hok,r,q⟩:=h
 obtain⟨hh,g,d,t,os'⟩:=s'
 obtain rfl:os'=s.os:=os
 exact⟨v,H',I.call (h':=hh) (g':=g) (d':=d) (t':=t) (ch:=[]) un hok bare (λb z=>absurd z (by simp)),r,q⟩
end

def zik (sp:Sp)(dvs:List V)(E:XK)(t:TA):TE:=λσ H Q=>t σ H λvs H1=>sp (vs++dvs) H1 Q E
inductive MethI (C:Addr)(m:Str)(x:V)(H:Hp)(P:Prop):Prop
 | mk (a dx:Addr) (fs:List (Str × V)) (e:x=.ref a) (ea:H a=some (.ins C dx fs)) (l:fs.lookup m=none) (q:P):MethI C m x H P
def zku (C:Addr)(m:Str)(sp:Sp)(dvs:List V)(E:XK)(ta:TE)(t:TA):TE:=λσ H Q=>ta σ H λx H1=>MethI C m x H1 (t σ H1 λvs H2=>sp (x::(vs++dvs)) H2 Q E)
def zlp (C:Addr)(sp:Sp)(dvs:List V)(E:XK)(t:TA):TE:=λσ H Q=>t σ H λvs H1=>∀ x dx,H1 x=none->H1 dx=none->dx≠x->
 sp (.ref x::(vs++dvs)) (upd (upd H1 dx (.own x)) x (.ins C dx [])) (λv H2=>v=.non/\Q (.ref x) H2) E
def zdQ (K:Fg)(fd:FuncData)(ps:List Str)(ds:List Value):Prop:=
 ∀ (s:Shared) (us:List Value),K.In s.heap->(us++ds).length=ps.length->BindsTo s fd ⟨us,[]⟩ (ps.zip (us++ds))
theorem zdQ.all {K:Fg}{fd:FuncData}{ps:List Str}(h:∀ us:List Value,us.length=ps.length->bindArgs fd ⟨us,[]⟩=pure (ps.zip us)):zdQ K fd ps []:=λs us _ hl=>by
 rw[List.append_nil] at hl ⊢
 exact .of_eq (h us hl)
def zcM (CX:CXT)(X:Cx)(E:XK):Prop:=∀ (pins:List (Addr × Obj)) (σ:St) (H:Hp) (s:Shared) (e:Value) (s':Shared),Inv X pins σ H s->CX X.stack H s E e s'->X.xe e s'
section
variable {X:Cx}{CX:CXT}{k:Nat}{f C:Addr}{fd:FuncData}{ps:List Str}{sp:Sp}{dvs:List V}{ds:List Value}{E:XK}{x m:Str}{p pos apos:Pos}{e o:Expr}{es:List Expr}{ta:TE}{t:TA}

theorem zlq {pins:List (Addr × Obj)}{σ:St}{H:Hp}{s:Shared}{Q:VK}{us:List Value}{vs:List V}(F:FnOk X.prog X.w X.K X.mg X.base CX k f fd ps sp)(hr:Room k X.A)(hb:zdQ X.K fd ps ds)(hd:Vals dvs ds)(hx:zcM CX X E)
  (I:Inv X pins σ H s) (r:Vals vs us) (h:sp (vs++dvs) H Q E):wpAny (model X.prog X.w) X.A (call (.ref f) us) (EP X pins σ Q) X.xe s:=by
 have r2:Vals (vs++dvs) (us++ds):=r.append hd
 have hl:(us++ds).length=ps.length:=by rw[<-r2.length];exact F.len _ _ _ _ h
 refine wpAny_call (codeAny_mono (F.run X.A X.stack s H ⟨us,[]⟩ (us++ds) (vs++dvs) Q E hr I.env0 (hb s us I.kIn hl) r2 h) λr s' hq=>?_)
 cases r with
 | error e=>exact hx pins σ H s e s' I hq
 | ok fl=>
  cases fl with
  | ret u=>exact I.after hq
  | next=>exact False.elim hq
  | brk=>exact False.elim hq
  | cont=>exact False.elim hq
theorem zlr (F:FnOk X.prog X.w X.K X.mg X.base CX k f fd ps sp)(hr:Room k X.A)(hg:Gl X x)(hm:X.mg x=some (.ref f))(hk:PySem.W.keepIn X.K (.ref f)=true)(hb:zdQ X.K fd ps ds)(hd:Vals dvs ds)(hx:zcM CX X E)
  (ha:PA X (e::es) t) (hdb:(x == ("__debug__" : Str))=false:=by decide) (he:starEach (e::es) X.env=(false,eval e X.env)::starEach es X.env:=by rfl) (hpl:(backTo pos (starEach es X.env)).any (·.1)=false:=by rfl) :
  PE X (.Call (.Name x p) (e::es) [] pos) (zik sp dvs E t):=by
 intro pins s σ H Q I h
 refine wpAny_Call_Name_kw (zew I hg hm ?_ hdb)
 refine PySem.W.callWith_K (h₀:=X.base) I.ok.mod.kin hk (thn (ha pos pins s σ H _ I h) λus s1 ⟨vs,H1,I1,r,q⟩=>⟨I1.kIn,?_⟩) he hpl
 exact zlq F hr hb hd hx I1 r q
theorem zop {pl:Sem Bool}(he:PE X o ta)(c:Cls X.K C)(hm:Meth X.K C m f)(F:FnOk X.prog X.w X.K X.mg X.base CX k f fd ps sp)(hr:Room k X.A)(hb:zdQ X.K fd ps ds)(hd:Vals dvs ds)(hx:zcM CX X E)(ha:PA X (e::es) t)
  (hst:starEach (e::es) X.env=(false,eval e X.env)::starEach es X.env:=by rfl) (hpl:(backTo pos (starEach es X.env)).any (·.1)=false:=by rfl)
  (ht:eval (.Call (.Attribute o m apos) (e::es) [] pos) X.env=(do
   let ov <-eval o X.env
   standAt apos.atName
   let (f,first) <-holding [ov] (getMethod ov m pl)
   callWith pos f first (backTo pos (starEach (e::es) X.env)) (backToKw pos (keywordEach [] X.env))):=by rfl) :
  PE X (.Call (.Attribute o m apos) (e::es) [] pos) (zku C m sp dvs E ta t):=by
 intro pins s σ H Q I h
 refine PySem.W.methodCall_KW (pl:=pl) (thn (he pins s σ H _ I h) λu s1 ⟨x,H1,I1,rx,a,dx,fs,ex,ea,l,q⟩=>?_) ht
 subst ex
 obtain rfl:u=Value.ref a:=rx
 refine zed I1 ea c hm l ?_
 refine PySem.W.callWith_K (first:=[.ref a]) (h₀:=X.base) I.ok.mod.kin hm.kp (thn (ha pos pins s1 σ H1 _ I1 q) λus s2 ⟨vs,H2,I2,r,q2⟩=>⟨I2.kIn,?_⟩) hst hpl
 exact zlq (us:=.ref a::us) (vs:=.ref a::vs) F hr hb hd hx I2 (.cons rfl r) q2
theorem zmX {pl:Sem Bool}(he:PE X o ta)(c:Cls X.K C)(hm:Meth X.K C m f)(F:FnOk X.prog X.w X.K X.mg X.base CX k f fd ps sp)(hr:Room k X.A)(hb:zdQ X.K fd ps ds)(hd:Vals dvs ds)(hx:zcM CX X E)
  (ht:eval (.Call (.Attribute o m apos) [] [] pos) X.env=(do
   let ov <-eval o X.env
   standAt apos.atName
   let (f,first) <-holding [ov] (getMethod ov m pl)
   callWith pos f first (backTo pos (starEach [] X.env)) (backToKw pos (keywordEach [] X.env))):=by rfl) :
  PE X (.Call (.Attribute o m apos) [] [] pos) (zku C m sp dvs E ta tNil):=by
 intro pins s σ H Q I h
 refine PySem.W.methodCall_KW (pl:=pl) (thn (he pins s σ H _ I h) λu s1 ⟨x,H1,I1,rx,a,dx,fs,ex,ea,l,q⟩=>?_) ht
 subst ex
 obtain rfl:u=Value.ref a:=rx
 refine zed I1 ea c hm l ?_
 exact PySem.W.callWith_K0 (first:=[.ref a]) I1.kIn hm.kp (zlq (us:=[.ref a]) (vs:=[.ref a]) F hr hb hd hx I1 (.cons rfl .nil) q)
structure Mk (K:Fg)(C f:Addr):Prop where
 makes:PySem.W.makesIn K C=true
 init:PySem.W.findIn K (.ref C) "__init__"=some (some (.ref f))
 fn:PySem.W.isFn K (.ref f)=true
 kp:PySem.W.keepIn K (.ref C)=true
theorem zjW {pins:List (Addr × Obj)}{σ:St}{H:Hp}{s:Shared}{Q:VK}{us:List Value}{vs:List V}(M:Mk X.K C f)(F:FnOk X.prog X.w X.K X.mg X.base CX k f fd ps sp)(hr:Room (k+1) X.A)(hb:zdQ X.K fd ps ds)(hd:Vals dvs ds)
  (hx:zcM CX X E) (I:Inv X pins σ H s) (r:Vals vs us)
  (h:∀ x dx,H x=none->H dx=none->dx≠x->sp (.ref x::(vs++dvs)) (upd (upd H dx (.own x)) x (.ins C dx [])) (λv H2=>v=.non/\Q (.ref x) H2) E) :
  wpAny (model X.prog X.w) X.A (call (.ref C) us) (EP X pins σ Q) X.xe s:=by
 have hq:=h (s.heap.objs.size+1) s.heap.objs.size (I.hok.fresh (Nat.le_succ _)) (I.hok.fresh (Nat.le_refl _)) (Nat.ne_of_lt (Nat.lt_succ_self _))
 have I2:=Inv.made (C:=C) I
 have r2:Vals (V.ref (s.heap.objs.size+1)::(vs++dvs)) (Value.ref (s.heap.objs.size+1)::(us++ds)):=.cons rfl (r.append hd)
 have hl:(Value.ref (s.heap.objs.size+1)::us++ds).length=ps.length:=by
  have e:=r2.length
  rw[F.len _ _ _ _ hq] at e
  exact e.symm
 refine wpAny_call (zmW (f:=f) I.kIn M.makes M.init (beq_iff_eq.mp M.fn) (codeAny_mono (F.run _ X.stack _ _ ⟨Value.ref (s.heap.objs.size+1)::us,[]⟩ (Value.ref (s.heap.objs.size+1)::(us++ds)) _ _ E (hr.make C us [])
  (I2.env0.make C us []) (hb _ (Value.ref (s.heap.objs.size+1)::us) I2.kIn hl) r2 hq) λr s' hq'=>?_))
 cases r with
 | error e=>exact hx pins σ _ _ e s' I2 hq'
 | ok fl=>
  cases fl with
  | ret u=>
   obtain⟨v,H',I3,rv,ev,q3⟩:=I2.after hq'
   subst ev
   exact⟨rv,⟨V.ref (s.heap.objs.size+1),H',I3,rfl,q3⟩⟩
  | next=>exact False.elim hq'
  | brk=>exact False.elim hq'
  | cont=>exact False.elim hq'
theorem zoq (M:Mk X.K C f)(F:FnOk X.prog X.w X.K X.mg X.base CX k f fd ps sp)(hr:Room (k+1) X.A)(hg:Gl X x)(hm:X.mg x=some (.ref C))(hb:zdQ X.K fd ps ds)(hd:Vals dvs ds)(hx:zcM CX X E)
  (ha:PA X (e::es) t) (hdb:(x == ("__debug__" : Str))=false:=by decide) (he:starEach (e::es) X.env=(false,eval e X.env)::starEach es X.env:=by rfl) (hpl:(backTo pos (starEach es X.env)).any (·.1)=false:=by rfl) :
  PE X (.Call (.Name x p) (e::es) [] pos) (zlp C sp dvs E t):=by
 intro pins s σ H Q I h
 refine wpAny_Call_Name_kw (zew I hg hm ?_ hdb)
 refine PySem.W.callWith_K (h₀:=X.base) I.ok.mod.kin M.kp (thn (ha pos pins s σ H _ I h) λus s1 ⟨vs,H1,I1,r,q⟩=>⟨I1.kIn,?_⟩) he hpl
 exact zjW M F hr hb hd hx I1 r q
theorem zmY (M:Mk X.K C f)(F:FnOk X.prog X.w X.K X.mg X.base CX k f fd ps sp)(hr:Room (k+1) X.A)(hg:Gl X x)(hm:X.mg x=some (.ref C))(hb:zdQ X.K fd ps ds)(hd:Vals dvs ds)(hx:zcM CX X E)
  (hdb:(x == ("__debug__" : Str))=false:=by decide):PE X (.Call (.Name x p) [] [] pos) (zlp C sp dvs E tNil):=by
 intro pins s σ H Q I h
 refine wpAny_Call_Name_kw (zew I hg hm ?_ hdb)
 exact PySem.W.callWith_K0 I.kIn M.kp (zjW (us:=[]) M F hr hb hd hx I .nil h)
end

section
variable {X:Cx}{CX:CXT}{k:Nat}{f C:Addr}{fd:FuncData}{ps ks:List Str}{sp:Sp}{E:XK}{x m:Str}{p pos apos kpos:Pos}{e o:Expr}{es:List Expr}{kws:List Keyword}{te ta:TE}{t tk:TA}{nm:Option Str}
variable {g:List Value->List Value->List Value}{gV:List V->List V->List V}
end

structure FSc (N P:List Str)(sc:Scope):Prop where
 kind:sc.kind=.function
 co:sc.isCoroutine=false
 gen:sc.isGenerator=false
 nd:N.Nodup
 pre:N.take P.length=P
 par:∀ x∈P,sc.names.lookup x=some .local\/sc.names.lookup x=some .cell
 nofree:∀ y∈sc.names,y.2≠.free
theorem zil {kindOf:Str->Option NameKind}{x:Str} : ∀ {binds:List (Str × Value)}{m:Str->Option Value},(∀ v,(x,v)∉binds)->bindL kindOf binds m x=m x
 | [],_,_=>rfl
 | (n,v)::r,m,h=>by
  unfold bindL
  rw[zil λw hw=>h w (List.mem_cons_of_mem _ hw)]
  split
  ·have:x≠n:=by rintro rfl;exact h v List.mem_cons_self
   simp[this]
  ·rfl
theorem zim {kindOf:Str->Option NameKind}{x:Str} : ∀ {binds:List (Str × Value)}{m:Str->Option Value},(∀ v,(x,v)∉binds)->bindC kindOf binds m x=m x
 | [],_,_=>rfl
 | (n,v)::r,m,h=>by
  unfold bindC
  rw[zim λw hw=>h w (List.mem_cons_of_mem _ hw)]
  split
  ·rfl
  ·have:x≠n:=by rintro rfl;exact h v List.mem_cons_self
   simp[this]
theorem zf1 {kindOf:Str->Option NameKind}{x:Str}{v:Value} : ∀ {P:List Str}{vs:List Value}{i:Nat}{m:Str->Option Value},P.Nodup->P[i]?=some x->vs[i]?=some v->kindOf x=some .local->
  bindL kindOf (P.zip vs) m x=some v
 | [],_,_,_,_,h,_,_=>by simp at h
 | _::_,[],_,_,_,_,h,_=>by simp at h
 | p::P,w::vs,0,m,nd,h1,h2,hk=>by
  simp at h1 h2;subst h1;subst h2
  show bindL kindOf ((p,w)::P.zip vs) m p=_
  unfold bindL
  rw[zil λv hv=>(List.nodup_cons.mp nd).1 (List.of_mem_zip hv).1,if_pos hk]
  simp
 | p::P,w::vs,i+1,m,nd,h1,h2,hk=>by
  show bindL kindOf ((p,w)::P.zip vs) m x=_
  unfold bindL
  exact zf1 (i:=i) (List.nodup_cons.mp nd).2 (by simpa using h1) (by simpa using h2) hk
theorem zf2 {kindOf:Str->Option NameKind}{x:Str}{v:Value} : ∀ {P:List Str}{vs:List Value}{i:Nat}{m:Str->Option Value},P.Nodup->P[i]?=some x->vs[i]?=some v->kindOf x≠some .local->
  bindC kindOf (P.zip vs) m x=some v
 | [],_,_,_,_,h,_,_=>by simp at h
 | _::_,[],_,_,_,_,h,_=>by simp at h
 | p::P,w::vs,0,m,nd,h1,h2,hk=>by
  simp at h1 h2;subst h1;subst h2
  show bindC kindOf ((p,w)::P.zip vs) m p=_
  unfold bindC
  rw[zim λv hv=>(List.nodup_cons.mp nd).1 (List.of_mem_zip hv).1,if_neg hk]
  simp
 | p::P,w::vs,i+1,m,nd,h1,h2,hk=>by
  show bindC kindOf ((p,w)::P.zip vs) m x=_
  unfold bindC
  exact zf2 (i:=i) (List.nodup_cons.mp nd).2 (by simpa using h1) (by simpa using h2) hk
def start (N:List Str)(vs:List V):St:=vs.map some++List.replicate (N.length - vs.length) none
def cxOf (CX:CXT)(P:Program)(w:World)(K:Fg)(mg:Str->Option Value)(base:Heap)(N:List Str)(qual:Str)(scope:Scope)(f:Addr)(cd:Value)(A:Around)(outer:List Env)(s:Shared)(H:Hp)(E:XK):Cx where
 prog:=P
 w:=w
 K:=K
 mg:=mg
 base:=base
 A:=A.deeper (envOfC qual scope s.heap.objs.size f cd)
 N:=N
 s₀:=s
 H₀:=H
 env:=envOfC qual scope s.heap.objs.size f cd
 outer:=outer
 stack:=envOfC qual scope s.heap.objs.size f cd::outer
 ex:=[]
 calm:=true
 fn:=λ_=>true
 pn:=[]
 xe:=λe s'=>wpAny (model P w) (A.deeper (envOfC qual scope s.heap.objs.size f cd)) (leaving (envOfC qual scope s.heap.objs.size f cd) e) (λ_ s''=>CX outer H s E e s'') (λe' s''=>CX outer H s E e' s'') s'
theorem zfM {sc:Scope}{n:Nat}{x:Str}(h:sc.names.lookup x=some .cell):∃ c,(cellsFrom n sc.names []).lookup x=some c:=by
 have q:=PySem.W.cellsFrom_some sc.names n [] (.inl h)
 exact Option.isSome_iff_exists.mp q
theorem zls {CX:CXT}{P:Program}{w:World}{K:Fg}{mg:Str->Option Value}{base:Heap}{N ps:List Str}{qual:Str}{scope:Scope}{f:Addr}{cd:Value}{A:Around}{outer:List Env}{s s1:Shared}{H:Hp}{E:XK}{us:List Value}{vs:List V}
  (S:FSc N ps scope) (hd:A.handled=none) (e0:Env0 P w K mg base A outer s H) (hl:vs.length=ps.length) (r:Vals vs us)
  (x:InCallC s s.heap.objs.size (bindL (envOfC qual scope s.heap.objs.size f cd).kindOf (ps.zip us) λ_=>none) (cellsFrom (s.heap.objs.size+1) scope.names []) (bindC (envOfC qual scope s.heap.objs.size f cd).kindOf (ps.zip us) λ_=>none) s1) :
  Inv (cxOf CX P w K mg base N qual scope f cd A outer s H E) [] (start N vs) H s1:=by
 have hpl:ps.length<=N.length:=by have:=congrArg List.length S.pre;rw[List.length_take] at this;omega
 obtain⟨h1,tk,rfl,hk⟩:=x.done
 have noA:∀ b:Addr,b∉(cxOf CX P w K mg base N qual scope f cd A outer s H E).ex:=λb z=>absurd (show b∈([]:List Addr) from z) (by simp)
 refine⟨⟨e0.mod,S.kind,rfl,rfl,Nat.le_refl _,λy z c h1 h2=>?_,λy hy=>?_,λy c _ h=>?_,λ_=>hd,Around.frames_deeper e0.frames,.inr ⟨rfl,rfl⟩,λb z=>absurd z (noA b),e0.bs,e0.bsz,λb _ _=>noA b,λb z=>absurd z (noA b),e0.funs,e0.frf⟩,
  rfl,e0.bare,Un.kept hk,⟨_,x.toInCall.ns,λi y v h1 h2 h3=>?_⟩,λy c h=>⟨_,x.cell y c h⟩,e0.hok.fresh (Nat.le_refl _),λy c h=>?_,λp hp=>absurd (show p∈([]:List (Addr × Obj)) from hp) (by simp),e0.hok.kept hk,?_⟩
 ·exact name_of_addr x.apart (PySem.mem_of_lookup h1) (PySem.mem_of_lookup h2)
 ·have hy:scope.names.lookup y=some .cell\/scope.names.lookup y=some .free:=hy
  rcases hy with hy | hy
  ·exact zfM hy
  ·exact absurd rfl (S.nofree _ (PySem.mem_of_lookup hy))
 ·exact Nat.le_of_lt (x.above y c (PySem.mem_of_lookup h))
 ·have hi:i<vs.length:=by
   unfold start at h2
   by_cases hi:i<vs.length
   ·exact hi
   ·rw[List.getElem?_append_right (by simpa using hi)] at h2
    rw[List.getElem?_replicate] at h2
    split at h2 <;> cases h2
  have ha:vs[i]?=some v:=by
   unfold start at h2
   rw[List.getElem?_append_left (by simpa using hi),zgm] at h2
   cases e:vs[i]? with
   | none=>rw[e] at h2;cases h2
   | some a=>rw[e] at h2;cases h2;rfl
  obtain⟨u,hu,rv⟩:=r.get ha
  have hp:ps[i]?=some y:=by
   rw[<-S.pre,List.getElem?_take_of_lt (by omega)];exact h1
  have ndP:ps.Nodup:=by rw[<-S.pre];exact S.nd.sublist (List.take_sublist _ _)
  refine⟨u,rv,?_⟩
  rcases S.par y (zmg hp) with k | k
  ·exact .inl ⟨k,zf1 ndP hp hu k⟩
  ·obtain⟨c,e⟩:=zfM (n:=s.heap.objs.size+1) k
   refine .inr ⟨.inl k,c,e,?_⟩
   have q:=x.cell y c e
   rw[zf2 ndP hp hu (by show scope.names.lookup y≠_;rw[k];decide)] at q
   exact q
 ·exact e0.hok.fresh (Nat.le_of_lt (x.above y c (PySem.mem_of_lookup h)))
 ·unfold start
  show _=N.length
  rw[List.length_append,zlm,List.length_replicate]
  omega
theorem zpo {CX:CXT}{P:Program}{w:World}{K:Fg}{mg:Str->Option Value}{base:Heap}{k:Nat}{f:Addr}{name qual:Str}{params:Arguments}{body:List Stmt}{scope:Scope}{dV kV doc pm cdv ct oc:Value}{an od:Option Addr}
  {osl:Array (Option Value)}{N ps:List Str}{sp:Sp}(lk:K.lookup f=some ⟨oc,od,.func (PySem.W.fnOf name qual params body scope dV kV doc pm an cdv ct),osl⟩) (hcd:PySem.W.codeIn K cdv qual=true) (S:FSc N ps scope)
  (len:∀ vs H Q E,sp vs H Q E->vs.length=ps.length)
  (hbody:∀ (A:Around) (outer:List Env) (s:Shared) (H:Hp) (vs:List V) (Q:VK) (E:XK),Room k (A.deeper (envOfC qual scope s.heap.objs.size f cdv))->sp vs H Q E->
   ∃ t,PSs (cxOf CX P w K mg base N qual scope f cdv A outer s H E) body t/\t {nx:=λ_ H'=>Q .non H',rt:=Q} (start N vs) H) :
  FnOk P w K mg base CX (k+1) f (PySem.W.fnOf name qual params body scope dV kV doc pm an cdv ct) ps sp:=by
 refine⟨len,λA outer s H args us vs Q E hr e0 hb r hsp=>?_⟩
 have hl:=len _ _ _ _ hsp
 have KX:K.In s.heap:=e0.mod.kin.keeps λb o e=>(e0.bs b o e).1
 have lim:s.heap.NoLimit:=e0.mod.nolimit.keeps λb o e=>(e0.bs b o e).1
 have hkind:∀ y∈ps.zip us,scope.names.lookup y.1=some .local\/(scope.names.lookup y.1=some .cell/\((cellsFrom (s.heap.objs.size+1) scope.names []).lookup y.1).isSome=true):=λ⟨n,v⟩ hy=>by
  rcases S.par n (List.of_mem_zip hy).1 with q | q
  ·exact .inl q
  ·exact .inr ⟨q,PySem.W.cellsFrom_some _ _ _ (.inl q)⟩
 refine codeAny_call_function hr.depth (KX _ _ lk) rfl S.co S.gen rfl (PySem.W.codeRec_of KX hcd) (hb _ _ _ _ ?_)
 refine wpAny_newFunctionEnv_cells S.kind hkind λenv he s1 x=>?_
 subst he
 refine⟨lim.keeps x.toInCall.keep,codeAny_func ?_⟩
 obtain⟨t,ht,hq⟩:=hbody A outer s H vs Q E (hr.deeper _) hsp
 have I:Inv (cxOf CX P w K mg base N qual scope f cdv A outer s H E) [] (start N vs) H s1:=zls S hr.hd e0 hl r x
 refine wpAny_mono (ht [] s1 (start N vs) H _ I hq) (λfl s' hs=>?_) λe s' hs=>hs
 have fin:∀ {σ':St}{H':Hp}{v:V}{u:Value},Inv (cxOf CX P w K mg base N qual scope f cdv A outer s H E) [] σ' H' s'->RelV v u->Q v H'->CE outer P w H s Q u s':=
  λ{σ' H' v u} J rv q=>⟨v,H',J.os,J.bare,J.base,J.hok,rv,q⟩
 cases fl with
 | ret u=>
  obtain⟨v,σ',H',J,rv,q⟩:=hs
  exact fin J rv q
 | next=>
  obtain⟨σ',H',J,q⟩:=hs
  exact fin (v:=V.non) (u:=Value.none) J rfl q
 | brk=>
  obtain⟨_,_,_,q⟩:=hs
  exact False.elim q
 | cont=>
  obtain⟨_,_,_,q⟩:=hs
  exact False.elim q
end L2

namespace L2
open PySem PySem.Spec PyProof.Rows
section
variable {X:Cx}{x:Str}{p pos:Pos}{e:Expr}{es:List Expr}{t:TA}{id T:String}{r:List V->Hp->VK->Prop}

def tCB (r:List V->Hp->VK->Prop)(t:TA):TE:=λσ H Q=>t σ H λvs H1=>r vs H1 Q
theorem zar (hc:zbC X (.builtin id) r)(hg:Gl X x)(hm:X.mg x=none)(hv:bootBuiltins x=some (.builtin id))(ha:PA X (e::es) t)(hn:x≠ "__name__":=by decide)(hdb:(x == ("__debug__" : Str))=false:=by decide)
  (he:starEach (e::es) X.env=(false,eval e X.env)::starEach es X.env:=by rfl) (hpl:(backTo pos (starEach es X.env)).any (·.1)=false:=by rfl):PE X (.Call (.Name x p) (e::es) [] pos) (tCB r t):=by
 intro pins s σ H Q I h
 refine wpAny_Call_Name_kw (zg7 I hg hm hv ?_ hn hdb)
 exact PyProof.Rows.callWith_builtin1 (thn (ha pos pins s σ H _ I h) λus s1 ⟨vs,H1,I1,r1,q1⟩=>hc pins s1 σ H1 vs us Q I1 r1 q1) he hpl
theorem zc7 (hc:zbC X (.type T) r)(hg:Gl X x)(hm:X.mg x=none)(hv:bootBuiltins x=some (.type T))(ha:PA X (e::es) t)(hn:x≠ "__name__":=by decide)(hdb:(x == ("__debug__" : Str))=false:=by decide)
  (he:starEach (e::es) X.env=(false,eval e X.env)::starEach es X.env:=by rfl) (hpl:(backTo pos (starEach es X.env)).any (·.1)=false:=by rfl):PE X (.Call (.Name x p) (e::es) [] pos) (tCB r t):=by
 intro pins s σ H Q I h
 refine wpAny_Call_Name_kw (zg7 I hg hm hv ?_ hn hdb)
 exact PyProof.Rows.callWith_type1 (thn (ha pos pins s σ H _ I h) λus s1 ⟨vs,H1,I1,r1,q1⟩=>hc pins s1 σ H1 vs us Q I1 r1 q1) he hpl
end
end L2

namespace HT
open PySem PyProof.Rows

section
open PySem.SeqAt
open PySem.AutoSeq1 (wpAny_loadPart')
open PySem.MeetsSeq PySem.MeetsSeq2 PySem.MeetsSeq3

end

section
variable {prog:Program}{w:World}{A:Around}{E:Value->Shared->Prop}{s:Shared}

theorem cat_tup {t b:Addr}{vs ws:List Value}{Q:Value->Shared->Prop}(ht:IsTup s.heap t vs.toArray)(hb:IsTup s.heap b ws.toArray)(hv:vs≠[])
  (h1:ws=[]->Q (.ref t) s) (h2:ws≠[]->Q (.ref s.heap.objs.size) {s with heap:=s.heap.push {cls:=.type "tuple",data:=.seq (vs++ws).toArray}})
  (hsz:vs.length+ws.length<=sizeLine):wpAny (model prog w) A (binaryOp .Add (.ref t) (.ref b)) Q E s:=by
 obtain⟨⟨cls,dd,data,sl⟩,ho,hc,n,hd⟩:=id ht
 obtain⟨⟨cls2,dd2,data2,sl2⟩,ho2,hc2,n2,hd2⟩:=id hb
 simp only at hc hd hc2 hd2
 subst hc hd hc2 hd2
 have e:vs.toArray++ws.toArray=(vs++ws).toArray:=by simp
 by_cases hw:ws=[]
 ·exact concat_meets ⟨_,ho,rfl⟩ ⟨_,ho2,rfl⟩ noFill_tuple_add seq_tuple_add PySem.F.slot_tuple_add PySem.F.entry_tuple_add (PySem.F.args_tuple_add_2 _ _)
   (tuple_addW1 t b vs.toArray ws.toArray n n2 dd dd2 sl sl2 (by simpa using hv) (by simp[hw])) ⟨ho,ho2,h1 hw⟩
 ·refine concat_meets ⟨_,ho,rfl⟩ ⟨_,ho2,rfl⟩ noFill_tuple_add seq_tuple_add PySem.F.slot_tuple_add PySem.F.entry_tuple_add (PySem.F.args_tuple_add_2 _ _)
   (tuple_addW2 t b vs.toArray ws.toArray n n2 dd dd2 sl sl2 (by simpa using hv) (by simpa using hw) (by rw[zst,zst];exact hsz)) ⟨ho,ho2,?_⟩
  rw[e]
  exact h2 hw
def sIx (n d:Nat):Option Int->Nat
 | none=>d
 | some v=>if v<0 then (v+(n:Int)).toNat else min v.toNat n
theorem sIx_none (n d:Nat):sIx n d none=d:=rfl
theorem sIx_nat (n d k:Nat):sIx n d (some (k:Int))=min k n:=by
 show (if (k:Int)<0 then ((k:Int)+(n:Int)).toNat else min (k:Int).toNat n)=min k n
 rw[if_neg (by omega),Int.toNat_natCast]
theorem zpp (n d:Nat)(hd:d<=n)(o:Option Int):sIx n d o<=n:=by
 cases o with
 | none=>exact hd
 | some v=>
  show (if v<0 then (v+(n:Int)).toNat else min v.toNat n)<=n
  by_cases hv:v<0
  ·rw[if_pos hv];omega
  ·rw[if_neg hv];exact Nat.min_le_right _ _
theorem zlt (v:Int)(n d:Nat):(if v<0 then max (v+(n:Int)) 0 else min v (n:Int))=((sIx n d (some v):Nat):Int):=by
 show (if v<0 then max (v+(n:Int)) 0 else min v (n:Int))=(((if v<0 then (v+(n:Int)).toNat else min v.toNat n):Nat):Int)
 by_cases hv:v<0
 ·simp only[if_pos hv];omega
 ·simp only[if_neg hv];omega
theorem zkv (lo hi:Option Int)(n:Nat):Builtin.Slice.sliceAdjust lo hi 1 (n:Int)=(((sIx n 0 lo:Nat):Int),((sIx n n hi:Nat):Int)):=by
 have h1:¬ ((1:Int)<0):=by omega
 unfold Builtin.Slice.sliceAdjust
 simp only[h1,if_false]
 refine Prod.ext ?_ ?_
 ·cases lo with
  | none=>rfl
  | some v=>exact zlt v n 0
 ·cases hi with
  | none=>rfl
  | some v=>exact zlt v n n
theorem zkw (i j:Nat):Builtin.Slice.slicePlaces (i:Int) (j:Int) 1=j - i:=by
 unfold Builtin.Slice.slicePlaces
 have h1:(1:Int)>0:=by omega
 simp only[h1,if_true,Int.ediv_one]
 split <;> omega
theorem zhc {v:Value}{o:Option Int}{Q:Option Int->Shared->Prop}(p:IsPart v o)(h:Q o s):wpAny (model prog w) A (Builtin.Slice.slicePartIndex v) Q E s:=by
 cases p with
 | none=>exact slicePart_none h
 | int i t=>exact slicePart_int h
theorem zfH {sl:Addr}{vl vu:Value}{lo hi:Option Int}{n:Nat}{Q:Int × Int × Nat->Shared->Prop}(hs:s.heap.IsSliceOf sl vl vu .none)(pl:IsPart vl lo)(pu:IsPart vu hi)
  (h:Q (((sIx n 0 lo:Nat):Int),1,sIx n n hi - sIx n 0 lo) s):wpAny (model prog w) A (Builtin.Slice.sliceApplied (.ref sl) (pure (n:Int))) Q E s:=by
 obtain⟨os,hos,hcs,hds⟩:=id hs
 unfold Builtin.Slice.sliceApplied Builtin.Slice.sliceFields
 refine wpAny_bind (wpAny_bind (wpAny_field hos hds (x:=vl) rfl (wpAny_bind (wpAny_field hos hds (x:=vu) rfl (wpAny_bind (wpAny_field hos hds (x:=.none) rfl (wpAny_pure ?_)))))))
 refine wpAny_bind (slicePart_none ?_)
 show wpAny _ _ (if ((1:Int) == 0)=true then _ else _) _ _ s
 rw[if_neg (by decide)]
 refine wpAny_bind (zhc pl (wpAny_bind (zhc pu (wpAny_bind (wpAny_pure ?_)))))
 show wpAny _ _ (match Builtin.Slice.sliceAdjust lo hi 1 (n:Int) with | (lo,hi)=>pure (lo,(1:Int),Builtin.Slice.slicePlaces lo hi 1)) _ _ s
 rw[zkv lo hi n]
 show wpAny _ _ (pure (((sIx n 0 lo:Nat):Int),(1:Int),Builtin.Slice.slicePlaces ((sIx n 0 lo:Nat):Int) ((sIx n n hi:Nat):Int) 1)) _ _ s
 rw[zkw]
 exact wpAny_pure h
theorem zmZ (xs:Array Value)(i k:Nat):((List.range k).filterMap λ(m:Nat)=>xs[((i:Int)+(m:Int) * 1).toNat]?).toArray=((xs.toList.drop i).take k).toArray:=by
 have e:(λ(m:Nat)=>xs[((i:Int)+(m:Int) * 1).toNat]?)=λm=>xs[i+m]?:=by
  funext m
  have:((i:Int)+(m:Int) * 1).toNat=i+m:=by omega
  rw[this]
 rw[e]
 have:=pick_run xs i k
 rw[List.filterMap_map] at this
 have e2:((λx=>xs[x]?) ∘ λx=>i+x)=λm=>xs[i+m]?:=rfl
 rw[e2] at this
 rw[this]
theorem getItem_tuple_cut {t sl:Addr}{items:Array Value}{vl vu:Value}{lo hi:Option Int}{Q:Value->Shared->Prop}(ht:IsTup s.heap t items)(hs:s.heap.IsSliceOf sl vl vu .none)(pl:IsPart vl lo)(pu:IsPart vu hi)
  (hw:¬ (sIx items.size 0 lo=0/\sIx items.size items.size hi=items.size))
  (h:Q (.ref s.heap.objs.size) {s with heap:=s.heap.push {cls:=.type "tuple",data:=.seq ((items.toList.drop (sIx items.size 0 lo)).take (sIx items.size items.size hi - sIx items.size 0 lo)).toArray}})
  (hsz:items.size<=sizeLine):wpAny (model prog w) A (getItem (.ref t) (.ref sl)) Q E s:=by
 have htake:sizeOk (.seq ((items.toList.drop (sIx items.size 0 lo)).take (sIx items.size items.size hi - sIx items.size 0 lo)).toArray):=by
  show ((items.toList.drop (sIx items.size 0 lo)).take (sIx items.size items.size hi - sIx items.size 0 lo)).toArray.size<=sizeLine
  rw[zst,List.length_take,List.length_drop,Array.length_toList]
  omega
 have hj:sIx items.size items.size hi<=items.size:=zpp _ _ (Nat.le_refl _) hi
 obtain⟨os,hos,hcs,hds⟩:=id hs
 have hTs:s.TypeIs (.ref sl) "slice":=⟨os,hos,hcs⟩
 unfold getItem
 try with_reducible refine wpAny_holding ?_
 first | refine wpAny_bind (wpAny_pure ?_) | skip
 refine wpAny_bind (wpAny_sequenceKey ht.typeIs (by decide) ?_)
 refine wpAny_bind (wpAny_callSpecial?_slot (name:=Str.ofString "__getitem__") ht.typeIs PyProof.Rows.slot_tuple_getitem
  (wpAny_call_entry PyProof.Rows.slot_tuple_getitem ht.typeIs entry_tuple_getitem ?_ (args_tuple_getitem _ _)))
 show wpAny _ _ (Builtin.Tuple.tupleItemsOf (.ref t) >>= _) _ _ s
 refine wpAny_bind (tupleItemsOf_ ht ?_)
 refine wpAny_bind (wpAny_typeOf hTs ?_)
 rw[if_pos (by decide)]
 refine wpAny_bind (zfH hs pl pu ?_)
 have hno:¬ ((((sIx items.size 0 lo:Nat):Int) == 0 && (1:Int) == 1 && (sIx items.size items.size hi - sIx items.size 0 lo) == items.size)=true):=by
  intro q
  rw[Bool.and_eq_true,Bool.and_eq_true] at q
  have q1:((sIx items.size 0 lo:Nat):Int)=0:=eq_of_beq q.1.1
  have q2:sIx items.size items.size hi - sIx items.size 0 lo=items.size:=eq_of_beq q.2
  exact hw ⟨by omega,by omega⟩
 show wpAny _ _ (if (((sIx items.size 0 lo:Nat):Int) == 0 && (1:Int) == 1 && (sIx items.size items.size hi - sIx items.size 0 lo) == items.size)=true then _ else _) _ _ s
 rw[if_neg hno,zmZ]
 first
  | exact wpAny_bind (m:=Builtin.Tuple.tupleExact _) (wpAny_newObj_type (wpAny_pure ⟨_,rfl,wpAny_pure h⟩) htake)
  | exact wpAny_bind (m:=Builtin.Tuple.tupleExact _) (wpAny_newObj_type (wpAny_bind (wpAny_pure (wpAny_pure ⟨_,rfl,wpAny_pure h⟩))) htake)
  | exact wpAny_bind (wpAny_bind (m:=Builtin.Tuple.tupleExact _) (wpAny_newObj_type (wpAny_pure (wpAny_pure ⟨_,rfl,wpAny_pure h⟩)) htake))
  | exact wpAny_bind (wpAny_bind (m:=Builtin.Tuple.tupleExact _) (wpAny_newObj_type (wpAny_pure ⟨_,rfl,wpAny_pure h⟩) htake))
end
end HT

namespace L2
open PySem PySem.Spec PyProof.Rows

abbrev TO:=St->Hp->(Option Int->Hp->Prop)->Prop
def PO (X:Cx)(e:Option Expr)(t:TO):Prop:=
 ∀ (pins:List (Addr × Obj)) (s:Shared) (σ:St) (H:Hp) (Q:Option Int->Hp->Prop),Inv X pins σ H s->t σ H Q->
  wpAny (model X.prog X.w) X.A (evalPart e X.env) (λu s'=>∃ o H',Inv X pins σ H' s'/\IsPart u o/\Q o H') X.xe s
def zlu:TO:=λ_ H Q=>Q none H
def zpq (t:TE):TO:=λσ H Q=>t σ H λx H1=>∃ i,x=.int i/\Q (some i) H1
theorem zkx {ns:List Int} : ∀ {us:List Value},Vals (ns.map V.int) us->IntsAre us ns:=by
 induction ns with
 | nil=>intro us r;rw[List.map_nil] at r;cases r;exact .nil
 | cons n ns ih=>
  intro us r
  rw[zmc] at r
  cases r with
  | cons r1 r2=>
   obtain⟨t,e⟩:=r1
   subst e
   exact .cons n t (ih r2)
section
variable {X:Cx}{e:Expr}{te:TE}{lo hi:Option Expr}{tl th:TO}{pos p2:Pos}

theorem zji:PO X none zlu:=by
 intro pins s σ H Q I h
 rw[evalPart_none]
 exact wpAny_pure ⟨none,H,I,.none,h⟩
theorem zjj (h:PE X e te):PO X (some e) (zpq te):=by
 intro pins s σ H Q I hw
 rw[evalPart_some]
 refine thn (h pins s σ H _ I hw) λu s1 ⟨x,H1,I1,r1,q1⟩=>?_
 obtain⟨i,rfl,q⟩:=q1
 obtain⟨t,rfl⟩:=r1
 exact⟨some i,H1,I1,.int i t,q⟩
def SlR (X:Cx)(r:V->Option Int->Option Int->Hp->VK->Prop):Prop:=
 ∀ (pins:List (Addr × Obj)) (s:Shared) (σ:St) (H:Hp) (x:V) (v vl vu:Value) (lo hi:Option Int) (sl:Addr) (Q:VK),Inv X pins σ H s->RelV x v->s.heap.IsSliceOf sl vl vu .none->IsPart vl lo->IsPart vu hi->r x lo hi H Q->
  ∃ T id,typeLookup (.type T) "__getitem__"=pure (some (.builtin id))/\s.TypeIs v T/\wpAny (model X.prog X.w) X.A (getItem v (.ref sl)) (EP X pins σ Q) X.xe s
theorem SlR.or {r r':V->Option Int->Option Int->Hp->VK->Prop}(h:SlR X r)(h':SlR X r'):SlR X (λx lo hi H Q=>r x lo hi H Q\/r' x lo hi H Q):=by
 intro pins s σ H x v vl vu lo hi sl Q I rx hs pl pu q
 rcases q with q | q
 ·exact h pins s σ H x v vl vu lo hi sl Q I rx hs pl pu q
 ·exact h' pins s σ H x v vl vu lo hi sl Q I rx hs pl pu q
def tSl (r:V->Option Int->Option Int->Hp->VK->Prop)(te:TE)(tl th:TO):TE:=λσ H Q=>te σ H λx H1=>tl σ H1 λl H2=>th σ H2 λu H3=>r x l u H3 Q
theorem zhC {r:V->Option Int->Option Int->Hp->VK->Prop}(hr:SlR X r)(he:PE X e te)(hl:PO X lo tl)(hu:PO X hi th):PE X (.Subscript e (.Slice lo hi none p2) pos) (tSl r te tl th):=by
 intro pins s σ H Q I h
 refine Subscript_ (thn (he pins s σ H _ I h) λv s1 ⟨x,H1,I1,r1,q1⟩=>?_)
 refine wpAny_Slice (thn (hl pins s1 σ H1 _ I1 q1) λvl s2 ⟨l,H2,I2,pl,q2⟩=>thn (hu pins s2 σ H2 _ I2 q2) λvu s3 ⟨u,H3,I3,pu,q3⟩=>?_)
 rw[evalPart_none]
 refine wpAny_pure ?_
 have I4:Inv X pins σ H3 {s3 with heap:=s3.heap.push {cls:=.type "slice",data:=.fields #[vl,vu,.none]}}:=I3.kept (t':=s3.toks) λb ob q=>Heap.get?_push_of_some _ q
 obtain⟨T,id,hT,ht,hg⟩:=hr pins {s3 with heap:=s3.heap.push {cls:=.type "slice",data:=.fields #[vl,vu,.none]}} σ H3 x v vl vu l u s3.heap.objs.size Q I4 r1 (Heap.IsSliceOf.new ..) pl pu q3
 show wpAny (model X.prog X.w) X.A (subscriptTail e (.Slice lo hi none p2) v (.ref s3.heap.objs.size)) (EP X pins σ Q) X.xe {s3 with heap:=s3.heap.push {cls:=.type "slice",data:=.fields #[vl,vu,.none]}}
 exact tail_any (ops:=[.ref s3.heap.objs.size,v]) ht hT hg (by with_unfolding_all rfl)
def cutV (xs:List V)(lo hi:Option Int):List V:=(xs.drop (HT.sIx xs.length 0 lo)).take (HT.sIx xs.length xs.length hi - HT.sIx xs.length 0 lo)
theorem zf3 (xs:List V)(lo hi:Option Int):(cutV xs lo hi).length<=xs.length:=by
 unfold cutV
 rw[List.length_take,List.length_drop]
 omega
def rSlT (K:Fg):V->Option Int->Option Int->Hp->VK->Prop:=λx lo hi H Q=>∃ a xs,x=.ref a/\SqT K H a xs/\
 ¬ (HT.sIx xs.length 0 lo=0/\HT.sIx xs.length xs.length hi=xs.length)/\∀ p,H p=none->Q (.ref p) (upd H p (.tup (cutV xs lo hi)))
theorem zpr:SlR X (rSlT X.K):=by
 intro pins s σ H x v vl vu lo hi sl Q I rx hs pl pu h
 obtain⟨a,xs,rfl,hx,hw,q⟩:=h
 cases rx
 obtain⟨its,r,ht,hz⟩:=I.tuple hx
 have hlen:its.toArray.size=xs.length:=by rw[zst];exact r.length.symm
 refine⟨"tuple",_,PyProof.Rows.slot_tuple_getitem.lookup,ht.typeIs,?_⟩
 refine HT.getItem_tuple_cut ht hs pl pu (by rw[hlen];exact hw) ?_ (by rw[hlen];exact hz)
 rw[hlen]
 refine⟨.ref s.heap.objs.size,_,I.laid (t':=s.toks) (o:=.tup (cutV xs lo hi)) (λb ob q=>Heap.get?_push_of_some _ q) (Nat.le_refl _) ?_,rfl,q _ (I.hok.fresh (Nat.le_refl _))⟩
 exact⟨Nat.le_trans (zf3 xs lo hi) hz,_,(r.drop (HT.sIx xs.length 0 lo)).take (HT.sIx xs.length xs.length hi - HT.sIx xs.length 0 lo),IsTup.new _ _⟩
def zps (K:Fg):R2:=λx y H Q=>∃ a b xs ys,x=.ref a/\y=.ref b/\SqT K H a xs/\SqT K H b ys/\xs≠[]/\xs.length+ys.length<=sizeLine/\
 (ys=[]->Q (.ref a) H)/\(ys≠[]->∀ p,H p=none->Q (.ref p) (upd H p (.tup (xs++ys))))
theorem Vals.nil_iff {xs:List V}{us:List Value}(r:Vals xs us):us=[]↔xs=[]:=by
 cases r with
 | nil=>simp
 | cons _ _=>simp
theorem zor:OpR X (binaryOp .Add) (zps X.K):=by
 intro pins s σ H x y v u Q I rx ry h
 obtain⟨a,b,xs,ys,rfl,rfl,ha,hb,hx,hz,q1,q2⟩:=h
 cases rx
 cases ry
 obtain⟨its,r1,p1,_⟩:=I.tuple ha
 obtain⟨its2,r2,p2,_⟩:=I.tuple hb
 refine HT.cat_tup p1 p2 (λz=>hx (r1.nil_iff.mp z)) (λz=>⟨.ref a,H,I,rfl,q1 (r2.nil_iff.mp z)⟩) (λz=>?_) (by rw[<-r1.length,<-r2.length];exact hz)
 refine⟨.ref s.heap.objs.size,_,I.laid (t':=s.toks) (o:=.tup (xs++ys)) (λb ob q=>Heap.get?_push_of_some _ q) (Nat.le_refl _) ?_,rfl,q2 (λw=>z (r2.nil_iff.mpr w)) _ (I.hok.fresh (Nat.le_refl _))⟩
 exact⟨by rw[List.length_append];exact hz,_,r1.append r2,IsTup.new _ _⟩
end
end L2

namespace L2
open PySem PySem.Spec PyProof.Rows

def ixN (n:Nat)(i:Int):Option Nat:=if 0<=i then (if i<n then some i.toNat else none) else if -(n:Int)<=i then some (i+n).toNat else none
def atI {α:Type}(xs:List α)(i:Int):Option α:=(ixN xs.length i).bind λj=>xs[j]?
theorem zlv {n:Nat}{i:Int}{j:Nat}(h:ixN n i=some j):seqIndex? i n=some j/\j<n/\-(n:Int)<=i/\i<n:=by
 unfold ixN at h
 by_cases h0:0<=i
 ·rw[if_pos h0] at h
  by_cases h1:i<n
  ·rw[if_pos h1] at h
   have e:i.toNat=j:=Option.some.inj h
   exact⟨by rw[seqIndex_of h0 h1,e],by omega,by omega,h1⟩
  ·rw[if_neg h1] at h;cases h
 ·rw[if_neg h0] at h
  by_cases h1:-(n:Int)<=i
  ·rw[if_pos h1] at h
   have e:(i+n).toNat=j:=Option.some.inj h
   exact⟨by rw[seqIndex_neg (by omega) h1,e],by omega,h1,by omega⟩
  ·rw[if_neg h1] at h;cases h
theorem zjk {α:Type}{xs:List α}{i:Int}{v:α}(h:atI xs i=some v):∃ j,seqIndex? i xs.length=some j/\xs[j]?=some v/\j<xs.length/\-(xs.length:Int)<=i/\i<xs.length:=by
 unfold atI at h
 cases e:ixN xs.length i with
 | none=>rw[e] at h;cases h
 | some j=>
  rw[e] at h
  obtain⟨h1,h2,h3,h4⟩:=zlv e
  exact⟨j,h1,h,h2,h3,h4⟩
theorem zaA {α:Type}{xs:List α}{j:Nat}{v:α}(h:xs[j]?=some v):atI xs (j:Int)=some v:=by
 have hj:j<xs.length:=(zge.mp h).1
 have e:ixN xs.length (j:Int)=some j:=by
  unfold ixN
  rw[if_pos (by omega),if_pos (by omega)];simp
 unfold atI;rw[e];exact h
def zlw (b:Expr):Prop:=∀ o i,subscripted b false o i=operate [o,i] (getItem o i)
def IxR (X:Cx)(r:R2):Prop:=
 ∀ (value slice:Expr) (pins:List (Addr × Obj)) (s:Shared) (σ:St) (H:Hp) (x y:V) (v u:Value) (Q:VK),Inv X pins σ H s->RelV x v->RelV y u->r x y H Q->
  subscripted slice false v u=operate [v,u] (getItem v u)->wpAny (model X.prog X.w) X.A (subscriptTail value slice v u) (EP X pins σ Q) X.xe s
def MtR (X:Cx)(id:String)(r:V->List V->Hp->VK->Prop):Prop:=
 ∀ (pins:List (Addr × Obj)) (s:Shared) (σ:St) (H:Hp) (x:V) (xs:List V) (v:Value) (us:List Value) (Q:VK),Inv X pins σ H s->RelV x v->Vals xs us->r x xs H Q->
  wpAny (model X.prog X.w) X.A (call (.builtin id) (v::us)) (EP X pins σ Q) X.xe s
section
variable {X:Cx}{a b:Expr}{ta tb:TE}{pos:Pos}
theorem IxR.or {r r':R2}(h:IxR X r)(h':IxR X r'):IxR X (λx y H Q=>r x y H Q\/r' x y H Q):=by
 intro value slice pins s σ H x y v u Q I rx ry q hs
 rcases q with q | q
 ·exact h value slice pins s σ H x y v u Q I rx ry q hs
 ·exact h' value slice pins s σ H x y v u Q I rx ry q hs
theorem zaH {r:R2}(hr:IxR X r)(ha:PE X a ta)(hb:PE X b tb)(hs:zlw b):PE X (.Subscript a b pos) (tOp r ta tb):=by
 intro pins s σ H Q I h
 exact Subscript_ (binT ha hb I h λv u s2 x y H2 I2 rx ry q=>hr a b pins s2 σ H2 x y v u Q I2 rx ry q (hs _ _))
def rIxL (K:Fg):R2:=λx y H Q=>∃ p xs i v,x=.ref p/\y=.int i/\SqL K H p xs/\atI xs i=some v/\Q v H
def rIxT (K:Fg):R2:=λx y H Q=>∃ p xs i v,x=.ref p/\y=.int i/\SqT K H p xs/\atI xs i=some v/\Q v H
def rIxS:R2:=λx y H Q=>∃ z i c,x=.str z/\y=.int i/\z.length<=sizeLine/\atI z.cps.toList i=some c/\Q (.str ⟨#[c]⟩) H
theorem zos:IxR X (rIxL X.K):=by
 intro value slice pins s σ H x y v u Q I rx ry h hs
 obtain⟨p,xs,i,z,rfl,rfl,hq,he,q⟩:=h
 cases rx
 obtain⟨t,rfl⟩:=ry
 obtain⟨its,r,pl,hz⟩:=I.list hq
 obtain⟨j,h1,h2,h3,h4,h5⟩:=zjk he
 obtain⟨w,ew,rw'⟩:=r.get h2
 have hl:=r.length
 have hn:=zij
 have fin:EP X pins σ Q w s:=⟨z,H,I,rw',q⟩
 by_cases h0:0<=i
 ·have hj:i.toNat=j:=by
   rw[seqIndex_of h0 h5] at h1
   exact Option.some.inj h1
  exact item_listR pl.isList h0 (by omega) (by rw[hj];simpa using ew) fin hs
 ·have hj:(i+(its.toArray.size:Int)).toNat=j:=by
   rw[seqIndex_neg (by omega) h4] at h1
   rw[zst,<-hl]
   exact Option.some.inj h1
  exact subscriptTail_builtinR (x:=w) pl.isList.typeIs slot_list_getitem.lookup
   (wpAny_getItem_list_neg (Q:=λr s'=>r=w/\EP X pins σ Q r s') pl.isList (by omega) (by rw[zst] <;> omega) (by omega) (by rw[hj];simpa using ew) ⟨rfl,fin⟩) hs
theorem zpt:IxR X (rIxT X.K):=by
 intro value slice pins s σ H x y v u Q I rx ry h hs
 obtain⟨p,xs,i,z,rfl,rfl,hq,he,q⟩:=h
 cases rx
 obtain⟨t,rfl⟩:=ry
 obtain⟨its,r,pl,hz⟩:=I.tuple hq
 obtain⟨j,h1,h2,h3,h4,h5⟩:=zjk he
 obtain⟨w,ew,rw'⟩:=r.get h2
 have hl:=r.length
 have hn:=zij
 have fin:EP X pins σ Q w s:=⟨z,H,I,rw',q⟩
 exact subscriptTail_builtinR (x:=w) pl.typeIs slot_tuple_getitem.lookup
  (getItem_tuple (j:=j) (Q:=λr s'=>r=w/\EP X pins σ Q r s') pl (by omega) (by omega) (by rw[zst,<-hl];exact h1) (by simpa using ew) ⟨rfl,fin⟩) hs
theorem zpu:IxR X rIxS:=by
 intro value slice pins s σ H x y v u Q I rx ry h hs
 obtain⟨z,i,c,rfl,rfl,hz,he,q⟩:=h
 obtain⟨t,rfl⟩:=rx
 obtain⟨t',rfl⟩:=ry
 obtain⟨j,h1,h2,h3,h4,h5⟩:=zjk he
 have hl:z.cps.toList.length=z.length:=by simp[Str.length]
 rw[hl] at h1 h4 h5
 have hn:=zij
 exact tail_any (typeIs_str s z t) slot_str_getitem.lookup (getItem_str (c:=c) (by
  have e1:decide (i < -(2 ^ 63:Int))=false:=decide_eq_false (by omega)
  have e2:decide (i≥2 ^ 63)=false:=decide_eq_false (by omega)
  rw[e1,e2,Bool.or_false]) (by rw[h1];simpa using h2) ⟨.str ⟨#[c]⟩,H,I.tok _,⟨_,rfl⟩,q⟩) hs
def rIx (K:Fg):R2:=λx y H Q=>rIxL K x y H Q\/rIxT K x y H Q\/rIxS x y H Q
theorem zpv:IxR X (rIx X.K):=zos.or (zpt.or zpu)
theorem zky (its:List Value)(n j:Nat)(u:Value):Obj.mapSeq (·.setIfInBounds j u) {cls:=.type "list",data:=.seq its.toArray n}={cls:=.type "list",data:=.seq (its.set j u).toArray n}:=by
 simp[Obj.mapSeq]
theorem Inv.lst {pins:List (Addr × Obj)}{σ:St}{H:Hp}{s:Shared}{p:Addr}{xs:List V}(I:Inv X pins σ H s)(h:H p=some (.lst xs)) :
  ∃ (its:List Value) (n:Nat),Vals xs its/\s.heap.get? p=some {cls:=.type "list",data:=.seq its.toArray n}/\xs.length<=sizeLine:=by
 obtain⟨z,its,n,r,e⟩:=I.hok p _ h
 exact⟨its,n,r,e,z⟩
theorem Inv.lstUpd {pins:List (Addr × Obj)}{σ:St}{H:Hp}{s:Shared}{p:Addr}{xs ys:List V}{its its':List Value}{n n':Nat}{f:Obj->Obj}(I:Inv X pins σ H s)(h:H p=some (.lst xs))
  (ho:s.heap.get? p=some {cls:=.type "list",data:=.seq its.toArray n}) (hf:f {cls:=.type "list",data:=.seq its.toArray n}={cls:=.type "list",data:=.seq its'.toArray n'}) (r:Vals ys its') (hz:ys.length<=sizeLine) (t:Nat) :
  Inv X pins σ (upd H p (.lst ys)) {s with heap:=s.heap.update p f,toks:=t}:=by
 have e:(s.heap.update p f).get? p=some {cls:=.type "list",data:=.seq its'.toArray n'}:=by
  rw[Heap.get?_update_self f ho (by rw[hf] <;> rfl),hf]
 refine I.write (x:=p) (e:=p) (by rw[h];trivial) (.inl rfl) (λb u hb q=>(Heap.get?_update_other _ _ (Ne.symm hb)).trans q) ⟨_,e⟩ ?_
 exact⟨hz,its',n',r,e⟩
def zpw:V->V->V->Hp->(Hp->Prop)->Prop:=λo i v H Q=>∃ p xs k j,o=.ref p/\i=.int k/\H p=some (.lst xs)/\ixN xs.length k=some j/\Q (upd H p (.lst (xs.set j v)))
theorem zhD:PSet X zpw:=by
 intro pins s σ H o i v ov iv u Q I ro ri rv h
 obtain⟨p,xs,k,j,rfl,rfl,hp,hj,q⟩:=h
 cases ro
 obtain⟨t,rfl⟩:=ri
 obtain⟨its,n,r,ho,hz⟩:=I.lst hp
 obtain⟨h1,h2,h3,h4⟩:=zlv hj
 have hl:=r.length
 have hn:=zij
 have I':Inv X pins σ (upd H p (.lst (xs.set j v))) {s with heap:=s.heap.update p (Obj.mapSeq (·.setIfInBounds j u))}:=
  I.lstUpd hp ho (zky its n j u) (r.set rv j) (by rw[List.length_set];exact hz) s.toks
 by_cases h0:0<=k
 ·have hk:k.toNat=j:=by
   rw[seqIndex_of h0 h4] at h1
   exact Option.some.inj h1
  exact PySem.W.ki_setAt ho h0 (by omega) (by rw[zst,<-hl];exact h4) (by rw[hk];exact⟨_,I',q⟩)
 ·have hk:(k+(its.toArray.size:Int)).toNat=j:=by
   rw[seqIndex_neg (by omega) h3] at h1
   rw[zst,<-hl]
   exact Option.some.inj h1
  exact PySem.W.ki_setBack ho (by omega) (by rw[zst,<-hl];exact h3) (by omega) (by rw[hk];exact⟨_,I',q⟩)
theorem zin (lo hi:Option Int)(n:Nat):(sliceBounds lo hi none n).1=((HT.sIx n 0 lo:Nat):Int)/\(sliceBounds lo hi none n).2.1=((HT.sIx n n hi:Nat):Int)/\(sliceBounds lo hi none n).2.2=1:=by
 refine⟨?_,?_,rfl⟩
 ·cases lo with
  | none=>simp[sliceBounds,HT.sIx]
  | some i=>
   simp only[sliceBounds,HT.sIx,Option.getD_none,show (1:Int)>0 by decide,if_true]
   by_cases h:i<0
   ·simp only[h,if_true] <;> omega
   ·simp only[h,if_false] <;> omega
 ·cases hi with
  | none=>simp[sliceBounds,HT.sIx]
  | some i=>
   simp only[sliceBounds,HT.sIx,Option.getD_none,show (1:Int)>0 by decide,if_true]
   by_cases h:i<0
   ·simp only[h,if_true] <;> omega
   ·simp only[h,if_false] <;> omega
theorem zhE (its:List Value)(lo hi:Option Int):slicePick its.toArray lo hi none=((its.drop (HT.sIx its.length 0 lo)).take (HT.sIx its.length its.length hi - HT.sIx its.length 0 lo)).toArray:=by
 obtain⟨h1,h2,h3⟩:=zin lo hi its.toArray.size
 unfold slicePick
 rw[h1,h2,h3]
 simp only[sliceRange_one,pick_run,zst] <;> rfl
def rSlL (K:Fg):V->Option Int->Option Int->Hp->VK->Prop:=λx lo hi H Q=>∃ a xs,x=.ref a/\SqL K H a xs/\∀ p,H p=none->Q (.ref p) (upd H p (.lst (cutV xs lo hi)))
theorem zot:SlR X (rSlL X.K):=by
 intro pins s σ H x v vl vu lo hi sl Q I rx hs pl pu h
 obtain⟨a,xs,rfl,hx,q⟩:=h
 cases rx
 obtain⟨its,r,ht,hz⟩:=I.list hx
 have hlen:=r.length
 refine⟨"list",_,slot_list_getitem.lookup,ht.isList.typeIs,?_⟩
 refine wpAny_getItem_list_slice ht.isList hs pl pu .none (by simp) ?_ (by rw[zst] <;> omega)
 rw[zhE,<-hlen]
 refine⟨.ref s.heap.objs.size,_,I.laid (t':=s.toks) (o:=.lst (cutV xs lo hi)) (λb ob q=>Heap.get?_push_of_some _ q) (Nat.le_refl _) ?_,rfl,q _ (I.hok.fresh (Nat.le_refl _))⟩
 exact⟨Nat.le_trans (zf3 xs lo hi) hz,_,0,(r.drop (HT.sIx xs.length 0 lo)).take (HT.sIx xs.length xs.length hi - HT.sIx xs.length 0 lo),Heap.get?_push_size _ rfl⟩
def zdR:V->Bool
 | .non=>true
 | .bl _=>true
 | .int _=>true
 | .str _=>true
 | _=>false
def eqV:V->V->Bool
 | .non,.non=>true
 | .bl a,.bl b=>a == b
 | .bl a,.int b=>(if a then 1 else 0) == b
 | .int a,.bl b=>a == (if b then 1 else 0)
 | .int a,.int b=>a == b
 | .str a,.str b=>a == b
 | _,_=>false
theorem znQ {A:Around}{s:Shared}{y x:V}{u v:Value}(ry:RelV y u)(rx:RelV x v)(fy:zdR y=true)(fx:zdR x=true):SeqAt.EqAt A s u v (eqV y x):=by
 cases y with
 | non=>
  cases ry
  cases x with
  | non=>cases rx;exact SeqAt.EqAt.same _
  | bl b=>cases rx;exact SeqAt.EqAt.none_bool b
  | int b=>obtain⟨t,rfl⟩:=rx;exact SeqAt.EqAt.none_int b t
  | str b=>obtain⟨t,rfl⟩:=rx;exact SeqAt.EqAt.none_str b t
  | _=>exact absurd (show false=true from fx) Bool.false_ne_true
 | bl a=>
  cases ry
  cases x with
  | non=>cases rx;exact SeqAt.EqAt.bool_none a
  | bl b=>cases rx;exact SeqAt.EqAt.bool_bool a b
  | int b=>obtain⟨t,rfl⟩:=rx;exact SeqAt.EqAt.bool_int a b t
  | str b=>obtain⟨t,rfl⟩:=rx;exact SeqAt.EqAt.bool_str a b t
  | _=>exact absurd (show false=true from fx) Bool.false_ne_true
 | int a=>
  obtain⟨t',rfl⟩:=ry
  cases x with
  | non=>cases rx;exact SeqAt.EqAt.int_none a t'
  | bl b=>cases rx;exact SeqAt.EqAt.int_bool a t' b
  | int b=>obtain⟨t,rfl⟩:=rx;exact SeqAt.EqAt.int_int a t' b t
  | str b=>obtain⟨t,rfl⟩:=rx;exact SeqAt.EqAt.int_str a t' b t
  | _=>exact absurd (show false=true from fx) Bool.false_ne_true
 | str a=>
  obtain⟨t',rfl⟩:=ry
  cases x with
  | non=>cases rx;exact SeqAt.EqAt.str_none a t'
  | bl b=>cases rx;exact SeqAt.EqAt.str_bool a t' b
  | int b=>obtain⟨t,rfl⟩:=rx;exact SeqAt.EqAt.str_int a t' b t
  | str b=>obtain⟨t,rfl⟩:=rx;exact SeqAt.EqAt.str_str a t' b t
  | _=>exact absurd (show false=true from fx) Bool.false_ne_true
 | _=>exact absurd (show false=true from fy) Bool.false_ne_true
def eqU (x:V)(u:Value):Bool:=match u with
 | .none=>eqV .non x
 | .bool b=>eqV (.bl b) x
 | .int i _=>eqV (.int i) x
 | .str z _=>eqV (.str z) x
 | _=>false
theorem znR {x y:V}{u:Value}(r:RelV y u)(f:zdR y=true):eqU x u=eqV y x:=by
 cases y with
 | non=>cases r;rfl
 | bl b=>cases r;rfl
 | int i=>obtain⟨t,rfl⟩:=r;rfl
 | str z=>obtain⟨t,rfl⟩:=r;rfl
 | _=>exact absurd (show false=true from f) Bool.false_ne_true
theorem zjl {x:V} : ∀ {xs:List V}{us:List Value},Vals xs us->xs.all zdR=true->us.any (eqU x)=xs.any λy=>eqV y x
 | _,_,.nil,_=>rfl
 | y::xs,u::us,.cons r t,f=>by
  rw[List.all_cons,Bool.and_eq_true] at f
  rw[List.any_cons,List.any_cons,znR r f.1,zjl t f.2]
theorem zhF {A:Around}{s:Shared}{x:V}{v:Value}(rx:RelV x v)(fx:zdR x=true):∀ {xs:List V}{us:List Value},Vals xs us->xs.all zdR=true->∀ u∈us,SeqAt.EqAt A s u v (eqU x u)
 | _,_,.nil,_=>λu hu=>by cases hu
 | y::xs,u::us,.cons r t,f=>λu' hu=>by
  rw[List.all_cons,Bool.and_eq_true] at f
  rcases List.mem_cons.mp hu with rfl | hu
  ·rw[znR r f.1];exact znQ r rx f.1 fx
  ·exact zhF rx fx t f.2 u' hu
def inV (x:V)(xs:List V):Bool:=xs.any λy=>eqV y x
def rIn (K:Fg)(neg:Bool):R2:=λx y H Q=>∃ p xs,y=.ref p/\(SqL K H p xs\/SqT K H p xs)/\zdR x=true/\xs.all zdR=true/\Q (.bl (if neg then !inV x xs else inV x xs)) H
theorem zlx:OpR X (compareOp .In) (rIn X.K false):=by
 intro pins s σ H x y v u Q I rx ry h
 obtain⟨p,xs,rfl,hq,fx,fs,q⟩:=h
 cases ry
 rcases hq with hq | hq
 ·obtain⟨its,r,pl,hz⟩:=I.list hq
  refine SeqAt.in_listAt (eqU x) pl.isList (λw hw=>zhF rx fx r fs w (by simpa using hw)) ⟨.bl _,H,I,rfl,?_⟩
  rw[show its.toArray.any (eqU x)=its.any (eqU x) by simp,zjl r fs]
  exact q
 ·obtain⟨its,r,pl,hz⟩:=I.tuple hq
  refine SeqAt.in_tupleAt (eqU x) pl (λw hw=>zhF rx fx r fs w (by simpa using hw)) ⟨.bl _,H,I,rfl,?_⟩
  rw[show its.toArray.any (eqU x)=its.any (eqU x) by simp,zjl r fs]
  exact q
theorem zio:zbC X (.builtin "len") (λxs H Q=>∃ p ys,xs=[.ref p]/\(SqL X.K H p ys\/SqT X.K H p ys)/\Q (.int ys.length) H):=by
 intro pins s σ H xs us Q I r h
 obtain⟨p,ys,rfl,hq,q⟩:=h
 obtain⟨u,rfl,rx⟩:=zhB r
 cases rx
 have hn:=zij
 rcases hq with hq | hq
 ·obtain⟨its,r',pl,hz⟩:=I.list hq
  have hlen:=r'.length
  exact Calls.call_len_list pl.isList (by simp only[zst] <;> omega) ⟨.int ys.length,H,I.tok _,⟨s.toks+1,by rw[zst,hlen]⟩,q⟩
 ·obtain⟨its,r',pl,hz⟩:=I.tuple hq
  have hlen:=r'.length
  exact len_tuple pl (by simp only[zst] <;> omega) ⟨.int ys.length,H,I.tok _,⟨s.toks+1,by rw[zst,hlen]⟩,q⟩
theorem ziq:zbC X (.type "list") (λxs H Q=>∃ p ys,xs=[.ref p]/\(SqL X.K H p ys\/SqT X.K H p ys)/\∀ l,H l=none->Q (.ref l) (upd H l (.lst ys))):=by
 intro pins s σ H xs us Q I r h
 obtain⟨p,ys,rfl,hq,q⟩:=h
 obtain⟨u,rfl,rx⟩:=zhB r
 cases rx
 have fin:∀ (its:List Value),Vals ys its->ys.length<=sizeLine->∀ (h':Heap) (c':Nat),(∀ b o',s.heap.get? b=some o'->h'.get? b=some o')->
   h'.get? s.heap.objs.size=some {cls:=.type "list",dict:=none,data:=.seq its.toArray c',slots:=#[]}->EP X pins σ Q (.ref s.heap.objs.size) {s with heap:=h'}:=λits r' hz h' c' kp e=>
  ⟨.ref s.heap.objs.size,_,I.laid (t':=s.toks) kp (Nat.le_refl _) (show zbD X.prog X.w _ h' _ (.lst ys) from ⟨hz,its,c',r',e⟩),rfl,q _ (I.hok.fresh (Nat.le_refl _))⟩
 rcases hq with hq | hq
 ·obtain⟨its,r',pl,hz⟩:=I.list hq
  have hlen:=r'.length
  obtain⟨o,ho,hc,n,hd⟩:=pl.isList
  exact call_list_seq p (.inl rfl) ho hc hd (λh' c' kp e=>fin its r' hz h' c' kp e) (by simp only[zst] <;> omega)
 ·obtain⟨its,r',pl,hz⟩:=I.tuple hq
  have hlen:=r'.length
  obtain⟨o,ho,hc,n,hd⟩:=pl
  exact call_list_seq p (.inr rfl) ho hc hd (λh' c' kp e=>fin its r' hz h' c' kp e) (by simp only[zst] <;> omega)
theorem zhG:zbC X (.type "tuple") (λxs H Q=>∃ p ys,xs=[.ref p]/\((SqL X.K H p ys/\∀ l,H l=none->Q (.ref l) (upd H l (.tup ys)))\/(SqT X.K H p ys/\Q (.ref p) H))):=by
 intro pins s σ H xs us Q I r h
 obtain⟨p,ys,rfl,h⟩:=h
 obtain⟨u,rfl,rx⟩:=zhB r
 cases rx
 rcases h with ⟨hq,q⟩ | ⟨hq,q⟩
 ·obtain⟨its,r',pl,hz⟩:=I.list hq
  have hlen:=r'.length
  refine call_tuple_list pl.isList (λh' kp=>?_) (by simp only[zst] <;> omega)
  have I1:Inv X pins σ H {s with heap:=h'}:=I.kept (t':=s.toks) kp
  have I2:Inv X pins σ (upd H h'.objs.size (.tup ys)) {s with heap:=h'.push {cls:=.type "tuple",data:=.seq its.toArray}}:=
   I1.laid (t':=s.toks) (λb o e=>Heap.get?_push_of_some _ e) (Nat.le_refl _) (show zbD X.prog X.w _ _ _ (.tup ys) from ⟨hz,its,r',IsTup.new _ _⟩)
  exact⟨.ref h'.objs.size,_,I2,rfl,q _ (I1.hok.fresh (Nat.le_refl _))⟩
 ·obtain⟨its,r',pl,hz⟩:=I.tuple hq
  exact call_tuple_same pl ⟨.ref p,H,I,rfl,q⟩
def tyV (K:Fg)(T:String)(x:V)(H:Hp):Prop:=match x with
 | .str _=>T ="str"
 | .int _=>T ="int"
 | .ref p=>(T ="list" /\∃ xs,SqL K H p xs)\/(T ="tuple" /\∃ o,K.lookup p=some o/\o.cls=.type "tuple" /\o.dict=none)\/
   (T ="dict" /\((∃ kvs,H p=some (.dK kvs))\/∃ kvs,H p=some (.dT kvs)))\/(T ="set" /\∃ S n,H p=some (.set S n))
 | _=>False
theorem znS {pins:List (Addr × Obj)}{σ:St}{H:Hp}{s:Shared}{T:String}{x:V}{v:Value}(I:Inv X pins σ H s)(r:RelV x v)(ty:tyV X.K T x H) :
  s.TypeIs v T/\∀ a,v=.ref a->∃ ob,s.heap.get? a=some ob/\ob.dict=none:=by
 cases x with
 | str z=>
  obtain⟨t,rfl⟩:=r
  cases (show T ="str" from ty)
  exact⟨typeIs_str s z t,λ_ e=>nomatch e⟩
 | int i=>
  obtain⟨t,rfl⟩:=r
  cases (show T ="int" from ty)
  exact⟨typeIs_int s i t,λ_ e=>nomatch e⟩
 | ref p=>
  cases r
  rcases ty with ⟨rfl,xs,hq⟩ | ⟨rfl,o,hk,hc,hd⟩ | ⟨rfl,hk⟩ | ⟨rfl,S,n,hk⟩
  ·obtain⟨its,_,pl,_⟩:=I.list hq
   refine⟨pl.isList.typeIs,λa e=>?_⟩
   cases e
   obtain⟨o,n,e,c,hd,_⟩:=pl
   exact⟨o,e,hd⟩
  ·refine⟨⟨o,I.kIn p o hk,hc⟩,λa e=>?_⟩
   cases e
   exact⟨o,I.kIn _ o hk,hd⟩
  ·have z:∃ o,s.heap.get? p=some o/\o.ExactDict:=by
    rcases hk with ⟨kvs,hk⟩ | ⟨kvs,hk⟩
    ·obtain⟨_,_,_,_,o,_,_,e,ex,_⟩:=I.hok p _ hk
     exact⟨o,e,ex⟩
    ·obtain⟨_,_,_,_,o,_,_,e,ex,_⟩:=I.hok p _ hk
     exact⟨o,e,ex⟩
   obtain⟨o,e,ex⟩:=z
   refine⟨⟨o,e,ex.1⟩,λa e2=>?_⟩
   cases e2
   exact⟨o,e,ex.2.1⟩
  ·obtain⟨o,_,_,_,e,ex,_⟩:=I.hok p _ hk
   refine⟨⟨o,e,ex.1⟩,λa e2=>?_⟩
   cases e2
   exact⟨o,e,ex.2.1⟩
 | _=>exact False.elim ty
def tBM0 (K:Fg)(T:String)(r:V->List V->Hp->VK->Prop)(to:TE):TE:=λσ H Q=>to σ H λx H1=>tyV K T x H1/\r x [] H1 Q
def tBM (K:Fg)(T:String)(r:V->List V->Hp->VK->Prop)(to:TE)(t:TA):TE:=λσ H Q=>to σ H λx H1=>tyV K T x H1/\t σ H1 λxs H2=>r x xs H2 Q
variable {o e:Expr}{es:List Expr}{to:TE}{t:TA}{name:Str}{apos cpos:Pos}{T id:String}{r:V->List V->Hp->VK->Prop}
theorem zpx (pa:PlainAttrs T)(slot:Slot T name id)(hty:typeOf (.builtin id)=pure (.type "method_descriptor"))(hm:MtR X id r)(ho:PE X o to)
  (hbase:attributeBase o name X.env (eval o X.env)=eval o X.env:=by rfl) (hline:(apos.endLine == cpos.line)=true:=by rfl):PE X (.Call (.Attribute o name apos) [] [] cpos) (tBM0 X.K T r to):=by
 intro pins s σ H Q I h
 refine wpAny_Call_method0_late hbase hline (thn (ho pins s σ H _ I h) λv s1 ⟨x,H1,I1,r1,ty,q1⟩=>?_)
 obtain⟨h1,h2⟩:=znS I1 r1 ty
 exact⟨T,id,pa,slot,hty,h1,h2,Calls.callWith_builtin rfl (PySem.evalArgs_none (hm pins s1 σ H1 x [] v [] Q I1 r1 .nil q1))⟩
theorem zkz (pa:PlainAttrs T)(slot:Slot T name id)(hty:typeOf (.builtin id)=pure (.type "method_descriptor"))(hm:MtR X id r)(ho:PE X o to)(ha:PA X (e::es) t)
  (hbase:attributeBase o name X.env (eval o X.env)=eval o X.env:=by rfl)
  (hfew:((backTo cpos (starEach (e::es) X.env)).all (λx=>!x.1) && (backToKw cpos (keywordEach [] X.env)).all (λx=>x.1.isSome)
   && decide ((e::es).length+([]:List Keyword).length+(if ([]:List Keyword).isEmpty then 0 else 1)<30))=true:=by rfl)
  (hline:(apos.endLine == cpos.line)=true:=by rfl) (hs:starEach (e::es) X.env=(false,eval e X.env)::starEach es X.env:=by rfl) (hplain:(backTo cpos (starEach es X.env)).any (·.1)=false:=by rfl) :
  PE X (.Call (.Attribute o name apos) (e::es) [] cpos) (tBM X.K T r to t):=by
 intro pins s σ H Q I h
 refine wpAny_Call_method_late hbase hfew hline rfl (thn (ho pins s σ H _ I h) λv s1 ⟨x,H1,I1,r1,ty,q1⟩=>?_)
 obtain⟨h1,h2⟩:=znS I1 r1 ty
 refine⟨T,id,pa,slot,hty,h1,h2,?_⟩
 have hA:=ha cpos pins s1 σ H1 _ I1 q1
 rw[hs] at hA ⊢
 refine Calls.callWith_builtin (by show (false || (backTo cpos (starEach es X.env)).any (·.1))=false;rw[hplain] <;> rfl) (Calls.evalArgs_plain ?_)
 exact thn hA λus s2 ⟨vs,H2,I2,r2,q2⟩=>hm pins s2 σ H2 x vs v us Q I2 r1 r2 q2
/- xs.append(e),list.index on a module's tuple .. are MtR facts of 06m -/
end
end L2

namespace L2
open PySem PySem.Spec PyProof.Rows

def MtM (X:Cx)(id:String)(r:V->List V->Hp->VK->Prop):Prop:=
 ∀ (pins:List (Addr × Obj)) (s:Shared) (σ:St) (H:Hp) (x:V) (xs:List V) (v:Value) (us:List Value) (Q:VK),Inv X pins σ H s->RelV x v->Vals xs us->r x xs H Q->
  wpAny (model X.prog X.w) X.A (call (.builtin id) (v::us)) (EP X pins σ Q) X.xe s
theorem Vals.one:∀ {x:V}{us:List Value},Vals [x] us->∃ u,us=[u]/\RelV x u
 | _,_,.cons r .nil=>⟨_,rfl,r⟩
theorem Vals.two:∀ {x y:V}{us:List Value},Vals [x,y] us->∃ u v,us=[u,v]/\RelV x u/\RelV y v
 | _,_,_,.cons r (.cons q .nil)=>⟨_,_,rfl,r,q⟩
theorem Vals.zero:∀ {us:List Value},Vals [] us->us=[]
 | _,.nil=>rfl
theorem Vals.dropLast {xs:List V}{us:List Value}(h:Vals xs us):Vals xs.dropLast us.dropLast:=by
 induction h with
 | nil=>exact .nil
 | cons r t ih=>
  cases t with
  | nil=>exact .nil
  | cons q t'=>exact .cons r ih
theorem Vals.rep {xs:List V}{us:List Value}(h:Vals xs us):∀ k:Nat,Vals (List.replicate k xs).flatten (List.replicate k us).flatten
 | 0=>.nil
 | k+1=>by
  rw[List.replicate_succ,List.replicate_succ,List.flatten_cons,List.flatten_cons]
  exact Vals.append h (Vals.rep h k)
theorem zkA {α:Type}(l:List α):l.eraseIdx (l.length - 1)=l.dropLast:=by
 induction l with
 | nil=>rfl
 | cons a r ih=>
  cases r with
  | nil=>rfl
  | cons b r=>
   have e:(a::b::r).length - 1=((b::r).length - 1)+1:=by
    have h1:(a::b::r).length=r.length+2:=rfl
    have h2:(b::r).length=r.length+1:=rfl
    omega
   rw[e,List.eraseIdx_cons_succ,ih]
   all_goals rfl
theorem zir (its:List Value):∀ (k:Nat) (acc:List Value),
  List.foldl (λx1 x2=>x1++x2) acc.toArray (List.replicate k its.toArray)=(acc++(List.replicate k its).flatten).toArray
 | 0,acc=>by simp
 | k+1,acc=>by
  have e:acc.toArray++its.toArray=(acc++its).toArray:=by simp
  have e2:(acc++its)++(List.replicate k its).flatten=acc++(List.replicate (k+1) its).flatten:=by
   rw[List.replicate_succ,List.flatten_cons,List.append_assoc]
  rw[<-e2,<-zir its k (acc++its),<-e,List.replicate_succ,List.foldl_cons]
section
variable {X:Cx}{pins:List (Addr × Obj)}{σ:St}{H:Hp}{s:Shared}{l b:Addr}{xs ys zs:List V}

theorem Inv.lset {its its':List Value}{n:Nat}{f:Array Value->Array Value}{t':Nat}(I:Inv X pins σ H s)(hH:H l=some (.lst xs))
  (e:s.heap.get? l=some {cls:=.type "list",data:=.seq its.toArray n}) (hf:f its.toArray=its'.toArray) (hv:Vals ys its') (hz:ys.length<=sizeLine) :
  Inv X pins σ (upd H l (.lst ys)) {s with heap:=s.heap.update l (Obj.mapSeq f),toks:=t'}:=by
 have q:=PySem.IsL.update e f
 rw[hf] at q
 refine I.write (x:=l) (e:=l) (by rw[hH];exact trivial) (.inl rfl) (λb' u hb hu=>(Heap.get?_update_other s.heap (Obj.mapSeq f) (Ne.symm hb)).trans hu) ⟨_,q⟩ ?_
 exact⟨hz,its',_,hv,q⟩
theorem Inv.lnew {its:List Value}{t':Nat}(I:Inv X pins σ H s)(hv:Vals ys its)(hz:ys.length<=sizeLine) :
  Inv X pins σ (upd H s.heap.objs.size (.lst ys)) {s with heap:=s.heap.push {cls:=.type "list",data:=.seq its.toArray},toks:=t'}:=
 I.laid (λ_ _ q=>Heap.get?_push_of_some _ q) (Nat.le_refl _) ⟨hz,its,0,hv,Heap.get?_push_size _ rfl⟩
theorem Inv.fresh (I:Inv X pins σ H s):H s.heap.objs.size=none:=I.hok.fresh (Nat.le_refl _)
theorem Inv.lstM (I:Inv X pins σ H s)(hH:H l=some (.lst xs)):xs.length<=sizeLine/\∃ (its:List Value) (n:Nat),Vals xs its/\xs.length=its.length/\s.heap.get? l=some {cls:=.type "list",data:=.seq its.toArray n}:=by
 obtain⟨z,its,n,r,e⟩:=I.hok l _ hH
 exact⟨z,its,n,r,r.length,e⟩
theorem zjX {n:Nat}(h:n<=sizeLine):Builtin.List.listTooLong n=false:=by
 unfold Builtin.List.listTooLong
 exact decide_eq_false (by omega)
end

section
variable {X:Cx}

def zly:V->List V->Hp->VK->Prop:=λx vs H Q=>∃ l xs y,x=.ref l/\vs=[y]/\H l=some (.lst xs)/\xs.length<sizeLine/\Q .non (upd H l (.lst (xs++[y])))
theorem zcu:MtM X "list.append" zly:=by
 intro pins s σ H x vs v us Q I rx rv h
 obtain⟨l,xs,y,rfl,rfl,hH,hz,q⟩:=h
 cases rx
 obtain⟨u,rfl,ru⟩:=rv.one
 obtain⟨z,its,n,r,hl,e⟩:=I.lstM hH
 refine call_meets F.slot_list_append ⟨_,e,rfl⟩ F.entry_list_append (F.args_list_append_2 _ _) (PySem.list_append l its.toArray n u (by rw[zst];omega)) ⟨e,?_⟩
 refine⟨.non,_,I.lset (its':=its++[u]) hH e (by simp) (r.append (.cons ru .nil)) ?_,rfl,q⟩
 rw[List.length_append,List.length_singleton]
 omega
def zou:V->List V->Hp->VK->Prop:=λx vs H Q=>∃ l b xs zs,x=.ref l/\vs=[.ref b]/\H l=some (.lst xs)/\H b=some (.lst zs)/\xs.length+zs.length<=sizeLine/\Q .non (upd H l (.lst (xs++zs)))
theorem zlz:MtM X "list.extend" zou:=by
 intro pins s σ H x vs v us Q I rx rv h
 obtain⟨l,b,xs,zs,rfl,rfl,hH,hB,hz,q⟩:=h
 cases rx
 obtain⟨u,rfl,ru⟩:=rv.one
 cases ru
 obtain⟨z,its,n,r,hl,e⟩:=I.lstM hH
 obtain⟨z2,its2,n2,r2,hl2,e2⟩:=I.lstM hB
 have hsz:its.toArray.size+its2.toArray.size<=sizeLine:=by rw[zst,zst];omega
 have hlong:¬ (!its.toArray.isEmpty && Builtin.List.listTooLong (its.toArray.size+its2.toArray.size))=true:=by
  rw[zjX hsz,Bool.and_false]
  exact Bool.false_ne_true
 refine call_meets F.slot_list_extend ⟨_,e,rfl⟩ F.entry_list_extend (F.args_list_extend_2 _ _)
  (AutoSeq1.list_extend_list_list_0 l its.toArray n b its2.toArray n2 hlong (by rw[zst];omega) (by omega)) ⟨e,e2,?_⟩
 refine⟨.non,_,I.lset (its':=its++its2) hH e (by simp) (r.append r2) ?_,rfl,q⟩
 rw[List.length_append]
 omega
def rPop:V->List V->Hp->VK->Prop:=λx vs H Q=>∃ l xs y,x=.ref l/\vs=[]/\H l=some (.lst xs)/\xs[xs.length - 1]?=some y/\Q y (upd H l (.lst xs.dropLast))
theorem zpy:MtM X "list.pop" rPop:=by
 intro pins s σ H x vs v us Q I rx rv h
 obtain⟨l,xs,y,rfl,rfl,hH,hy,q⟩:=h
 cases rx
 have hus:=rv.zero
 subst hus
 obtain⟨z,its,n,r,hl,e⟩:=I.lstM hH
 obtain⟨u,hu,ru⟩:=r.get hy
 have hy':its.toArray[its.toArray.size - 1]?=some u:=by
  show its.toArray[its.length - 1]?=some u
  rw[<-Array.getElem?_toList,<-hl]
  exact hu
 refine call_meets F.slot_list_pop ⟨_,e,rfl⟩ F.entry_list_pop (F.args_list_pop_1 _) (MeetsSeq.list_pop_last l its.toArray n u hy' (by rw[zst];omega)) ⟨e,?_⟩
 refine⟨y,_,I.lset (its':=its.dropLast) hH e ?_ r.dropLast ?_,ru,q⟩
 ·show its.toArray.eraseIdxIfInBounds (its.toArray.size - 1)=its.dropLast.toArray
  rw[zst,List.eraseIdxIfInBounds_toArray,zkA]
 ·rw[List.length_dropLast]
  omega
def rCat:R2:=λx y H Q=>∃ l b xs zs,x=.ref l/\y=.ref b/\H l=some (.lst xs)/\H b=some (.lst zs)/\xs.length+zs.length<=sizeLine/\∀ p,H p=none->Q (.ref p) (upd H p (.lst (xs++zs)))
theorem zpz:OpR X (binaryOp .Add) rCat:=by
 intro pins s σ H x y v u Q I rx ry h
 obtain⟨l,b,xs,zs,rfl,rfl,hH,hB,hz,q⟩:=h
 cases rx
 cases ry
 obtain⟨z,its,n,r,hl,e⟩:=I.lstM hH
 obtain⟨z2,its2,n2,r2,hl2,e2⟩:=I.lstM hB
 refine PySem.P.add_list e e2 ?_ (by rw[zst,zst];omega)
 have ea:its.toArray++its2.toArray=(its++its2).toArray:=by simp
 rw[ea]
 exact⟨.ref _,_,I.lnew (t':=s.toks) (r.append r2) (by rw[List.length_append];omega),rfl,q _ I.fresh⟩
def rRep:R2:=λx y H Q=>∃ l k xs,x=.ref l/\y=.int k/\H l=some (.lst xs)/\-(2 ^ 63)<=k/\k<2 ^ 63/\xs.length * k.toNat<=sizeLine/\
 ∀ p,H p=none->Q (.ref p) (upd H p (.lst (List.replicate k.toNat xs).flatten))
theorem zov {α:Type}(xs:List α)(k:Nat):(List.replicate k xs).flatten.length=k * xs.length:=by
 induction k with
 | zero=>simp
 | succ k ih=>rw[List.replicate_succ,List.flatten_cons,List.length_append,ih,Nat.succ_mul,Nat.add_comm]
theorem zpA:OpR X (binaryOp .Mult) rRep:=by
 intro pins s σ H x y v u Q I rx ry h
 obtain⟨l,k,xs,rfl,rfl,hH,h1,h2,hz,q⟩:=h
 cases rx
 obtain⟨t,rfl⟩:=ry
 obtain⟨z,its,n,r,hl,e⟩:=I.lstM hH
 have hlen:its.toArray.size * k.toNat<=sizeLine:=by rw[zst,<-hl];exact hz
 have hcap:¬ its.toArray.size * k.toNat>(2 ^ 63 - 1) / 8:=by
  have:(sizeLine:Nat)<=(2 ^ 63 - 1) / 8:=by decide
  omega
 have hfit:¬ (!Builtin.List.listFitsIndex k)=true:=by
  rw[fitsIndex_both h1 h2]
  exact Bool.false_ne_true
 have hlong:¬ Builtin.List.listTooLong (its.toArray.size * k.toNat)=true:=by
  rw[zjX hlen]
  exact Bool.false_ne_true
 have hnew:List.foldl (λx1 x2=>x1++x2) #[] (List.replicate (if its.toArray.isEmpty=true then 0 else k.toNat) its.toArray)=(List.replicate k.toNat its).flatten.toArray:=by
  have f0:∀ m:Nat,List.foldl (λx1 x2=>x1++x2) #[] (List.replicate m its.toArray)=(List.replicate m its).flatten.toArray:=λm=>by
   have:=zir its m []
   rw[List.nil_append] at this
   exact this
  rw[f0]
  cases its with
  | nil=>simp
  | cons a r'=>rw[if_neg (by simp)]
 refine wpAny_binaryOp_repeat_ref (T:="list") (U:="int") (by decide) ⟨_,e,rfl⟩ (λs'=>typeIs_int s' k t) noFill_list_mul F.fills_int_mul F.slot_int_rmul repeat_list F.slot_int_index.lookup
  (call_meets F.slot_int_rmul (typeIs_int s k t) F.entry_int_rmul (F.args_int_rmul_2 _ _) (int___rmul___int_list k t l its.toArray n)
   ⟨e,rfl,⟨_,e,rfl⟩,call_meets F.slot_list_mul ⟨_,e,rfl⟩ F.entry_list_mul (F.args_list_mul_2 _ _) (AutoListH.list___mul___list_int_3 l its.toArray n k t hfit hcap hlong) ⟨e,?_⟩⟩)
 rw[hnew]
 exact⟨.ref _,_,I.lnew (t':=s.toks) (r.rep k.toNat) (by rw[zov,Nat.mul_comm];exact hz),rfl,q _ I.fresh⟩
end

section
variable {prog:Program}{w:World}{A:Around}{E:Value->Shared->Prop}{s:Shared}
set_option maxRecDepth 100000 in
end

section
variable {X:Cx}
end
end L2
namespace L2
open PySem PySem.Spec PyProof.Rows

section
variable {κ:Type} [DecidableEq κ]
def valV (kvs:List (κ × V))(k:κ):Option V:=(kvs.find? λkv=>decide (kv.1=k)).map (·.2)
def putK (kvs:List (κ × V))(k:κ)(v:V):List (κ × V):=
 if (kvs.any λkv=>decide (kv.1=k))=true then kvs.map (λkv=>if kv.1=k then (kv.1,v) else kv) else kvs++[(k,v)]
def zbZ (kvs:List (κ × V))(k:κ):List (κ × V):=kvs.filter λkv=>decide (kv.1≠k)
theorem zbx {p:κ × V}{r:List (κ × V)}{k:κ}(e:p.1=k):valV (p::r) k=some p.2:=by simp[valV,List.find?_cons,e]
theorem zbp {p:κ × V}{r:List (κ × V)}{k:κ}(e:¬ p.1=k):valV (p::r) k=valV r k:=by simp[valV,List.find?_cons,e]
theorem zcN (k:κ):∀ kvs:List (κ × V),(kvs.any λkv=>decide (kv.1=k))=(valV kvs k).isSome
 | []=>rfl
 | p::r=>by
  rw[List.any_cons]
  by_cases e:p.1=k
  ·simp only[zbx e,decide_eq_true e,Bool.true_or,Option.isSome_some]
  ·rw[zbp e,decide_eq_false e,Bool.false_or];exact zcN k r
theorem zjY (k j:κ)(y:V):∀ kvs:List (κ × V),valV (kvs.map λkv=>if kv.1=k then (kv.1,y) else kv) j=(valV kvs j).map λx=>if j=k then y else x
 | []=>rfl
 | p::r=>by
  have ih:=zjY k j y r
  rw[zmc]
  by_cases h:p.1=k
  ·rw[if_pos h]
   by_cases e:p.1=j
   ·rw[zbx (p:=(p.1,y)) e,zbx e,Option.map_some,if_pos (e.symm.trans h)]
   ·rw[zbp (p:=(p.1,y)) e,zbp e,ih]
  ·rw[if_neg h]
   by_cases e:p.1=j
   ·rw[zbx (p:=p) e,zbx e,Option.map_some,if_neg (λz=>h (e.trans z))]
   ·rw[zbp (p:=p) e,zbp e,ih]
theorem zis (k j:κ)(y:V):∀ kvs:List (κ × V),valV kvs k=none->valV (kvs++[(k,y)]) j=if j=k then some y else valV kvs j
 | [],_=>by
  by_cases e:k=j
  ·rw[if_pos e.symm];exact zbx (p:=(k,y)) e
  ·rw[if_neg (λz=>e z.symm)];exact zbp (p:=(k,y)) e
 | p::r,hn=>by
  rw[List.cons_append]
  have hk:¬ p.1=k:=λz=>by rw[zbx z] at hn;cases hn
  rw[zbp hk] at hn
  have ih:=zis k j y r hn
  by_cases e:p.1=j
  ·rw[zbx e,zbx e,if_neg (λz=>hk (e.trans z))]
  ·rw[zbp e,zbp e,ih]
theorem zee (kvs:List (κ × V))(k j:κ)(y:V):valV (putK kvs k y) j=if j=k then some y else valV kvs j:=by
 unfold putK
 by_cases a:(kvs.any λkv=>decide (kv.1=k))=true
 ·rw[if_pos a,zjY]
  rw[zcN] at a
  by_cases e:j=k
  ·obtain⟨x,hx⟩:=Option.isSome_iff_exists.mp a
   rw[if_pos e,e,hx,Option.map_some,if_pos rfl]
  ·rw[if_neg e]
   cases valV kvs j with
   | none=>rfl
   | some x=>rw[Option.map_some,if_neg e]
 ·rw[if_neg a]
  refine zis k j y kvs ?_
  rw[zcN] at a
  cases q:valV kvs k with
  | none=>rfl
  | some x=>rw[q] at a;exact (a rfl).elim
theorem zey (kvs:List (κ × V))(k:κ)(v:V):(putK kvs k v).length<=kvs.length+1:=by
 unfold putK
 split
 ·rw[zlm];omega
 ·rw[List.length_append,List.length_cons,List.length_nil];omega
theorem zm0 {kvs:List (κ × V)}{k:κ}(v:V)(h:valV kvs k=none):putK kvs k v=kvs++[(k,v)]:=by
 unfold putK
 rw[zcN,h]
 exact if_neg (by decide)
theorem RelO.isSome_eq {o:Option V}{u:Option Value}(r:RelO o u):o.isSome=u.isSome:=by
 cases o with
 | none=>cases u with
  | none=>rfl
  | some _=>exact (show False from r).elim
 | some _=>cases u with
  | none=>exact (show False from r).elim
  | some _=>rfl
theorem RelO.getD {o:Option V}{u:Option Value}{d:V}{d':Value}(r:RelO o u)(rd:RelV d d'):RelV (o.getD d) (u.getD d'):=by
 cases o with
 | none=>cases u with
  | none=>exact rd
  | some _=>exact (show False from r).elim
 | some _=>cases u with
  | none=>exact (show False from r).elim
  | some _=>exact r
theorem KV.val {kvs:List (κ × V)}{vs:List (κ × Value)}(r:KV kvs vs)(k:κ):RelO (valV kvs k) (valueAt vs k):=by
 unfold KV at r
 induction r with
 | nil=>exact True.intro
 | @cons p q ps qs h t ih=>
  obtain⟨h1,h2⟩:=h
  by_cases e:p.1=k
  ·have e':q.1=k:=h1.symm.trans e
   have b:valueAt (q::qs) k=some q.2:=by simp[valueAt,List.find?_cons,e']
   rw[zbx e,b];exact h2
  ·have e':¬ q.1=k:=λz=>e (h1.trans z)
   have b:valueAt (q::qs) k=valueAt qs k:=by simp[valueAt,List.find?_cons,e']
   rw[zbp e,b];exact ih
theorem KV.any {kvs:List (κ × V)}{vs:List (κ × Value)}(r:KV kvs vs)(k:κ):(kvs.any λkv=>decide (kv.1=k))=vs.any λkv=>decide (kv.1=k):=by
 unfold KV at r
 induction r with
 | nil=>rfl
 | cons h t ih=>rw[List.any_cons,List.any_cons,ih,h.1]
theorem KV.repl {kvs:List (κ × V)}{vs:List (κ × Value)}(r:KV kvs vs)(k:κ){y:V}{u:Value}(ry:RelV y u) :
  KV (kvs.map λkv=>if kv.1=k then (kv.1,y) else kv) (vs.map λkv=>if kv.1=k then (kv.1,u) else kv):=by
 unfold KV at r ⊢
 induction r with
 | nil=>exact .nil
 | @cons p q ps qs h t ih=>
  rw[zmc,zmc]
  refine .cons ?_ ih
  obtain⟨h1,h2⟩:=h
  by_cases e:p.1=k
  ·rw[if_pos e,if_pos (h1.symm.trans e)];exact⟨h1,ry⟩
  ·rw[if_neg e,if_neg (λz=>e (h1.trans z))];exact⟨h1,h2⟩
theorem KV.put {kvs:List (κ × V)}{vs:List (κ × Value)}(r:KV kvs vs)(k:κ){y:V}{u:Value}(ry:RelV y u):KV (putK kvs k y) (stored vs k u):=by
 unfold putK stored
 rw[r.any k]
 by_cases e:(vs.any λkv=>decide (kv.1=k))=true
 ·rw[if_pos e,if_pos e];exact r.repl k ry
 ·rw[if_neg e,if_neg e];exact Paired.snoc r ⟨rfl,ry⟩
theorem KV.drop {kvs:List (κ × V)}{vs:List (κ × Value)}(r:KV kvs vs)(k:κ):KV (zbZ kvs k) (without vs k):=by
 unfold KV at r ⊢
 unfold zbZ without
 induction r with
 | nil=>exact .nil
 | @cons p q ps qs h t ih=>
  obtain⟨h1,h2⟩:=h
  rw[List.filter_cons,List.filter_cons]
  by_cases e:p.1=k
  ·have a:¬ decide (p.1≠k)=true:=by simp[e]
   have b:¬ decide (q.1≠k)=true:=by simp[h1.symm.trans e]
   rw[if_neg a,if_neg b];exact ih
  ·have e':¬ q.1=k:=λz=>e (h1.trans z)
   have a:decide (p.1≠k)=true:=by simp[e]
   have b:decide (q.1≠k)=true:=by simp[e']
   rw[if_pos a,if_pos b];exact .cons ⟨h1,h2⟩ ih
theorem KV.keys {kvs:List (κ × V)}{vs:List (κ × Value)}(r:KV kvs vs):kvs.map (·.1)=vs.map (·.1):=by
 unfold KV at r
 induction r with
 | nil=>rfl
 | cons h t ih=>rw[zmc,zmc,ih,h.1]
theorem KV.length {kvs:List (κ × V)}{vs:List (κ × Value)}(r:KV kvs vs):kvs.length=vs.length:=Paired.length r
theorem zjZ (kvs:List (κ × V))(k:κ):(zbZ kvs k).length<=kvs.length:=List.length_filter_le _ _
end


theorem zgO {P:Program}{w:World}{k:Key}{u:Value}(r:RelV (kV k) u):(za9 P w).is k u=true:=by
 cases k with
 | inl i=>obtain⟨t,e⟩:=(show ∃ t,u=Value.int i t from r);subst e;exact zjd P w i t
 | inr x=>obtain⟨t,e⟩:=(show ∃ t,u=Value.str x t from r);subst e;exact zje P w x t
theorem zit {P:Program}{w:World} : ∀ {ks:List Key}{us:List Value},Vals (ks.map kV) us->ItemsAre (za9 P w) ks us
 | [],_,r=>by rw[List.map_nil] at r;cases r;exact .nil
 | k::ks,_,r=>by
  rw[zmc] at r
  cases r with
  | cons h t=>exact .cons (zgO h) (zit t)
abbrev KT (H:Hp):List (List Key × V)->List (List Key × Addr × Value)->Prop:=Paired λp q=>p.1=q.1/\H q.2.1=some (.tup (p.1.map kV))/\RelV p.2 q.2.2
theorem KT.val {H:Hp}{kvs:List (List Key × V)}{xs:List (List Key × Addr × Value)}(r:KT H kvs xs)(k:List Key):RelO (valV kvs k) ((atKey xs k).map (·.2)):=by
 induction r with
 | nil=>exact True.intro
 | @cons p q ps qs h t ih=>
  obtain⟨h1,_,h2⟩:=h
  by_cases e:p.1=k
  ·have e':q.1=k:=h1.symm.trans e
   have b:atKey (q::qs) k=some q.2:=by simp[atKey,List.find?_cons,e']
   rw[zbx e,b];exact h2
  ·have e':¬ q.1=k:=λz=>e (h1.trans z)
   have b:atKey (q::qs) k=atKey qs k:=by simp[atKey,List.find?_cons,e']
   rw[zbp e,b];exact ih
theorem KT.repl {H:Hp}{kvs:List (List Key × V)}{xs:List (List Key × Addr × Value)}(r:KT H kvs xs)(k:List Key){y:V}{u:Value}(ry:RelV y u) :
  KT H (kvs.map λkv=>if kv.1=k then (kv.1,y) else kv) (xs.map (putAt k u)):=by
 induction r with
 | nil=>exact .nil
 | @cons p q ps qs h t ih=>
  rw[zmc,zmc]
  refine .cons ?_ ih
  obtain⟨h1,h2,h3⟩:=h
  unfold putAt
  by_cases e:p.1=k
  ·rw[if_pos e,if_pos (h1.symm.trans e)];exact⟨h1,h2,ry⟩
  ·rw[if_neg e,if_neg (λz=>e (h1.trans z))];exact⟨h1,h2,h3⟩
theorem KT.put {H:Hp}{kvs:List (List Key × V)}{xs:List (List Key × Addr × Value)}(r:KT H kvs xs)(k:List Key){b:Addr}{y:V}{u:Value}(hb:H b=some (.tup (k.map kV)))(ry:RelV y u) :
  KT H (putK kvs k y) (storedH xs k b u):=by
 have e:(kvs.any λkv=>decide (kv.1=k))=(atKey xs k).isSome:=by
  rw[zcN,(r.val k).isSome_eq,Option.isSome_map]
 unfold putK storedH
 rw[e]
 by_cases q:(atKey xs k).isSome=true
 ·rw[if_pos q,if_pos q];exact r.repl k ry
 ·rw[if_neg q,if_neg q];exact Paired.snoc r ⟨rfl,hb,ry⟩
theorem KT.keeps {H H':Hp}{kvs:List (List Key × V)}{xs:List (List Key × Addr × Value)}(r:KT H kvs xs)(ht:∀ b ys,H b=some (.tup ys)->H' b=some (.tup ys)):KT H' kvs xs:=
 Paired.mapP r λ_ _ z=>⟨z.1,ht _ _ z.2.1,z.2.2⟩
section
variable {P:Program}{w:World}{H:Hp}{h:Heap}{a:Addr}
theorem zpB {u:HO}(ok:HOk P w H h)(e:Rd H a u):zbD P w H h a u:=e.ok ok
theorem zjm {kvs:List (Key × V)}(ok:HOk P w H h)(e:Rd H a (.dK kvs)):kvs.length<=sizeLine/\(a == sysModules)=false/\∃ vs,KV kvs vs/\h.DictOf (za9 P w) a vs:=
 show zbD P w H h a (.dK kvs) from zpB ok e
theorem zjn {kvs:List (Key × V)}(ok:HOk P w H h)(e:H a=some (.dK kvs)):kvs.length<=sizeLine/\(a == sysModules)=false/\∃ vs,KV kvs vs/\h.DictOf (za9 P w) a vs:=zjm ok (.inl e)
theorem zhd {ks:List Key}(ok:HOk P w H h)(e:H a=some (.tup (ks.map kV))):(tupleKind (za9 P w)).is h ks a:=by
 obtain⟨_,its,r,o,h1,h2,n,h3⟩:=(show zbD P w H h a (.tup (ks.map kV)) from ok a _ e)
 exact⟨o,its.toArray,n,h1,h2,h3,by simpa using zit r⟩
theorem zjo {kvs:List (List Key × V)}(ok:HOk P w H h)(e:Rd H a (.dT kvs)):kvs.length<=sizeLine/\(a == sysModules)=false/\
  ∃ xs,KT H kvs xs/\h.DictOfH (tupleKind (za9 P w)) a xs:=by
 obtain⟨z,y,xs,r,o,es,ep,h1,h2,h3,h4,h5⟩:=(show zbD P w H h a (.dT kvs) from zpB ok e)
 refine⟨z,y,xs,r,o,es,ep,h1,h2,h3,h4,λx hx=>?_,h5⟩
 have all:∀ {l:List (List Key × V)}{m:List (List Key × Addr × Value)},KT H l m->∀ x∈m,(tupleKind (za9 P w)).is h x.1 x.2.1:=by
  intro l m q
  induction q with
  | nil=>intro x hx;exact nomatch hx
  | @cons p q ps qs hq t ih=>
   intro x hx
   rcases List.mem_cons.mp hx with e | hx
   ·subst e
    exact zhd ok (by rw[<-hq.1];exact hq.2.1)
   ·exact ih x hx
 exact all r x hx
theorem dt_of {kvs:List (List Key × V)}(ok:HOk P w H h)(e:H a=some (.dT kvs)):kvs.length<=sizeLine/\(a == sysModules)=false/\
  ∃ xs,KT H kvs xs/\h.DictOfH (tupleKind (za9 P w)) a xs:=zjo ok (.inl e)
end

def DGet (H:Hp)(a:Addr)(y:V)(r:Option V):Prop:=
 (∃ kvs k,Rd H a (.dK kvs)/\y=kV k/\r=valV kvs k)\/∃ kvs k b,Rd H a (.dT kvs)/\y=.ref b/\H b=some (.tup (k.map kV))/\r=valV kvs k
def DPut (H:Hp)(a:Addr)(y v:V)(H':Hp):Prop:=
 (∃ kvs k,H a=some (.dK kvs)/\y=kV k/\kvs.length<sizeLine/\H'=upd H a (.dK (putK kvs k v)))\/
 ∃ kvs k b,H a=some (.dT kvs)/\y=.ref b/\H b=some (.tup (k.map kV))/\kvs.length<sizeLine/\H'=upd H a (.dT (putK kvs k v))
theorem DGet.k {H:Hp}{a:Addr}{kvs:List (Key × V)}{k:Key}(e:H a=some (.dK kvs)):DGet H a (kV k) (valV kvs k):=.inl ⟨kvs,k,.inl e,rfl,rfl⟩
theorem DPut.k {H:Hp}{a:Addr}{kvs:List (Key × V)}{k:Key}{v:V}(e:H a=some (.dK kvs))(hl:kvs.length<sizeLine):DPut H a (kV k) v (upd H a (.dK (putK kvs k v))):=.inl ⟨kvs,k,e,rfl,hl,rfl⟩
section
variable {X:Cx}{pins:List (Addr × Obj)}{σ:St}{H:Hp}{s:Shared}{a:Addr}{y v:V}{u r:Value}{o:Option V}{A:Around}{E:Value->Shared->Prop}

theorem Inv.big (I:Inv X pins σ H s):sysModules<s.heap.objs.size:=by
 have h:mainGlobals<s.heap.objs.size:=(I.mod.glob.keeps I.bk).lt
 exact Nat.lt_trans (by decide) h
theorem zlA {Q:Value->Shared->Prop}(hu:A.units+1<cLine)(I:Inv X pins σ H s)(g:DGet H a y (some v))(ry:RelV y u)(h:∀ w' s',Inv X pins σ H s'->RelV v w'->Q w' s') :
  wpAny (model X.prog X.w) A (getItem (.ref a) u) Q E s:=by
 rcases g with ⟨kvs,k,e,ey,l⟩ | ⟨kvs,k,b,e,ey,eb,l⟩
 ·subst ey
  obtain⟨z,hd,vs,rel,dd⟩:=zjm I.hok e
  obtain⟨w',hw,rw'⟩:=RelO.some_of (v:=v) (o:=valueAt vs k) (by rw[l];exact rel.val k)
  exact wpAny_getItem_of (zgO ry) dd.mapOf hw (h w' _ (I.tok _) rw')
 ·subst ey
  cases (show u=Value.ref b from ry)
  obtain⟨z,hd,xs,rel,dd⟩:=zjo I.hok e
  obtain⟨w',hw,rw'⟩:=RelO.some_of (v:=v) (o:=(atKey xs k).map (·.2)) (by rw[l];exact rel.val k)
  obtain⟨p,hp,hp2⟩:=zme.mp hw
  refine wpAny_getItem_heap (tupleKind_room_in1 hu) (zhd I.hok eb) dd hp ?_
  rw[hp2]
  exact h w' _ (I.tok _) rw'
theorem d_in {Q:Value->Shared->Prop}(hu:A.units+1<cLine)(I:Inv X pins σ H s)(g:DGet H a y o)(ry:RelV y u)(h:∀ s',Inv X pins σ H s'->Q (.bool o.isSome) s') :
  wpAny (model X.prog X.w) A (compareOp .In u (.ref a)) Q E s:=by
 rcases g with ⟨kvs,k,e,ey,l⟩ | ⟨kvs,k,b,e,ey,eb,l⟩
 ·subst ey
  obtain⟨z,hd,vs,rel,dd⟩:=zjm I.hok e
  refine wpAny_in_of (zgO ry) hd dd.mapOf ?_
  rw[<-(rel.val k).isSome_eq,<-l]
  exact h _ (I.tok _)
 ·subst ey
  cases (show u=Value.ref b from ry)
  obtain⟨z,hd,xs,rel,dd⟩:=zjo I.hok e
  refine wpAny_in_heap (tupleKind_room_in1 hu) (zhd I.hok eb) hd dd ?_
  have q:=(rel.val k).isSome_eq
  rw[Option.isSome_map] at q
  rw[<-q,<-l]
  exact h _ (I.tok _)
theorem zow {Q:Value->Shared->Prop}(hu:A.units+1<cLine)(I:Inv X pins σ H s)(g:DGet H a y o)(ry:RelV y u)(h:∀ s',Inv X pins σ H s'->Q (.bool (!o.isSome)) s') :
  wpAny (model X.prog X.w) A (compareOp .NotIn u (.ref a)) Q E s:=by
 rcases g with ⟨kvs,k,e,ey,l⟩ | ⟨kvs,k,b,e,ey,eb,l⟩
 ·subst ey
  obtain⟨z,hd,vs,rel,dd⟩:=zjm I.hok e
  refine wpAny_notIn_of (zgO ry) hd dd.mapOf ?_
  rw[<-(rel.val k).isSome_eq,<-l]
  exact h _ (I.tok _)
 ·subst ey
  cases (show u=Value.ref b from ry)
  obtain⟨z,hd,xs,rel,dd⟩:=zjo I.hok e
  refine wpAny_notIn_heap (tupleKind_room_in1 hu) (zhd I.hok eb) hd dd ?_
  have q:=(rel.val k).isSome_eq
  rw[Option.isSome_map] at q
  rw[<-q,<-l]
  exact h _ (I.tok _)
theorem zf4 {h':Heap}{t':Nat}{ob:HO}(I:Inv X pins σ H s)(mu:Mut (H a))(hs:Heap.SameBut a s.heap h')(he:∃ q,h'.get? a=some q)(new:zbD X.prog X.w (upd H a ob) h' a ob) :
  Inv X pins σ (upd H a ob) {s with heap:=h',toks:=t'}:=
 I.write (x:=a) (e:=a) mu (.inl rfl) (λb q hb z=>(hs.2 b hb).trans z) he new
theorem zj0 {P:Program}{w:World}{H':Hp}{h':Heap}{kvs:List (Key × V)}{vs:List (Key × Value)}(z:kvs.length<=sizeLine)(hd:(a == sysModules)=false)(rel:KV kvs vs)(dd:h'.DictOf (za9 P w) a vs) :
  zbD P w H' h' a (.dK kvs):=⟨z,hd,vs,rel,dd⟩
theorem zlB {H':Hp}{Q:Unit->Shared->Prop}(hu:A.units+1<cLine)(I:Inv X pins σ H s)(g:DPut H a y v H')(ry:RelV y u)(rv:RelV v r)(h:∀ s',Inv X pins σ H' s'->Q () s') :
  wpAny (model X.prog X.w) A (setItem (.ref a) u r) Q E s:=by
 rcases g with ⟨kvs,k,e,ey,l,eH⟩ | ⟨kvs,k,b,e,ey,eb,l,eH⟩
 ·subst ey eH
  obtain⟨z,hd,vs,rel,dd⟩:=zjn I.hok e
  have hz:vs.length<=sizeLine:=by rw[<-rel.length];exact z
  have hl:(putK kvs k v).length<=sizeLine:=by have:=zey kvs k v;omega
  refine wpAny_setItem_pairs (hsz:=hz) (zgO ry) dd λh' dd' hs=>h _ ?_
  have he:∃ q,h'.get? a=some q:=let ⟨q,_,_,hq,_⟩:=dd';⟨q,hq⟩
  exact zf4 I (by rw[e];exact True.intro) hs he (zj0 hl hd (rel.put k rv) dd')
 ·subst ey eH
  cases (show u=Value.ref b from ry)
  obtain⟨z,hd,xs,rel,dd⟩:=dt_of I.hok e
  have hz:xs.length<=sizeLine:=by rw[<-Paired.length rel];exact z
  have hl:(putK kvs k v).length<=sizeLine:=by have:=zey kvs k v;omega
  refine wpAny_setItem_heap (hsz:=hz) (tupleKind_room_in1 hu) (zhd I.hok eb) dd λh' dd' hs=>h _ ?_
  obtain⟨q,es,ep,hq,h2,h3,h4,_,h5⟩:=dd'
  refine zf4 I (by rw[e];exact True.intro) hs ⟨q,hq⟩ ⟨hl,hd,_,(rel.put k eb rv).keeps λc ys ec=>?_,q,es,ep,hq,h2,h3,h4,h5⟩
  rw[zam (zgN ec e (λz=>nomatch z))]
  exact ec
end

section
variable {X:Cx}{pins:List (Addr × Obj)}{σ:St}{H:Hp}{s:Shared}{a:Addr}{kvs:List (Key × V)}{k:Key}{u:Value}{A:Around}{E:Value->Shared->Prop}
theorem zpC {Q:Unit->Shared->Prop}(I:Inv X pins σ H s)(e:H a=some (.dK kvs))(ry:RelV (kV k) u)(l:(valV kvs k).isSome=true)(h:∀ s',Inv X pins σ (upd H a (.dK (zbZ kvs k))) s'->Q () s') :
  wpAny (model X.prog X.w) A (delItem (.ref a) u) Q E s:=by
 obtain⟨z,hd,vs,rel,dd⟩:=zjn I.hok e
 refine wpAny_delItem_slot dd.typeIs (by decide) PySem.F.slot_dict_delitem
  (call_meetsIn PySem.F.slot_dict_delitem dd.typeIs PySem.F.entry_dict_delitem (PySem.F.args_dict_delitem_2 _ _) (meets_dict_delitem_pairs (za9 X.prog X.w) a (zgO ry)) ⟨vs,dd,by rw[<-rel.length];exact z,by rw[<-(rel.val k).isSome_eq];exact l,λh' dd' hs=>h _ ?_⟩)
 have he:∃ q,h'.get? a=some q:=let ⟨q,_,_,hq,_⟩:=dd';⟨q,hq⟩
 exact zf4 I (by rw[e];exact True.intro) hs he (zj0 (Nat.le_trans (zjZ kvs k) z) hd (rel.drop k) dd')
theorem zpD {v:V}{more:List Value}{Q:Value->Shared->Prop}(I:Inv X pins σ H s)(e:H a=some (.dK kvs))(ry:RelV (kV k) u)(l:valV kvs k=some v)(hm:more=[]\/∃ x,more=[x])
  (h:∀ w' s',Inv X pins σ (upd H a (.dK (zbZ kvs k))) s'->RelV v w'->Q w' s'):wpAny (model X.prog X.w) A (call (.builtin "dict.pop") (.ref a::u::more)) Q E s:=by
 obtain⟨z,hd,vs,rel,dd⟩:=zjn I.hok e
 obtain⟨w',hw,rw'⟩:=RelO.some_of (v:=v) (o:=valueAt vs k) (by rw[<-l];exact rel.val k)
 have hp:(keyPart u).isSome=true:=by
  cases k with
  | inl i=>obtain⟨t,q⟩:=(show ∃ t,u=Value.int i t from ry);subst q;rfl
  | inr x=>obtain⟨t,q⟩:=(show ∃ t,u=Value.str x t from ry);subst q;rfl
 have ha:argsOk "dict.pop" ⟨.ref a::u::more,[]⟩:=by
  rcases hm with q | ⟨x,q⟩
  ·subst q;exact PySem.F.args_dict_pop_2 _ _
  ·subst q;exact PySem.F.args_dict_pop_3 _ _ _
 refine call_meetsIn PySem.F.slot_dict_pop dd.typeIs PySem.F.entry_dict_pop ha (meets_dict_pop_there (za9 X.prog X.w) a (zgO ry) more hm hp)
  ⟨vs,w',dd,by rw[<-rel.length];exact z,hw,λh' dd' hs=>h w' _ ?_ rw'⟩
 have he:∃ q,h'.get? a=some q:=let ⟨q,_,_,hq,_⟩:=dd';⟨q,hq⟩
 exact zf4 I (by rw[e];exact True.intro) hs he (zj0 (Nat.le_trans (zjZ kvs k) z) hd (rel.drop k) dd')
theorem zpE {r:Value}{Q:Value->Shared->Prop}(I:Inv X pins σ H s)(e:H a=some (.dK kvs))(ry:RelV (kV k) u)(l:valV kvs k=none)(h:∀ s',Inv X pins σ H s'->Q r s') :
  wpAny (model X.prog X.w) A (call (.builtin "dict.pop") [.ref a,u,r]) Q E s:=by
 obtain⟨z,hd,vs,rel,dd⟩:=zjn I.hok e
 have hn:valueAt vs k=none:=RelO.none_of (by rw[<-l];exact rel.val k)
 have hp:(keyPart u).isSome=true:=by
  cases k with
  | inl i=>obtain⟨t,q⟩:=(show ∃ t,u=Value.int i t from ry);subst q;rfl
  | inr x=>obtain⟨t,q⟩:=(show ∃ t,u=Value.str x t from ry);subst q;rfl
 exact call_meetsIn PySem.F.slot_dict_pop dd.typeIs PySem.F.entry_dict_pop (PySem.F.args_dict_pop_3 _ _ _) (meets_dict_pop_default (za9 X.prog X.w) a (zgO ry) hd hp r) ⟨vs,dd,hn,h _ (I.tok _)⟩
end


def NoSl (i:Expr):Prop:=∀ ov iv,subscripted i false ov iv=operate [ov,iv] (getItem ov iv)
theorem zox {prog:Program}{w:World}{A:Around}{E:Value->Shared->Prop}{s:Shared}{env:Env}{value slice:Expr}{pos:Pos}{T id:String}{Q:Value->Shared->Prop}
  (hl:typeLookup (.type T) "__getitem__"=pure (some (.builtin id))) (hs:NoSl slice)
  (h:wpAny (model prog w) A (eval value env) (λo s₁=>wpAny (model prog w) A (eval slice env) (λi s₂=>s₂.TypeIs o T/\wpAny (model prog w) A (getItem o i) Q E s₂) E s₁) E s) :
  wpAny (model prog w) A (eval (.Subscript value slice pos) env) Q E s:=by
 refine Subscript_ (wpAny_mono h (λo s₁ h₁=>wpAny_mono h₁ (λi s₂ h₂=>?_) λ_ _ x=>x) λ_ _ x=>x)
 obtain⟨hT,h₂⟩:=h₂
 unfold subscriptTail
 refine wpAny_bind ?_
 rw[getitemInPython_of_ne hT.not_modules]
 refine wpAny_bind (wpAny_specialOf hT hl ?_)
 have fin:wpAny (model prog w) A (subscripted slice false o i) (λr s₃=>wpAny (model prog w) A (letTemporaryGo value o r >>= λ_=>pure r) Q E s₃) E s₂:=by
  rw[hs o i]
  exact wpAny_operating (wpAny_mono h₂ (λr s₃ h₃=>wpAny_bind (wpAny_letTemporaryGo (wpAny_pure h₃))) λ_ _ x=>x)
 first
  | exact wpAny_pure (wpAny_bind fin)
  | exact wpAny_bind (wpAny_pure (wpAny_bind fin))
  | exact wpAny_bind fin
theorem zjp {X:Cx}{pins:List (Addr × Obj)}{σ:St}{H:Hp}{s:Shared}{a:Addr}{y:V}{o:Option V}(I:Inv X pins σ H s)(g:DGet H a y o):s.TypeIs (.ref a) "dict":=by
 rcases g with ⟨kvs,k,e,_,_⟩ | ⟨kvs,k,b,e,_,_,_⟩
 ·obtain⟨_,_,vs,_,dd⟩:=zjm I.hok e
  exact dd.typeIs
 ·obtain⟨_,_,xs,_,dd⟩:=zjo I.hok e
  exact dd.typeIs
def zpF (td ty:TE):TE:=λσ H Q=>td σ H λx H1=>ty σ H1 λy H2=>∃ a v,x=.ref a/\DGet H2 a y (some v)/\Q v H2
def tDIn (ty td:TE):TE:=λσ H Q=>ty σ H λy H1=>td σ H1 λx H2=>∃ a o,x=.ref a/\DGet H2 a y o/\Q (.bl o.isSome) H2
def zlC (ty td:TE):TE:=λσ H Q=>ty σ H λy H1=>td σ H1 λx H2=>∃ a o,x=.ref a/\DGet H2 a y o/\Q (.bl (!o.isSome)) H2
def zpG (td ty tv:TE):TS:=λD σ H=>tv σ H λv H1=>td σ H1 λx H2=>ty σ H2 λy H3=>∃ a H4,x=.ref a/\DPut H3 a y v H4/\D.nx σ H4
section
variable {X:Cx}{o i e value:Expr}{pos pos' tpos:Pos}{td ty tv:TE}
theorem zez (hu:X.A.units+1<cLine)(ho:PE X o td)(hi:PE X i ty)(hs:NoSl i):PE X (.Subscript o i pos) (zpF td ty):=by
 intro pins s σ H Q I h
 refine zox PySem.F.slot_dict_getitem.lookup hs (thn (ho pins s σ H _ I h) λu s1 ⟨x,H1,I1,rx,q1⟩=>thn (hi pins s1 σ H1 _ I1 q1) λiv s2 ⟨y,H2,I2,ry,a,v,ex,g,q2⟩=>?_)
 subst ex
 obtain rfl:u=Value.ref a:=rx
 exact⟨zjp I2 g,zlA hu I2 g ry λw' s3 I3 rw'=>⟨v,H2,I3,rw',q2⟩⟩
theorem zlD (hu:X.A.units+1<cLine)(hi:PE X i ty)(ho:PE X o td):PC X .In i o (tDIn ty td):=by
 intro pins s σ H Q I h
 refine thn (hi pins s σ H _ I h) λiv s1 ⟨y,H1,I1,ry,q1⟩=>thn (ho pins s1 σ H1 _ I1 q1) λu s2 ⟨x,H2,I2,rx,a,ov,ex,g,q2⟩=>?_
 subst ex
 obtain rfl:u=Value.ref a:=rx
 exact d_in hu I2 g ry λs3 I3=>⟨.bl ov.isSome,H2,I3,rfl,q2⟩
theorem zf5 (hu:X.A.units+1<cLine)(hi:PE X i ty)(ho:PE X o td):PC X .NotIn i o (zlC ty td):=by
 intro pins s σ H Q I h
 refine thn (hi pins s σ H _ I h) λiv s1 ⟨y,H1,I1,ry,q1⟩=>thn (ho pins s1 σ H1 _ I1 q1) λu s2 ⟨x,H2,I2,rx,a,ov,ex,g,q2⟩=>?_
 subst ex
 obtain rfl:u=Value.ref a:=rx
 exact zow hu I2 g ry λs3 I3=>⟨.bl (!ov.isSome),H2,I3,rfl,q2⟩
theorem zf6 (hu:X.A.units+1<cLine)(ho:PE X o td)(hi:PE X i ty)(hv:PE X value tv)(hs:swapsWith value (some (.Subscript o i pos')) pos.line X.env=pure false) :
  PS X (.Assign [.Subscript o i pos'] value pos) (zpG td ty tv):=by
 intro pins s σ H D I h
 refine wpAny_Assign_Subscript (thn (hv pins s σ H _ I h) λr s1 ⟨v,H1,I1,rv,q1⟩=>thn (ho pins s1 σ H1 _ I1 q1) λu s2 ⟨x,H2,I2,rx,q2⟩=>thn (hi pins s2 σ H2 _ I2 q2) λiv s3 ⟨y,H3,I3,ry,a,H4,ex,g,q3⟩=>?_) hs
 subst ex
 obtain rfl:u=Value.ref a:=rx
 exact zlB hu I3 g ry rv λs4 I4=>⟨σ,H4,I4,q3⟩
end


theorem zj1 {P:Program}{w:World}{H:Hp}(h:Heap)(hb:sysModules<h.objs.size):zbD P w H (h.push {cls:=.type "dict",data:=.dict #[]}) h.objs.size (.dK []):=
 ⟨Nat.zero_le _,beq_eq_false_iff_ne.mpr (Ne.symm (Nat.ne_of_lt hb)),[],.nil,Heap.DictOf.new h⟩
def znT:TE:=λ_ H Q=>∀ p,H p=none->Q (.ref p) (upd H p (.dK []))
section
variable {X:Cx}{pos:Pos}
theorem zfN:PE X (.Dict [] [] pos) znT:=λpins s σ H Q I h=>
 wpAny_Dict_empty ⟨.ref s.heap.objs.size,_,I.laid (a:=s.heap.objs.size) (o:=.dK []) (t':=s.toks) (λ_ _ q=>Heap.get?_push_of_some _ q) (Nat.le_refl _) (zj1 s.heap I.big),rfl,h _ (I.hok.fresh (Nat.le_refl _))⟩
end

def zf7:List (TE × TE)->St->Hp->(List (V × V)->Hp->Prop)->Prop
 | [],_,H,Q=>Q [] H
 | (tk,tv)::r,σ,H,Q=>tk σ H λx H1=>tv σ H1 λy H2=>zf7 r σ H2 λps H3=>Q ((x,y)::ps) H3
abbrev VV:List (V × V)->List (Value × Value)->Prop:=Paired λp q=>RelV p.1 q.1/\RelV p.2 q.2
def PPs (X:Cx)(pos:Pos)(keys:List (Option Expr))(values:List Expr)(trs:List (TE × TE)):Prop:=
 ∀ (pins:List (Addr × Obj)) (s:Shared) (σ:St) (H:Hp) (Q:List (V × V)->Hp->Prop),Inv X pins σ H s->zf7 trs σ H Q->
  wpAny (model X.prog X.w) X.A (evalPairs (pairTrees keys values X.env pos)) (λvs s'=>∃ ps H',Inv X pins σ H' s'/\VV ps vs/\Q ps H') X.xe s
theorem zfd {X:Cx}{pos:Pos} : PPs X pos [] [] []:=λpins s σ H Q I h=>pairTrees_nil_walk ⟨[],H,I,.nil,h⟩
theorem zbQ {X:Cx}{pos:Pos}{k v:Expr}{ks:List (Option Expr)}{vs:List Expr}{tk tv:TE}{trs:List (TE × TE)}(hk:PE X k tk)(hv:PE X v tv)(hr:PPs X pos ks vs trs) :
  PPs X pos (some k::ks) (v::vs) ((tk,tv)::trs):=λpins s σ H Q I h=>
 pairTrees_cons_walk (thn (hk pins s σ H _ I h) λu s1 ⟨x,H1,I1,rx,q1⟩=>thn (hv pins s1 σ H1 _ I1 q1) λw2 s2 ⟨y,H2,I2,ry,q2⟩=>
  thn (hr pins s2 σ H2 _ I2 q2) λws s3 ⟨ps,H3,I3,rel,q3⟩=>⟨(x,y)::ps,H3,I3,.cons ⟨rx,ry⟩ rel,q3⟩)
def zbB (kvs more:List (Key × V)):List (Key × V):=more.foldl (λacc kv=>putK acc kv.1 kv.2) kvs
theorem KV.merge:∀ {more:List (Key × V)}{rs:List (Key × Value)}{kvs:List (Key × V)}{vs:List (Key × Value)},KV more rs->KV kvs vs->KV (zbB kvs more) (merged vs rs):=by
 intro more rs kvs vs r
 unfold KV at r
 induction r generalizing kvs vs with
 | nil=>intro q;exact q
 | @cons p q ps qs h t ih=>
  intro r0
  have e:KV (putK kvs p.1 p.2) (stored vs q.1 q.2):=by
   have:=r0.put p.1 h.2
   rw[<-h.1];exact this
  exact ih e
theorem zeM:∀ (more kvs:List (Key × V)),(zbB kvs more).length<=kvs.length+more.length
 | [],kvs=>by show kvs.length<=kvs.length+0;omega
 | p::r,kvs=>by
  have h1:=zeM r (putK kvs p.1 p.2)
  have h2:=zey kvs p.1 p.2
  show (zbB (putK kvs p.1 p.2) r).length<=_
  rw[List.length_cons];omega
theorem zhe {P:Program}{w:World} : ∀ {kvs:List (Key × V)}{ws:List (Value × Value)},VV (kvs.map λkv=>(kV kv.1,kv.2)) ws->∃ rs,Carries (za9 P w) ws rs/\KV kvs rs
 | [],_,r=>by rw[List.map_nil] at r;cases r;exact⟨[],True.intro,.nil⟩
 | p::kvs,_,r=>by
  rw[zmc] at r
  cases r with
  | @cons a b as bs h t=>
   obtain⟨rs,c,q⟩:=zhe (P:=P) (w:=w) t
   obtain⟨b1,b2⟩:=b
   exact⟨(p.1,b2)::rs,⟨zgO h.1,rfl,c⟩,.cons ⟨rfl,h.2⟩ q⟩
def zpH (trs:List (TE × TE)):TE:=λσ H Q=>∀ p,H p=none->zf7 trs σ (upd H p (.dK [])) λps H2=>H2 p=some (.dK [])/\∃ kvs:List (Key × V),ps=kvs.map (λkv=>(kV kv.1,kv.2))/\kvs.length<=15/\Q (.ref p) (upd H2 p (.dK (zbB [] kvs)))
theorem zfe {X:Cx}{pos:Pos}{keys:List (Option Expr)}{values:List Expr}{trs:List (TE × TE)}(h:PPs X pos keys values trs)(hall:keys.all (·.isSome)=true)(hl:keys.length=values.length)(h0:keys≠[])
  (h15:keys.length<=15):PE X (.Dict keys values pos) (zpH trs):=by
 intro pins s σ H Q I q
 have hn:=I.hok.fresh (Nat.le_refl s.heap.objs.size)
 have I1:=I.laid (a:=s.heap.objs.size) (o:=.dK []) (h':=s.heap.push {cls:=.type "dict",data:=.dict #[]}) (t':=s.toks) (λ_ _ q=>Heap.get?_push_of_some _ q) (Nat.le_refl _) (zj1 s.heap I.big)
 refine wpAny_Dict_walk (knd:=za9 X.prog X.w) hall hl h0 h15 (thn (h pins _ σ _ _ I1 (q _ hn)) λws s2 ⟨ps,H2,I2,rel,e,kvs,ep,lk,q2⟩=>?_)
 subst ep
 obtain⟨rs,c,rk⟩:=zhe (P:=X.prog) (w:=X.w) rel
 obtain⟨z,hd,vs0,r0,dd⟩:=zjn I2.hok e
 cases r0
 refine⟨rs,c,dd,λh' dd' hs=>⟨.ref s.heap.objs.size,_,?_,rfl,q2⟩⟩
 have hz:(zbB [] kvs).length<=sizeLine:=by
  have h1:=zeM kvs []
  rw[List.length_nil] at h1
  rw[sizeLine_eq];omega
 have he:∃ q,h'.get? s.heap.objs.size=some q:=let ⟨q,_,_,hq,_⟩:=dd';⟨q,hq⟩
 exact zf4 I2 (by rw[e];exact True.intro) hs he (zj0 hz hd (rk.merge .nil) dd')
structure M1 (X:Cx)(o:Expr)(m:Str)(apos:Pos)(e:Expr)(cpos:Pos):Prop where
 base:attributeBase o m X.env (eval o X.env)=eval o X.env
 few:((backTo cpos (starEach [e] X.env)).all (λx=>!x.1) && (backToKw cpos (keywordEach [] X.env)).all (λx=>x.1.isSome)
  && decide (([e]:List Expr).length+([]:List Keyword).length+(if ([]:List Keyword).isEmpty then 0 else 1)<30))=true
 line:(apos.endLine == cpos.line)=true
 trees:backTo cpos (starEach [e] X.env)=[(false,eval e X.env)]
structure M2 (X:Cx)(o:Expr)(m:Str)(apos:Pos)(e f:Expr)(cpos:Pos):Prop where
 base:attributeBase o m X.env (eval o X.env)=eval o X.env
 few:((backTo cpos (starEach [e,f] X.env)).all (λx=>!x.1) && (backToKw cpos (keywordEach [] X.env)).all (λx=>x.1.isSome)
  && decide (([e,f]:List Expr).length+([]:List Keyword).length+(if ([]:List Keyword).isEmpty then 0 else 1)<30))=true
 line:(apos.endLine == cpos.line)=true
 trees:backTo cpos (starEach [e,f] X.env)=[(false,eval e X.env),(false,eval f X.env)]
def IsD (H:Hp)(a:Addr):Prop:=(∃ kvs,Rd H a (.dK kvs))\/∃ kvs,Rd H a (.dT kvs)
theorem zlE {X:Cx}{pins:List (Addr × Obj)}{σ:St}{H:Hp}{s:Shared}{a:Addr}(I:Inv X pins σ H s)(d:IsD H a) :
  s.TypeIs (.ref a) "dict" /\(∀ b,Value.ref a=.ref b->∃ ob,s.heap.get? b=some ob/\ob.dict=none)/\(a == sysModules)=false:=by
 rcases d with ⟨kvs,e⟩ | ⟨kvs,e⟩
 ·obtain⟨_,hd,vs,_,dd⟩:=zjm I.hok e
  refine⟨dd.typeIs,λb q=>?_,hd⟩
  cases q
  obtain⟨ob,_,_,h1,h2,_⟩:=dd
  exact⟨ob,h1,h2.2.1⟩
 ·obtain⟨_,hd,xs,_,dd⟩:=zjo I.hok e
  refine⟨dd.typeIs,λb q=>?_,hd⟩
  cases q
  obtain⟨ob,_,_,h1,h2,_⟩:=dd
  exact⟨ob,h1,h2.2.1⟩
section
variable {X:Cx}{pins:List (Addr × Obj)}{σ:St}{H:Hp}{s:Shared}{a:Addr}{y d:V}{u r:Value}{o:Option V}{A:Around}{E:Value->Shared->Prop}
theorem zpI {Q:Value->Shared->Prop}(hu:A.units+1<cLine)(I:Inv X pins σ H s)(g:DGet H a y o)(ry:RelV y u)(rd:RelV d r)(h:∀ w' s',Inv X pins σ H s'->RelV (o.getD d) w'->Q w' s') :
  wpAny (model X.prog X.w) A (call (.builtin "dict.get") [.ref a,u,r]) Q E s:=by
 rcases g with ⟨kvs,k,e,ey,l⟩ | ⟨kvs,k,b,e,ey,eb,l⟩
 ·subst ey
  obtain⟨z,hd,vs,rel,dd⟩:=zjm I.hok e
  refine call_meetsIn PySem.F.slot_dict_get dd.typeIs PySem.F.entry_dict_get (PySem.F.args_dict_get_3 _ _ _) (meets_dict_get_default (za9 X.prog X.w) a (zgO ry) hd r) ⟨_,dd.mapOf,h _ _ (I.tok _) ?_⟩
  rw[l]
  exact (rel.val k).getD rd
 ·subst ey
  cases (show u=Value.ref b from ry)
  obtain⟨z,hd,xs,rel,dd⟩:=zjo I.hok e
  refine call_meetsIn PySem.F.slot_dict_get dd.typeIs PySem.F.entry_dict_get (PySem.F.args_dict_get_3 _ _ _) (meetsH_dict_get_default (tupleKind (za9 X.prog X.w)) a b hd r) ⟨tupleKind_room_in1 hu,k,xs,zhd I.hok eb,dd,h _ _ (I.tok _) ?_⟩
  rw[l]
  exact (rel.val k).getD rd
end

def znU (td ty tx:TE):TE:=λσ H Q=>td σ H λx H1=>∃ a,x=.ref a/\IsD H1 a/\ty σ H1 λy H2=>tx σ H2 λz H3=>∃ o,DGet H3 a y o/\Q (o.getD z) H3
def znV (td ty:TE):TE:=λσ H Q=>td σ H λx H1=>∃ a,x=.ref a/\IsD H1 a/\ty σ H1 λy H2=>∃ kvs k v,H2 a=some (.dK kvs)/\y=kV k/\valV kvs k=some v/\Q v (upd H2 a (.dK (zbZ kvs k)))
def znW (td ty tx:TE):TE:=λσ H Q=>td σ H λx H1=>∃ a,x=.ref a/\IsD H1 a/\ty σ H1 λy H2=>tx σ H2 λz H3=>∃ kvs k,H3 a=some (.dK kvs)/\y=kV k/\
 (∀ v,valV kvs k=some v->Q v (upd H3 a (.dK (zbZ kvs k))))/\(valV kvs k=none->Q z H3)
section
variable {X:Cx}{o e f:Expr}{apos cpos:Pos}{td ty tx:TE}
theorem zm1 (hu:X.A.units+1<cLine)(ho:PE X o td)(he:PE X e ty)(hf:PE X f tx)(m:M2 X o "get" apos e f cpos):PE X (.Call (.Attribute o "get" apos) [e,f] [] cpos) (znU td ty tx):=by
 intro pins s σ H Q I h
 refine wpAny_Call_method m.base m.few m.line PySem.F.plainAttrs_dict PySem.F.slot_dict_get PySem.F.type_dict_get (thn (ho pins s σ H _ I h) λu s1 ⟨x,H1,I1,rx,a,ex,d,q1⟩=>?_)
 subst ex
 obtain rfl:u=Value.ref a:=rx
 obtain⟨t1,t2,_⟩:=zlE I1 d
 refine⟨t1,t2,?_⟩
 rw[m.trees]
 refine Calls.callWith_builtin rfl (Calls.evalArgs_plain (Calls.spliced_cons (thn (he pins s1 σ H1 _ I1 q1) λiv s2 ⟨y,H2,I2,ry,q2⟩=>
  Calls.spliced_cons (thn (hf pins s2 σ H2 _ I2 q2) λfv s3 ⟨z,H3,I3,rz,ov,g,q3⟩=>Calls.spliced_nil ?_))))
 exact zpI hu I3 g ry rz λw' s4 I4 rw'=>⟨_,H3,I4,rw',q3⟩
theorem zhH (ho:PE X o td)(he:PE X e ty)(m:M1 X o "pop" apos e cpos):PE X (.Call (.Attribute o "pop" apos) [e] [] cpos) (znV td ty):=by
 intro pins s σ H Q I h
 refine wpAny_Call_method m.base m.few m.line PySem.F.plainAttrs_dict PySem.F.slot_dict_pop PySem.F.type_dict_pop (thn (ho pins s σ H _ I h) λu s1 ⟨x,H1,I1,rx,a,ex,d,q1⟩=>?_)
 subst ex
 obtain rfl:u=Value.ref a:=rx
 obtain⟨t1,t2,_⟩:=zlE I1 d
 refine⟨t1,t2,?_⟩
 rw[m.trees]
 refine Calls.callWith_builtin rfl (Calls.evalArgs_plain (Calls.spliced_cons (thn (he pins s1 σ H1 _ I1 q1) λiv s2 ⟨y,H2,I2,ry,kvs,k,v,ea,ey,l,q2⟩=>Calls.spliced_nil ?_)))
 subst ey
 exact zpD I2 ea ry l (.inl rfl) λw' s3 I3 rw'=>⟨v,_,I3,rw',q2⟩
theorem zm2 (ho:PE X o td)(he:PE X e ty)(hf:PE X f tx)(m:M2 X o "pop" apos e f cpos):PE X (.Call (.Attribute o "pop" apos) [e,f] [] cpos) (znW td ty tx):=by
 intro pins s σ H Q I h
 refine wpAny_Call_method m.base m.few m.line PySem.F.plainAttrs_dict PySem.F.slot_dict_pop PySem.F.type_dict_pop (thn (ho pins s σ H _ I h) λu s1 ⟨x,H1,I1,rx,a,ex,d,q1⟩=>?_)
 subst ex
 obtain rfl:u=Value.ref a:=rx
 obtain⟨t1,t2,_⟩:=zlE I1 d
 refine⟨t1,t2,?_⟩
 rw[m.trees]
 refine Calls.callWith_builtin rfl (Calls.evalArgs_plain (Calls.spliced_cons (thn (he pins s1 σ H1 _ I1 q1) λiv s2 ⟨y,H2,I2,ry,q2⟩=>
  Calls.spliced_cons (thn (hf pins s2 σ H2 _ I2 q2) λfv s3 ⟨z,H3,I3,rz,kvs,k,ea,ey,q3,q4⟩=>Calls.spliced_nil ?_))))
 subst ey
 cases l:valV kvs k with
 | some v=>exact zpD I3 ea ry l (.inr ⟨fv,rfl⟩) λw' s4 I4 rw'=>⟨v,_,I4,rw',q3 v l⟩
 | none=>exact zpE I3 ea ry l λs4 I4=>⟨z,H3,I4,rz,q4 l⟩
end

section
variable {X:Cx}{pins:List (Addr × Obj)}{σ:St}{H:Hp}{s:Shared}{a:Addr}{kvs:List (Key × V)}{A:Around}{E:Value->Shared->Prop}
end


section
variable {X:Cx}{pins:List (Addr × Obj)}{σ:St}{H:Hp}{s:Shared}{a:Addr}{y:V}{u:Value}{A:Around}{E:Value->Shared->Prop}
end
end L2

namespace Att
open PySem PySem.W PySem.Calls PyProof.Rows

theorem zf8 {P:Params}{h:Heap} : ∀ (ns:List Int) (vs:List Value),WellAll P h vs (ns.map WData.int)->IntsAre vs ns:=by
 intro ns
 induction ns with
 | nil=>
  intro vs w
  rw[List.map_nil] at w
  cases w
  exact .nil
 | cons n ns ih=>
  intro vs w
  rw[zmc] at w
  cases w with
  | cons a b=>
   cases a
   exact .cons _ _ (ih _ b)
theorem zlF {l:OpenLaw}{n:Nat}(hn:l.most=some n){P:Params}{h:Heap}{args:List WData}{vals:List Value}
  (hpre:l.row.toRowW.claim.pre args=true) (hwl:WellAll P h vals args) :
  ∃ a vs ns,vals=[Value.ref a]/\args=[WData.list (ns.map WData.int)]/\h.get? a=some {cls:=.type "list",data:=.seq vs.toArray}/\IntsAre vs ns/\ns.length<=n:=by
 have hsh:WShape.hasAll [] args [.list .int]=true:=(pre_splitW hpre).1
 have hc:l.pre.holds [] {args:=args}=true:=(pre_splitW hpre).2
 obtain⟨d,r,rfl,h1,h2⟩:=hasAllW_cons hsh
 obtain rfl:=hasAllW_nil h2
 obtain⟨xs,rfl,h3⟩:=hasW_list h1
 obtain⟨ns,rfl⟩:=items_int h3
 have hlen:ns.length<=n:=by
  unfold OpenLaw.pre at hc
  have h4:(WTm.not (.lt (.lit (.int (n:Int))) (.len (.arg 0)))).holds [] {args:=[.list (ns.map .int)]}=true:=by
   have h4:=(holds_andW hc).1
   rw[hn] at h4
   exact h4
  have h5:=condW_of h4 (w_not (w_lt w_lit (w_len_list (w_arg rfl))))
  rw[zlm] at h5
  refine Nat.le_of_not_lt λq=>?_
  have q':(n:Int)<((ns.length:Nat):Int):=by omega
  first
   | (rw[decide_eq_true q'] at h5;exact absurd h5 (by decide))
   | (simp at h5;omega)
 cases hwl with
 | cons w1 w2=>
  cases w2
  cases w1 with
  | list ho hall=>exact⟨_,_,ns,rfl,rfl,ho,zf8 ns _ hall,hlen⟩
theorem zlG (l:OpenLaw)(args:List WData):l.row.toRowW.claim.post args (.bool true) args=true:=
 postW_of (r:=l.row.toRowW) (X:=(true == true))
  (show WShape.has [] (.bool true) .bool=true by first | rfl | decide | simp[WShape.has,WShape.arms,WShape.armsAll])
  (show (WTm.eq .res (.lit (.bool true))).value [] {args:=args,res:=some (.bool true),after:=args}=some (.bool (true == true)) from w_eq_bool (w_res rfl) w_lit) rfl
theorem attach_call {l:OpenLaw}{n:Nat}{q:Program}{loose:List Str}{XP:(Str->Option Value)->Heap->Prop}{YP:World->Heap->Prop}{d:DefRec}
  (hn:l.most=some n) (hdf:d.params.defaults=[])
  (call:∀ (w:World) (s₀ s₁:Shared) (mg mb:Str->Option Value) (fa:Addr) (o:Obj) (pm cd doc:Value) (a:Addr) (vs:List Value) (ns:List Int),
   Ground q loose [] XP w s₀ mg mb s₁.heap->YP w s₁.heap->
   s₁.heap.get? fa=some o->o.data=.func (docDef d.name d.params d.body d.scope pm cd doc)->s₁.heap.CodeRec cd d.name->mg d.name=some (.ref fa)->
   s₁.heap.get? a=some {cls:=.type "list",data:=.seq vs.toArray}->IntsAre vs ns->ns.length<=n->s₁.gens=#[]->
   codeAny (model l.prog w) callerA (.call (.ref fa) ⟨[.ref a],[]⟩) (λr s'=>r=.ok (.ret (.bool true))/\OldK s₁.heap s'.heap/\s'.os=s₁.os/\AllBare s'.gens) s₁) :
  WalkO q loose XP YP l.row.toRowW d [] (λf vs=>PySem.call f vs):=by
 intro w s₀ s₁ mg mb G Y fa o pm cd doc dV kV ho hd hcd hD hmg hg args vals as hpre hlay hrd hwl hlo
 obtain rfl:dV=.none:=Dflts.none hD hdf
 obtain rfl:kV=.none:=Dflts.noKw hD
 obtain⟨a,vs,ns,rfl,rfl,hobj,hints,hlen⟩:=zlF hn hpre hwl
 refine enter_call (codeAny_mono (call w s₀ s₁ mg mb fa o pm cd doc a vs ns G Y ho (fd_plain hd) hcd hmg hobj hints hlen hg) λr s' hq=>?_)
 obtain⟨rfl,h2,h3,h4⟩:=hq
 exact⟨.inl ⟨.bool true,.bool true,[],rfl,λ_=>rfl,.bool true,zlG l _,λ_=>⟨List.Pairwise.nil,λ_ hm=>(nomatch hm)⟩⟩,h2,h3,h4⟩
section
variable {prog:Program}{w:World}{A:Around}{E:Value->Shared->Prop}{s:Shared}{K:Frag}

end
end Att

namespace L2
open PySem PySem.Spec PyProof.Rows

theorem zf9:∀ {vs:List Value}{ns:List Int},IntsAre vs ns->Vals (ns.map V.int) vs
 | _,_,.nil=>.nil
 | _,_,.cons n t h=>.cons ⟨t,rfl⟩ (zf9 h)
def Only (H:Hp):Prop:=∀ b,H b=none\/∃ o xs,H b=some (.frz o (.lst xs))
theorem zm3 {P:Program}{w:World}{K:Fg}{mg mb:Str->Option Value}{CX:CXT}{k:Nat}{fa a:Addr}{fd:FuncData}{x:Str}{sp:Sp}{s₁:Shared}{vs:List Value}{ns:List Int}
  (KX:K.In s₁.heap) (hns:s₁.heap.Ns mainGlobals mg) (hb:s₁.heap.Ns builtinsNs mb) (hbb:∀ x:Str,x≠ "__name__" ->mb x=bootBuiltins x) (hlim:s₁.heap.NoLimit) (hg:s₁.gens=#[])
  (ha:s₁.heap.get? a=some {cls:=.type "list",data:=.seq vs.toArray}) (hi:IntsAre vs ns) (hl:ns.length<=sizeLine) (hr:Room k callerA)
  (F:∀ base:Heap,K.In base->base.Ns mainGlobals mg->FnOk P w K mg base CX k fa fd [x] sp) (hbind:∀ (s:Shared) (u:Value),BindsTo s fd ⟨[u],[]⟩ [(x,u)])
  (hsp:∀ H:Hp,Only H->SqL K H a (ns.map V.int)->sp [.ref a] H (λv _=>v=.bl true) λ_ _ _=>False)
  (hCX:∀ H e s',CX [] H s₁ (λ_ _ _=>False) e s'->False) :
  codeAny (model P w) callerA (.call (.ref fa) ⟨[.ref a],[]⟩) (λr s'=>r=.ok (.ret (.bool true))/\OldK s₁.heap s'.heap/\s'.os=s₁.os/\AllBare s'.gens) s₁:=by
 have rv:=zf9 hi
 have lenV:=hi.length
 -- from an abstract heap in which nothing but the script may be tracked
 have core:∀ H:Hp,Only H->SqL K H a (ns.map V.int)->HOk P w H s₁.heap->(∀ b,H b≠none->b=a)->(H a≠none->K.lookup a=none)->
   codeAny (model P w) callerA (.call (.ref fa) ⟨[.ref a],[]⟩) (λr s'=>r=.ok (.ret (.bool true))/\OldK s₁.heap s'.heap/\s'.os=s₁.os/\AllBare s'.gens) s₁:=by
  intro H hO hS hok hA hK
  have base_of:∀ {b:Addr}{o:Obj},s₁.heap.get? b=some o->H b=none->(hidT s₁.heap H).get? b=some o:=λe n=>zmN e n
  have noA:∀ {b:Addr}{o:Obj}{es:Array DictEntry}{ep:Nat},s₁.heap.get? b=some o->o.data=.dict es ep->H b=none:=λ{b o es ep} e d=>by
   cases q:H b with
   | none=>rfl
   | some u=>
    have e':b=a:=hA b (by rw[q];simp)
    subst e'
    rw[ha] at e;cases e
    have d':Data.seq vs.toArray _=Data.dict es ep:=d
    cases d'
  have nsK:∀ {b:Addr}{m:Str->Option Value},s₁.heap.Ns b m->(hidT s₁.heap H).Ns b m:=λ{b m} ⟨o,es,ep,e,d,r⟩=>⟨o,es,ep,base_of e (noA e d),d,r⟩
  have hKb:K.In (hidT s₁.heap H):=λb o e=>base_of (KX b o e) (by
   cases q:H b with
   | none=>rfl
   | some u=>
    have e':b=a:=hA b (by rw[q];simp)
    subst e'
    rw[hK (by rw[q];simp)] at e;cases e)
  have hM:Mod K mg (hidT s₁.heap H):=⟨hKb,nsK hns,⟨mb,nsK hb,hbb⟩,let ⟨mc,h1,h2⟩:=hlim;⟨mc,nsK h1,h2⟩⟩
  have e0:Env0 P w K mg (hidT s₁.heap H) callerA [] s₁ H:=⟨rfl,hM,λb o e=>zoe e,Nat.le_of_eq (zk6 _ _),trivial,λb hb=>absurd (show b∈([]:List Addr) from hb) (by simp),hok,.of_eq hg⟩
  refine codeAny_mono ((F _ hKb (nsK hns)).run callerA [] s₁ H ⟨[.ref a],[]⟩ [.ref a] [.ref a] _ _ hr e0 (hbind s₁ (.ref a)) (.cons rfl .nil) (hsp H hO hS)) λr s' h=>?_
  cases r with
  | error e=>exact (hCX H e s' h).elim
  | ok fl=>
   cases fl with
   | next=>exact False.elim h
   | brk=>exact False.elim h
   | cont=>exact False.elim h
   | ret u=>
    obtain⟨v,H',os,bare,un,hok',r',q⟩:=h
    have q':v=.bl true:=q
    subst q'
    obtain rfl:u=Value.bool true:=r'
    refine⟨rfl,OldK.of_keep λb o e=>?_,os,bare⟩
    cases q:H b with
    | none=>exact un.keep b o e q (by intro z;exact absurd (show b∈([]:List Addr) from z) (by simp)) (by simp)
    | some u=>
     rcases hO b with z | ⟨ob,xs,z⟩
     ·rw[q] at z;cases z
     ·have z2:=un.frzs b ob _ z
      obtain⟨e1,_⟩:=hok b _ z
      obtain⟨e2,_⟩:=hok' b _ z2
      rw[e] at e1;cases e1
      exact e2
 cases hk:K.lookup a with
 | some o=>
  -- the script is one of the module's own objects
  have e:=KX a o hk
  rw[ha] at e
  cases e
  refine core (λ_=>none) (λ_=>.inl rfl) (.inr ⟨_,vs.toArray,_,hk,rfl,rfl,rfl,by rw[zst,lenV];exact hl,by simpa using rv⟩) (λb u z=>by have z':(none:Option HO)=some u:=z;cases z') (λb z=>absurd rfl z) λz=>absurd rfl z
 | none=>
  refine core (λb=>if b=a then some (.frz {cls:=.type "list",data:=.seq vs.toArray} (.lst (ns.map V.int))) else none) (λb=>?_) (.inl (.inr ⟨{cls:=.type "list",data:=.seq vs.toArray},if_pos rfl⟩)) (λb u z=>?_) (λb z=>?_) λ_=>hk
  ·by_cases hb:b=a
   ·exact .inr ⟨_,_,if_pos hb⟩
   ·exact .inl (if_neg hb)
  ·by_cases hb:b=a
   ·have z':=(if_pos hb).symm.trans z
    cases z'
    subst hb
    exact⟨ha,by rw[zlm];exact hl,vs,_,rv,ha⟩
   ·have z':=(if_neg hb).symm.trans z
    cases z'
  ·by_cases hb:b=a
   ·exact hb
   ·exact absurd (if_neg hb) z
end L2

namespace L2
open PySem PySem.Spec PyProof.Rows

end L2



namespace L2
open PySem PySem.Spec PyProof.Rows


abbrev CX0:CXT:=λ_ _ _ _ _ _=>False
abbrev E0:XK:=λ_ _ _=>False
theorem zff {X:Cx} : zcM CX0 X E0:=λ_ _ _ _ _ _ _ h=>h.elim
structure Fun (K:Fg)(x qual:Str)(st:Stmt)(f:Addr)(fd:FuncData):Prop where
 ex:∃ (oc:Value) (od:Option Addr) (kV doc pm:Value) (an:Option Addr) (cdv ct:Value) (osl:Array (Option Value)),
  fd=PySem.W.fnOf x qual (zcU st) (zbO st) (zaf st) .none kV doc pm an cdv ct/\K.lookup f=some ⟨oc,od,.func fd,osl⟩/\PySem.W.codeIn K cdv qual=true
 kp:PySem.W.keepIn K (.ref f)=true
section
variable {P:Program}{w:World}{K:Fg}{mg:Str->Option Value}{base:Heap}
theorem Fun.ok {x qual:Str}{st:Stmt}{f:Addr}{fd:FuncData}{N ps:List Str}{k:Nat}{sp:Sp}(F:Fun K x qual st f fd)(S:FSc N ps (zaf st))(len:∀ vs H Q E,sp vs H Q E->vs.length=ps.length)
  (hbody:∀ (cdv:Value) (A:Around) (outer:List Env) (s:Shared) (H:Hp) (vs:List V) (Q:VK) (E:XK),Room k (A.deeper (envOfC qual (zaf st) s.heap.objs.size f cdv))->sp vs H Q E->
   ∃ t,PSs (cxOf CX0 P w K mg base N qual (zaf st) f cdv A outer s H E).nox (zbO st) t/\t {nx:=λ_ H'=>Q .non H',rt:=Q} (start N vs) H):FnOk P w K mg base CX0 (k+1) f fd ps sp:=by
 obtain⟨oc,od,kV,doc,pm,an,cdv,ct,osl,rfl,lk,hcd⟩:=F.ex
 refine zpo lk hcd S len λA outer s H vs Q E hr hsp=>?_
 obtain⟨t,h,q⟩:=hbody cdv A outer s H vs Q E hr hsp
 exact⟨t,h.nox,q⟩
theorem Fun.binds {x qual:Str}{st:Stmt}{f:Addr}{fd:FuncData}{ps:List Str}(F:Fun K x qual st f fd)
  (h:∀ (kV doc pm:Value) (an:Option Addr) (cdv ct:Value) (us:List Value),us.length=ps.length->bindArgs (PySem.W.fnOf x qual (zcU st) (zbO st) (zaf st) .none kV doc pm an cdv ct) ⟨us,[]⟩=pure (ps.zip us)):zdQ K fd ps []:=by
 obtain⟨oc,od,kV,doc,pm,an,cdv,ct,osl,rfl,lk,hcd⟩:=F.ex
 exact .all (h kV doc pm an cdv ct)
theorem znX {x qual:Str}{st:Stmt}{f:Addr}{oc:Value}{od an:Option Addr}{osl:Array (Option Value)}{kV doc pm cdv ct:Value}(l:K.lookup f=some ⟨oc,od,.func (PySem.W.fnOf x qual (zcU st) (zbO st) (zaf st) .none kV doc pm an cdv ct),osl⟩)
  (c:PySem.W.codeIn K cdv qual=true) (k:PySem.W.keepIn K (.ref f)=true):Fun K x qual st f (PySem.W.fnOf x qual (zcU st) (zbO st) (zaf st) .none kV doc pm an cdv ct):=⟨⟨oc,od,kV,doc,pm,an,cdv,ct,osl,rfl,l,c⟩,k⟩
end
theorem zbl {n:Nat}(h:n<=1000):n<sizeLine:=Nat.lt_of_le_of_lt h (by decide)
section
variable {X:Cx}
theorem pv (i:Nat){x:Str}{pos:Pos}(hN:X.N[i]?=some x:=by rfl)(hv:Vis X.env.scope x:=by first | exact Or.inl rfl | exact Or.inr (Or.inl rfl) | exact Or.inr (Or.inr rfl))(hd:(x == ("__debug__" : Str))=false:=by decide)
  (hcd:(x == ("__classdict__" : Str))=false:=by decide):PE X (.Name x pos) (tVar i):=zpe hN hv hd hcd
end

theorem iteF {A B:Prop}(h:B):if false=true then A else B:=by
 rw[if_neg Bool.false_ne_true]
 exact h
theorem iteT {A B:Prop}(h:A):if true=true then A else B:=by
 rw[if_pos rfl]
 exact h
theorem ite2 {c A B:Prop}[Decidable c](h1:c->A)(h2:¬ c->B):if c then A else B:=by
 by_cases h:c
 ·rw[if_pos h]
  exact h1 h
 ·rw[if_neg h]
  exact h2 h
def Same (H H':Hp):Prop:=∀ b o,H b=some o->H' b=some o
theorem Same.refl (H:Hp):Same H H:=λ_ _ h=>h
theorem Same.trans {H H1 H2:Hp}(a:Same H H1)(b:Same H1 H2):Same H H2:=λc o h=>b c o (a c o h)
theorem Same.free {H H':Hp}(e:Same H H'){l:Addr}(h:H' l=Option.none):H l=Option.none:=by
 cases q:H l with
 | none=>rfl
 | some o=>
  rw[e l o q] at h
  cases h
theorem Same.seq {K:Fg}{H H':Hp}{a:Addr}{xs:List V}(e:Same H H')(h:SqL K H a xs):SqL K H' a xs:=by
 rcases h with (h | ⟨o,h⟩) | h
 ·exact .inl (.inl (e _ _ h))
 ·exact .inl (.inr ⟨o,e _ _ h⟩)
 ·exact .inr h
section
variable {κ:Type} [DecidableEq κ]
theorem zm4 {kvs:List (κ × V)}{k:κ}(h:valV kvs k=none):¬ k∈kvs.map (·.1):=by
 intro m
 obtain⟨p,hp,e⟩:=zmm.mp m
 have q:(kvs.any λkv=>decide (kv.1=k))=true:=List.any_eq_true.mpr ⟨p,hp,decide_eq_true e⟩
 rw[zcN,h] at q
 exact absurd q (by simp)
theorem zlH {kvs:List (κ × V)}{k:κ}{v:V}(h:valV kvs k=some v):k∈kvs.map (·.1):=by
 have q:(kvs.any λkv=>decide (kv.1=k))=true:=by
  rw[zcN,h]
  all_goals rfl
 obtain⟨p,hp,e⟩:=List.any_eq_true.mp q
 exact zmm.mpr ⟨p,hp,of_decide_eq_true e⟩
theorem zlI:∀ {l:List κ}{k:κ},l.Nodup->¬ k∈l->(l++[k]).Nodup
 | [],k,_,_=>by simp
 | a::r,k,h,hk=>by
  obtain⟨h1,h2⟩:=List.nodup_cons.mp h
  show (a::(r++[k])).Nodup
  refine List.nodup_cons.mpr ⟨λm=>?_,zlI h2 λm=>hk (List.mem_cons.mpr (Or.inr m))⟩
  rcases zma.mp m with q | q
  ·exact h1 q
  ·exact hk (List.mem_cons.mpr (Or.inl (zms.mp q).symm))
theorem zlJ {p:κ × V}{r:List (κ × V)}{k:κ}(e:p.1=k):zbZ (p::r) k=zbZ r k:=by
 unfold zbZ
 rw[List.filter_cons,if_neg (by simp[e])]
theorem zlK {p:κ × V}{r:List (κ × V)}{k:κ}(e:¬ p.1=k):zbZ (p::r) k=p::zbZ r k:=by
 unfold zbZ
 rw[List.filter_cons,if_pos (by simp[e])]
end
end L2

namespace L2
open PySem PySem.Spec PyProof.Rows

def zcv:List Bool->St->St
 | [],_=>[]
 | _::ms,[]=>none::zcv ms []
 | b::ms,v::σ=>(if b=true then none else v)::zcv ms σ
theorem zcO:∀ (ms:List Bool) (σ:St),(zcv ms σ).length=ms.length
 | [],_=>rfl
 | _::ms,[]=>by simp[zcv,zcO ms []]
 | _::ms,_::σ=>by simp[zcv,zcO ms σ]
theorem zga:∀ {ms:List Bool}{σ:St}{i:Nat}{v:V},(zcv ms σ)[i]?=some (some v)->ms[i]?=some false/\σ[i]?=some (some v)
 | [],_,_,_,h=>by simp[zcv] at h
 | b::ms,[],0,v,h=>by simp[zcv] at h
 | b::ms,[],i+1,v,h=>by
  have q:=zga (ms:=ms) (σ:=[]) (i:=i) (v:=v) (by simpa [zcv] using h)
  simp at q
 | b::ms,u::σ,0,v,h=>by
  cases b with
  | true=>simp[zcv] at h
  | false=>simp[zcv] at h;simp[h]
 | b::ms,u::σ,i+1,v,h=>by
  have q:=zga (ms:=ms) (σ:=σ) (i:=i) (v:=v) (by simpa [zcv] using h)
  simpa using q
def zby (env:Env):List (Str × NameKind)->List (Str × Addr)->List (Str × Addr)
 | [],cs=>cs
 | (n,k)::r,cs=>zby env r (if k=.free then (match env.cells.lookup n with | some c=>(n,c)::cs | none=>cs) else cs)
theorem ziu {env:Env} : ∀ (names:List (Str × NameKind)) (cs:List (Str × Addr)),(∀ x c,cs.lookup x=some c->env.cells.lookup x=some c)->
  ∀ x c,(zby env names cs).lookup x=some c->env.cells.lookup x=some c
 | [],cs,h,x,c,e=>h x c e
 | (n,k)::r,cs,h,x,c,e=>by
  refine ziu r _ (λy d q=>?_) x c e
  by_cases hk:k=.free
  ·rw[if_pos hk] at q
   cases hn:env.cells.lookup n with
   | none=>rw[hn] at q;exact h y d q
   | some a=>
    rw[hn] at q
    simp only[List.lookup_cons] at q
    cases hy:y == n with
    | true=>
     rw[hy] at q
     have:y=n:=by simpa using hy
     subst this
     rw[hn];exact q
    | false=>rw[hy] at q;exact h y d q
  ·rw[if_neg hk] at q;exact h y d q
theorem zgb {env:Env} : ∀ (names:List (Str × NameKind)) (cs:List (Str × Addr)) (x:Str),(∀ p∈names,p.2=.free->∃ c,env.cells.lookup p.1=some c)->
  ((x,NameKind.free)∈names\/∃ c,cs.lookup x=some c)->∃ c,(zby env names cs).lookup x=some c
 | [],cs,x,_,h=>by
  rcases h with h | h
  ·cases h
  ·exact h
 | (n,k)::r,cs,x,hf,h=>by
  refine zgb r _ x (λp hp=>hf p (List.mem_cons_of_mem _ hp)) ?_
  by_cases hk:k=.free
  ·obtain⟨c,hc⟩:=hf (n,k) List.mem_cons_self hk
   simp only at hc
   rw[if_pos hk,hc]
   rcases h with h | ⟨d,hd⟩
   ·rcases List.mem_cons.mp h with e | e
    ·cases e
     exact .inr ⟨c,by simp⟩
    ·exact .inl e
   ·refine .inr ?_
    simp only[List.lookup_cons]
    cases hy:x == n with
    | true=>exact⟨c,rfl⟩
    | false=>exact⟨d,hd⟩
  ·rw[if_neg hk]
   rcases h with h | h
   ·rcases List.mem_cons.mp h with e | e
    ·cases e;exact absurd rfl hk
    ·exact .inl e
   ·exact .inr h
theorem zgc {env:Env}{f:Str × NameKind->List (Str × Addr)->Sem (ForInStep (List (Str × Addr)))}(h1:∀ n c cs,env.cells.lookup n=some c->f (n,.free) cs=pure (.yield ((n,c)::cs)))
  (h2:∀ n k cs,k≠NameKind.free->f (n,k) cs=pure (.yield cs)) :
  ∀ (names:List (Str × NameKind)) (cs:List (Str × Addr)),(∀ p∈names,p.2=.free->∃ c,env.cells.lookup p.1=some c)->forIn names cs f=pure (zby env names cs)
 | [],cs,_=>rfl
 | (n,k)::r,cs,hf=>by
  rw[List.forIn_cons]
  by_cases hk:k=.free
  ·subst hk
   obtain⟨c,hc⟩:=hf (n,.free) List.mem_cons_self rfl
   simp only at hc
   rw[h1 n c cs hc]
   show forIn r ((n,c)::cs) f=_
   rw[zgc h1 h2 r _ λp hp=>hf p (List.mem_cons_of_mem _ hp)]
   simp[zby,hc]
  ·rw[h2 n k cs hk]
   show forIn r cs f=_
   rw[zgc h1 h2 r _ λp hp=>hf p (List.mem_cons_of_mem _ hp)]
   simp[zby,hk]
theorem zjq {scope:Scope}{env:Env}(hf:∀ p∈scope.names,p.2=.free->∃ c,env.cells.lookup p.1=some c):closureFor scope env=pure (zby env scope.names []):=by
 simp only[closureFor]
 rw[zgc (env:=env) (λn c cs hc=>?_) (λn k cs hk=>?_) scope.names [] hf]
 ·rfl
 ·simp[cellOf,hc]
 ·have:(k == NameKind.free)=false:=by simpa using hk
  simp[this]
theorem zfy (env:Env)(x:Str):∀ (names:List (Str × NameKind)),(names.map λ(p:Str × NameKind)=>match p with
   | (n,k)=>if (k == NameKind.free && env.scope.kind == .function && env.kindOf n == some .cell)=true then (n,NameKind.cell) else (n,k)).lookup x =
  (names.lookup x).map λk=>if (k == NameKind.free && env.scope.kind == .function && env.kindOf x == some .cell)=true then NameKind.cell else k
 | []=>rfl
 | (n,k)::r=>by
  have ih:=zfy env x r
  rw[zmc]
  by_cases hc:(k == NameKind.free && env.scope.kind == .function && env.kindOf n == some .cell)=true
  ·simp only[if_pos hc,List.lookup_cons]
   cases hx:x == n with
   | true=>
    have:x=n:=by simpa using hx
    subst this
    exact (congrArg some (if_pos hc)).symm
   | false=>exact ih
  ·simp only[if_neg hc,List.lookup_cons]
   cases hx:x == n with
   | true=>
    have:x=n:=by simpa using hx
    subst this
    exact (congrArg some (if_neg hc)).symm
   | false=>exact ih
theorem zek (scope:Scope)(env:Env)(x:Str):(relabel scope env).names.lookup x =
  (scope.names.lookup x).map λk=>if (k == NameKind.free && env.scope.kind == .function && env.kindOf x == some .cell)=true then NameKind.cell else k:=zfy env x scope.names
structure COk (sc0:Scope)(N:List Str)(scope:Scope)(N':List Str)(ms:List Bool):Prop where
 kind:scope.kind=.function
 nocell:∀ y∈scope.names,y.2≠.cell
 nm:∀ y∈scope.names,y.2=.local->scope.names.lookup y.1=some .local
 fr:∀ y∈scope.names,y.2=.free->sc0.names.lookup y.1=some .cell\/sc0.names.lookup y.1=some .free
 len:ms.length=N'.length
 own:∀ (i:Nat) (x:Str),N'[i]?=some x->ms[i]?=some false->scope.names.lookup x≠some .local
 out:∀ (i:Nat) (x:Str),N'[i]?=some x->ms[i]?=some false->scope.names.lookup x=some .free->N[i]?=some x
def zgd (N:List Str)(scope:Scope):List Str->List Bool->List (Option Str)->Bool
 | x::N',false::ms,o=>(scope.names.lookup x != some .local) && (scope.names.lookup x != some .free || o.head? == some (some x)) && zgd N scope N' ms o.tail
 | _::N',true::ms,o=>zgd N scope N' ms o.tail
 | _,_,_=>true
theorem zef {N:List Str}{scope:Scope} : ∀ (N':List Str) (ms:List Bool) (o:List (Option Str)),zgd N scope N' ms o=true->∀ (i:Nat) (x:Str),N'[i]?=some x->ms[i]?=some false->
  scope.names.lookup x≠some .local/\(scope.names.lookup x=some .free->o[i]?=some (some x))
 | [],_,_,_,i,x,e,_=>by simp at e
 | _::_,[],_,_,i,x,_,e=>by simp at e
 | y::N',false::ms,o,h,i,x,e1,e2=>by
  simp only[zgd,Bool.and_eq_true,bne_iff_ne,ne_eq,Bool.or_eq_true,beq_iff_eq] at h
  cases i with
  | zero=>
   simp at e1;subst e1
   refine⟨h.1.1,λq=>?_⟩
   rcases h.1.2 with z | z
   ·exact absurd q z
   ·cases o with
    | nil=>simp at z
    | cons a r=>simpa using z
  | succ i=>
   have q:=zef N' ms o.tail h.2 i x (by simpa using e1) (by simpa using e2)
   refine⟨q.1,λz=>?_⟩
   have:=q.2 z
   cases o with
   | nil=>simp at this
   | cons a r=>simpa using this
 | y::N',true::ms,o,h,i,x,e1,e2=>by
  simp only[zgd] at h
  cases i with
  | zero=>simp at e2
  | succ i=>
   have q:=zef N' ms o.tail h i x (by simpa using e1) (by simpa using e2)
   refine⟨q.1,λz=>?_⟩
   have:=q.2 z
   cases o with
   | nil=>simp at this
   | cons a r=>simpa using this
theorem COk.mk' {sc0:Scope}{N:List Str}{scope:Scope}{N':List Str}{ms:List Bool}(kind:scope.kind=.function)(nocell:∀ y∈scope.names,y.2≠.cell)
  (nm:∀ y∈scope.names,y.2=.local->scope.names.lookup y.1=some .local) (fr:∀ y∈scope.names,y.2=.free->sc0.names.lookup y.1=some .cell\/sc0.names.lookup y.1=some .free)
  (len:ms.length=N'.length) (sl:zgd N scope N' ms (N.map some)=true):COk sc0 N scope N' ms:=
 ⟨kind,nocell,nm,fr,len,λi x e1 e2=>(zef N' ms _ sl i x e1 e2).1,λi x e1 e2 e3=>by
  have q:=(zef N' ms _ sl i x e1 e2).2 e3
  rw[zgm] at q
  cases h:N[i]? with
  | none=>rw[h] at q;cases q
  | some a=>rw[h] at q;simpa using q⟩
def zaW (X:Cx)(N':List Str)(scope:Scope)(cl:List (Str × Addr))(C:Addr)(fp:List Addr)(s3:Shared)(H3:Hp):Cx where
 prog:=X.prog
 w:=X.w
 K:=X.K
 mg:=X.mg
 base:=X.base
 A:=X.A
 N:=N'
 s₀:=s3
 H₀:=H3
 env:=compEnvC scope cl C X.env
 outer:=X.stack
 stack:=X.stack
 ex:=fp
 fn:=λ_=>false
 calm:=X.calm
 pn:=[]
 xe:=λ_ _=>False
section
variable {X:Cx}{pins:List (Addr × Obj)}{σ:St}{H:Hp}{N':List Str}{scope:Scope}{ms:List Bool}{fp:List Addr}

theorem COk.cells (ok:COk X.env.scope X.N scope N' ms)(k:X.Ok):∀ p∈scope.names,p.2=.free->∃ c,X.env.cells.lookup p.1=some c:=λp hp e=>k.has p.1 (ok.fr p hp e)
theorem zhf {x:Str}{c:Addr}(e:(zby X.env scope.names []).lookup x=some c):X.env.cells.lookup x=some c:=ziu _ [] (λ_ _ q=>by cases q) x c e
theorem COk.kinds (ok:COk X.env.scope X.N scope N' ms){x:Str}(h:(relabel scope X.env).names.lookup x=some .cell\/(relabel scope X.env).names.lookup x=some .free):scope.names.lookup x=some .free:=by
 rw[zek] at h
 cases e:scope.names.lookup x with
 | none=>rw[e] at h;rcases h with h | h <;> cases h
 | some k=>
  rw[e] at h
  simp only[Option.map_some,Option.some.injEq] at h
  by_cases hk:k=.free
  ·rw[hk]
  ·have hb:(k == NameKind.free)=false:=by simpa using hk
   simp only[hb,Bool.false_and,Bool.false_eq_true,if_false] at h
   rcases h with h | h
   ·exact absurd h (ok.nocell _ (PySem.mem_of_lookup e))
   ·exact absurd h hk
theorem COk.locals (ok:COk X.env.scope X.N scope N' ms){x:Str}(h:(relabel scope X.env).names.lookup x=some .local):scope.names.lookup x=some .local:=by
 rw[zek] at h
 cases e:scope.names.lookup x with
 | none=>rw[e] at h;cases h
 | some k=>
  rw[e] at h
  simp only[Option.map_some,Option.some.injEq] at h
  split at h
  ·cases h
  ·rw[h]
theorem zoy {s3:Shared}(ok:COk X.env.scope X.N scope N' ms)(I:Inv X pins σ H s3)(hf:∀ b∈fp,FpOk X pins H b/\b<s3.heap.objs.size) :
  (zaW X N' scope (zby X.env scope.names []) s3.heap.objs.size fp s3 H).Ok where
 mod:=I.ok.mod
 kind:=ok.kind
 glob:=I.ok.glob
 blt:=I.ok.blt
 above:=Nat.le_refl _
 inj:=λx y c h1 h2=>I.ok.inj x y c (zhf h1) (zhf h2)
 has:=λx hx=>by
  have q:=ok.kinds hx
  exact zgb _ [] x (ok.cells I.ok) (.inl (PySem.mem_of_lookup q))
 cab:=λx c h=>by cases h
 hd:=I.ok.hd
 frames:=I.ok.frames
 stk:=.inl rfl
 exf:=λb hb=>⟨Nat.ne_of_lt (hf b hb).2,λx c e=>(hf b hb).1.2.2.2.2.1 x c (zhf e)⟩
 bs:=λb o e=>I.bs b o e
 bsz:=Nat.le_trans I.ok.bsz I.sz
 noex:=λb o e hb=>by
  rcases (hf b hb).1.2.2.2.1 with z | z
  ·exact I.ok.noex b o e z
  ·exact absurd (Nat.lt_of_lt_of_le (Nat.lt_of_lt_of_le (Heap.lt_size e) I.ok.bsz) z) (Nat.lt_irrefl _)
 exfs:=λb hb z=>by
  rcases List.mem_cons.mp (I.stkSub b z) with e | e
  ·exact (hf b hb).1.2.1 e
  ·exact (hf b hb).1.2.2.1 e
 funs:=I.stack
 frf:=I.stkFree
theorem zj2 {h':Heap}{s5:Shared}{C:Addr}{m:Str->Option Value}(ok:COk X.env.scope X.N scope N' ms)(I:Inv X pins σ H s5)(hk:∀ b o,s5.heap.get? b=some o->h'.get? b=some o) :
  ∀ (i:Nat) (x:Str) (v:V),N'[i]?=some x->(zcv ms σ)[i]?=some (some v)->Vis (relabel scope X.env) x->∃ u,RelV v u/\Look (compEnvC scope (zby X.env scope.names []) C X.env) h' m x u:=by
 intro i x v e1 e2 e3
 obtain⟨em,ev⟩:=zga e2
 rcases e3 with e3 | e3
 ·exact absurd (ok.locals e3) (ok.own i x e1 em)
 ·have q:=ok.kinds e3
  have en:=ok.out i x e1 em q
  have fr:=ok.fr _ (PySem.mem_of_lookup q) rfl
  obtain⟨m0,_,hl⟩:=I.loc
  obtain⟨u,r,l⟩:=hl i x v en ev (.inr fr)
  refine⟨u,r,?_⟩
  rcases l with ⟨k,_⟩ | ⟨k,c,e,o,ho,hd⟩
  ·have k':X.env.scope.names.lookup x=some .local:=k
   rcases fr with fr | fr
   ·have fr':X.env.scope.names.lookup x=some .cell:=fr
    rw[fr'] at k';cases k'
   ·have fr':X.env.scope.names.lookup x=some .free:=fr
    rw[fr'] at k';cases k'
  ·obtain⟨c',hc'⟩:=zgb _ [] x (ok.cells I.ok) (.inl (PySem.mem_of_lookup q))
   have z:=zhf hc'
   rw[e] at z;cases z
   exact .inr ⟨e3,c,hc',o,hk c o ho,hd⟩
theorem zhg {s3:Shared}{h4:Heap}{tk:Nat}{m:Str->Option Value}(ok:COk X.env.scope X.N scope N' ms)(I:Inv X pins σ H s3)(hf:∀ b∈fp,FpOk X pins H b/\b<s3.heap.objs.size)
  (hn:h4.Ns s3.heap.objs.size m) (hk:∀ b o,s3.heap.get? b=some o->h4.get? b=some o) :
  Inv (zaW X N' scope (zby X.env scope.names []) s3.heap.objs.size fp s3 H) [] (zcv ms σ) H {s3 with heap:=h4,toks:=tk} where
 ok:=zoy ok I hf
 os:=rfl
 bare:=I.bare
 base:=Un.kept hk
 loc:=⟨m,hn,zj2 ok I hk⟩
 cell:=λx c e=>by
  obtain⟨v,o,ho,hd⟩:=I.cell x c (zhf e)
  exact⟨v,o,hk c o ho,hd⟩
 free:=I.hok.fresh (Nat.le_refl _)
 freeC:=λx c e=>I.freeC x c (zhf e)
 pin:=λp hp=>absurd (show p∈([]:List (Addr × Obj)) from hp) (by simp)
 hok:=I.hok.kept hk
 len:=by rw[zcO,ok.len];rfl
theorem zgf {pins':List (Addr × Obj)}{σ':St}{H':Hp}{s3 s':Shared}{cl:List (Str × Addr)}{C:Addr}(I:Inv X pins σ H s3)(hf:∀ b∈fp,FpOk X pins H b/\b<s3.heap.objs.size)
  (J:Inv (zaW X N' scope cl C fp s3 H) pins' σ' H' s'):Inv X pins σ H' s':=
 I.call' J.os J.base J.hok J.bare λb hb=>by
  obtain⟨_,f1,_,f3,f4,f5⟩:=(hf b hb).1
  exact⟨f3,f1,f4,f5⟩
theorem zhh {pins':List (Addr × Obj)}{σ':St}{H':Hp}{s3 s':Shared}(ok:COk X.env.scope X.N scope N' ms)(I:Inv X pins σ H s3)(hf:∀ b∈fp,FpOk X pins H b/\b<s3.heap.objs.size)
  (J:Inv (zaW X N' scope (zby X.env scope.names []) s3.heap.objs.size fp s3 H) pins' σ' H' s'):Inv (zaW X N' scope (zby X.env scope.names []) s3.heap.objs.size fp s3 H) [] (zcv ms σ) H' s' where
 ok:=J.ok
 os:=J.os
 bare:=J.bare
 base:=J.base
 loc:=by
  obtain⟨m,hn,_⟩:=J.loc
  exact⟨m,hn,zj2 ok (zgf I hf J) λ_ _ e=>e⟩
 cell:=J.cell
 free:=J.free
 freeC:=J.freeC
 pin:=λp hp=>absurd (show p∈([]:List (Addr × Obj)) from hp) (by simp)
 hok:=J.hok
 len:=by rw[zcO,ok.len];rfl
end

def PIfs (X:Cx)(ifs:List Expr)(t:TT):Prop:=
 ∀ (pins:List (Addr × Obj)) (s:Shared) (σ:St) (H:Hp) (Q:Bool->Hp->Prop),Inv X pins σ H s->t σ H Q->
  wpAny (model X.prog X.w) X.A (forIn ifs true λc r=>if r=true then do let ok <-isTrue c X.env (eval c X.env);pure (ForInStep.yield ok) else pure (ForInStep.yield r)) (TP X pins σ Q) X.xe s
def zoz:TT:=λ_ H Q=>Q true H
theorem zaD {X:Cx} : PIfs X [] zoz:=λ_ _ _ H _ I h=>wpAny_tests_nil ⟨H,I,h⟩
theorem zj3 {X:Cx}{c:Expr}{t:TT}(h:PT X c t):PIfs X [c] t:=λpins s σ H Q I q=>wpAny_tests_one (h pins s σ H Q I q)
theorem ziv {prog:Program}{w:World}{A:Around}{R:Result->Shared->Prop}{s:Shared}{elt target iter:Expr}{ifs:List Expr}{scope:Scope}{pos:Pos}{it acc:Value}{env:Env}(I:Nat->Shared->Prop)
  (turn:∀ n s (E:Value->Shared->Prop),I n s->wpAny (model prog w) A (pyNext it) (λr s1=>match r with
   | none=>R (.ok .next) s1
   | some v=>wpAny (model prog w) A (letOwnedTupleGo target it v) (λ_ s2=>wpAny (model prog w) A (assign target env v) (λ_ s3=>
     wpAny (model prog w) A (forIn ifs true λc r=>if r=true then do let ok <-isTrue c env (eval c env);pure (ForInStep.yield ok) else pure (ForInStep.yield r)) (λok s4=>
      if ok=true then wpAny (model prog w) A (eval elt env) (λx s5=>wpAny (model prog w) A (call (.builtin "list.append") [acc,x]) (λ_ s6=>∃ m,m<n/\I m s6) E s5) E s4
      else ∃ m,m<n/\I m s4) E s3) E s2) E s1) E s)
  (n:Nat) (h:I n s):codeAny (model prog w) A (.compLoop (.ListComp elt [⟨target,iter,ifs,0⟩] scope pos) 0 it acc env) R s:=by
 refine codeAny_loop rfl I (λn s hI=>?_) n h
 refine wpAny_noted (env:=env) ?_
 rw[compTurn_list]
 refine wpAny_bind (wpAny_standAt (wpAny_bind ?_))
 refine wpAny_mono (turn n s _ hI) (λr s1 h1=>?_) λ_ _ e=>e
 cases r with
 | none=>exact wpAny_pure h1
 | some v=>
  refine wpAny_bind (wpAny_mono h1 (λ_ s2 h2=>?_) λ_ _ e=>e)
  refine wpAny_bind (wpAny_mono h2 (λ_ s3 h3=>?_) λ_ _ e=>e)
  refine wpAny_bind (wpAny_mono h3 (λok s4 h4=>?_) λ_ _ e=>e)
  cases ok with
  | false=>exact wpAny_pure ⟨rfl,h4⟩
  | true=>
   refine wpAny_bind (wpAny_bind (wpAny_mono h4 (λx s5 h5=>?_) λ_ _ e=>e))
   exact wpAny_bind (wpAny_mono h5 (λ_ s6 h6=>wpAny_pure (wpAny_pure ⟨rfl,h6⟩)) λ_ _ e=>e)
def zkB (ms:List Bool)(wi:TI)(g:TG)(tt:TT)(te:TE):TE:=λσ H Q=>wi σ H λJ H1=>∀ D,H1 D=none->
 ∃ W:Nat->Nat->List V->Hp->Prop,(∃ m,W 0 m [] (upd H1 D (.lst [])))/\∀ i m ys H,W i m ys H->H D=some (.lst ys)/\
  ((J.stop i H/\Q (.ref D) H)\/(J.go i H/\ys.length<sizeLine/\∃ N:List V->Hp->Prop,(∀ ys' H',N ys' H'->∃ m',m'<m/\W (i+1) m' ys' H')/\
   ∀ x H',J.yld i H x H'->g x (zcv ms σ) H' λσ2 H2=>tt σ2 H2 λb H3=>if b=true then te σ2 H3 λy H4=>H4 D=some (.lst ys)/\N (ys++[y]) (upd H4 D (.lst (ys++[y]))) else N ys H3))
section
variable {X:Cx}{tg iter elt:Expr}{ifs:List Expr}{scope:Scope}{pos:Pos}{N':List Str}{ms:List Bool}{wi:TI}{g:TG}{tt:TT}{te:TE}

set_option maxHeartbeats 4000000 in
theorem ziw {pins:List (Addr × Obj)}{s:Shared}{σ:St}{H:Hp}{Q:VK}{RR:Value->Addr->Result->Shared->Prop}(hc:X.calm=true)(ok:COk X.env.scope X.N scope N' ms)(hi:PI X tg iter wi)
  (hg:∀ cl C fp s3 H3,PG (zaW X N' scope cl C fp s3 H3) tg g) (ht:∀ cl C fp s3 H3,PIfs (zaW X N' scope cl C fp s3 H3) ifs tt) (he:∀ cl C fp s3 H3,PE (zaW X N' scope cl C fp s3 H3) elt te)
  (I:Inv X pins σ H s) (h:zkB ms wi g tt te σ H Q)
  (hRR:∀ D C H' s' m,s'.heap.Ns C m->Inv X pins σ H' s'->FpOk X pins H' C->Q (.ref D) H'->RR (.ref D) C (.ok .next) s') :
  wpAny (model X.prog X.w) X.A (eval iter X.env) (λx s1=>wpAny (model X.prog X.w) X.A (pyIter x) (λit s2=>wpAny (model X.prog X.w) X.A (newList []) (λacc s3=>
   wpAny (model X.prog X.w) X.A (newFunctionEnv scope X.env.globals (zby X.env scope.names []) [] X.env.qual none .none (some X.env)) (λcenv s4=>
    codeAny (model X.prog X.w) X.A (.compStart (.ListComp elt [⟨tg,iter,ifs,0⟩] scope pos) 0 it acc {cenv with scope:=relabel scope X.env}) (RR acc cenv.locals) s4) X.xe s3) X.xe s2) X.xe s1) X.xe s:=by
 refine thn (hi pins s σ H _ I h) λv s1 h1=>thn h1 λitv s2 h2=>?_
 obtain⟨it,fp,tn,J,H2,e,I2,T,st2,f2,h2⟩:=h2
 subst e
 obtain⟨W,⟨m0,w0⟩,turn⟩:=h2 s2.heap.objs.size I2.fresh
 refine wpAny_newObj_type ?_
 have I3:=I2.lnew (ys:=[]) (its:=[]) (t':=s2.toks) .nil (Nat.zero_le _)
 generalize hs3:({s2 with heap:=s2.heap.push {cls:=.type "list",data:=.seq ([]:List Value).toArray},toks:=s2.toks} : Shared)=s3 at I3
 refine wpAny_newFunctionEnv ok.nocell (by intro y hy;simp at hy) (λh4 hn4 hs4=>?_) ok.kind
 have sz:s3.heap.objs.size=s2.heap.objs.size+1:=by rw[<-hs3];exact Heap.size_push ..
 have old2:∀ b o,s2.heap.get? b=some o->s3.heap.get? b=some o:=λb o e=>by rw[<-hs3];exact Heap.get?_push_of_some _ e
 have old:∀ b o,s3.heap.get? b=some o->h4.get? b=some o:=λb o e=>hs4.extBut b o (Nat.ne_of_lt (Heap.lt_size e)) (Heap.get?_push_of_some _ e)
 have fp2:∀ b∈fp,b<s2.heap.objs.size:=λb hb=>by
  obtain⟨o,ho,_⟩:=T.obj 0 _ st2 b hb
  exact Heap.lt_size ho
 have nD:∀ b∈fp,b≠s2.heap.objs.size:=λb hb=>Nat.ne_of_lt (fp2 b hb)
 have f3:∀ b∈fp,FpOk X pins (upd H2 s2.heap.objs.size (.lst [])) b/\b<s3.heap.objs.size:=λb hb=>by
  refine⟨⟨?_,(f2 b hb).2⟩,by rw[sz];exact Nat.lt_succ_of_lt (fp2 b hb)⟩
  rw[zam (nD b hb)];exact (f2 b hb).1
 have J4:Inv (zaW X N' scope (zby X.env scope.names []) s3.heap.objs.size fp s3 (upd H2 s2.heap.objs.size (.lst []))) [] (zcv ms σ) (upd H2 s2.heap.objs.size (.lst [])) {s3 with heap:=h4,toks:=s3.toks+0}:=
  zhg ok I3 f3 hn4 old
 have stat:∀ {H':Hp},(∀ b∈fp,H' b=none)->∀ b∈fp,FpOk (zaW X N' scope (zby X.env scope.names []) s3.heap.objs.size fp s3 (upd H2 s2.heap.objs.size (.lst []))) [] H' b:=λhn b hb=>
  ⟨hn b hb,(J4.ok.exf b hb).1,J4.ok.exfs b hb,.inl hb,(J4.ok.exf b hb).2,λp hp=>absurd (show p∈([]:List (Addr × Obj)) from hp) (by simp)⟩
 have loop:codeAny (model X.prog X.w) X.A (.compLoop (.ListComp elt [⟨tg,iter,ifs,0⟩] scope pos) 0 (.ref it) (.ref s2.heap.objs.size) (compEnvC scope (zby X.env scope.names []) s3.heap.objs.size X.env))
   (RR (.ref s2.heap.objs.size) s3.heap.objs.size) {s3 with heap:=h4,toks:=s3.toks+0}:=by
  refine ziv (λn s'=>∃ i H' ys,Inv (zaW X N' scope (zby X.env scope.names []) s3.heap.objs.size fp s3 (upd H2 s2.heap.objs.size (.lst []))) [] (zcv ms σ) H' s'/\tn i s'.heap/\(∀ b∈fp,H' b=none)/\W i n ys H') ?_ m0
   ⟨0,_,[],J4,T.keep 0 _ _ st2 λb hb o e=>old b o (old2 b o e),λb hb=>(f3 b hb).1.1,w0⟩
  rintro n s5 E ⟨i,H5,ys,J5,st5,fr5,w5⟩
  obtain⟨hD,alt⟩:=turn i n ys H5 w5
  rcases alt with ⟨stop,q⟩ | ⟨go,hz,N,hN,step⟩
  ·refine thn (T.done (zaW X N' scope (zby X.env scope.names []) s3.heap.objs.size fp s3 (upd H2 s2.heap.objs.size (.lst []))) rfl rfl rfl hc i [] s5 _ H5 E J5 (stat fr5) st5 stop) λr s6 ⟨hr,J6⟩=>?_
   subst hr
   obtain⟨m,hn,_⟩:=id J6.loc
   have I6:=zgf I3 f3 J6
   refine hRR _ _ H5 s6 m hn I6 ?_ q
   have hC:H5 s3.heap.objs.size=none:=J6.free
   obtain⟨g0,g1,g2,g3,g4,g5⟩:=I3.fpOk (b:=s3.heap.objs.size) (H':=H5) (Nat.le_refl _) hC
   exact⟨g0,g1,g2,g3,g4,g5⟩
  ·refine thn (T.item (zaW X N' scope (zby X.env scope.names []) s3.heap.objs.size fp s3 (upd H2 s2.heap.objs.size (.lst []))) rfl rfl rfl hc i [] s5 _ H5 E J5 (stat fr5) st5 go) λr s6 ⟨u,hr,h6⟩=>?_
   subst hr
   refine thn h6 λ_ s7 ⟨x,H7,J7,r7,y7,st7,fr7⟩=>?_
   have J7':=J7.pinned (stat fr7) (T.obj _ _ st7)
   have again:∀ {σ8:St}{H8:Hp}{s8:Shared}{zs:List V},Inv (zaW X N' scope (zby X.env scope.names []) s3.heap.objs.size fp s3 (upd H2 s2.heap.objs.size (.lst []))) ([]++zha fp s7.heap) σ8 H8 s8->N zs H8->
     ∃ m,m<n/\∃ i H' ys,Inv (zaW X N' scope (zby X.env scope.names []) s3.heap.objs.size fp s3 (upd H2 s2.heap.objs.size (.lst []))) [] (zcv ms σ) H' s8/\tn i s8.heap/\(∀ b∈fp,H' b=none)/\W i m ys H':=λ{σ8 H8 s8 zs} J8 n8=>by
    obtain⟨m',hm,w8⟩:=hN zs H8 n8
    refine⟨m',hm,i+1,H8,zs,zhh ok I3 f3 J8,T.keep _ _ _ st7 λb hb o e=>(J8.pin (b,o) (List.mem_append_right _ (List.mem_append_right _ (zcq hb e)))).1,λb hb=>?_,w8⟩
    obtain⟨o,e,d⟩:=T.obj _ _ st7 b hb
    exact (J8.pin (b,o) (List.mem_append_right _ (List.mem_append_right _ (zcq hb e)))).2.1
   refine wpAny_mono (hg _ _ _ _ _ _ s7 _ H7 x u _ J7' r7 (step x H7 y7)) (λ_ s8 ⟨σ8,H8,J8,q8⟩=>?_) λ_ _ z=>False.elim z
   refine wpAny_mono (ht _ _ _ _ _ _ s8 σ8 H8 _ J8 q8) (λb s9 ⟨H9,J9,q9⟩=>?_) λ_ _ z=>False.elim z
   cases b with
   | false=>exact again J9 q9
   | true=>
    refine wpAny_mono (he _ _ _ _ _ _ s9 σ8 H9 _ J9 q9) (λv s10 ⟨y,H10,J10,r10,hD10,q10⟩=>?_) λ_ _ z=>False.elim z
    refine wpAny_mono (zcu (X:=(zaW X N' scope (zby X.env scope.names []) s3.heap.objs.size fp s3 (upd H2 s2.heap.objs.size (.lst [])))) _ s10 σ8 H10 (.ref s2.heap.objs.size) [y] (.ref s2.heap.objs.size) [v] (λ_ H'=>H'=upd H10 s2.heap.objs.size (.lst (ys++[y]))) J10 rfl (.cons r10 .nil) ⟨_,ys,y,rfl,rfl,hD10,hz,rfl⟩)
     (λ_ s11 ⟨_,H11,J11,_,e11⟩=>?_) λ_ _ z=>False.elim z
    subst e11
    exact again J11 q10
 exact codeAny_compStart_list loop (T.self _ 0 _ _ _ (T.keep 0 _ _ st2 λb hb o e=>old b o (old2 b o e)) loop)
theorem zaX (hc:X.calm=true)(ok:COk X.env.scope X.N scope N' ms)(hi:PI X tg iter wi)
  (hg:∀ cl C fp s3 H3,PG (zaW X N' scope cl C fp s3 H3) tg g) (ht:∀ cl C fp s3 H3,PIfs (zaW X N' scope cl C fp s3 H3) ifs tt) (he:∀ cl C fp s3 H3,PE (zaW X N' scope cl C fp s3 H3) elt te)
  (hs:∀ x,foldedSetIterable iter X.env x=pure x:=by intro _;rfl):PE X (.ListComp elt [⟨tg,iter,ifs,0⟩] scope pos) (zkB ms wi g tt te):=by
 intro pins s σ H Q I h
 rw[eval_ListComp]
 refine wpAny_comprehension_free (use:=none) rfl hs (zjq (ok.cells I.ok)) ok.kind ok.nm ?_
 refine ziw (RR:=λacc C=>compPost (model X.prog X.w) X.A X.xe none (EP X pins σ Q) acc C) hc ok hi hg ht he I h λD C H' s' m hn I' ⟨g0,g1,g2,g3,g4,g5⟩ q=>?_
 refine⟨m,hn,λh' sb=>⟨.ref D,H',?_,rfl,q⟩⟩
 exact I'.turned (t':=s'.toks) (λb o hb e=>sb.extBut b o hb e) g0 g1 g3 g4 g5
theorem zc8 {i:Nat}{y:Str}{py spos:Pos}(hN:X.N.Nodup)(hy:X.N[i]?=some y)(hl:X.env.scope.names.lookup y=some .local)(hc:X.calm=true)(ok:COk X.env.scope X.N scope N' ms)(hi:PI X tg iter wi)
  (hg:∀ cl C fp s3 H3,PG (zaW X N' scope cl C fp s3 H3) tg g) (ht:∀ cl C fp s3 H3,PIfs (zaW X N' scope cl C fp s3 H3) ifs tt) (he:∀ cl C fp s3 H3,PE (zaW X N' scope cl C fp s3 H3) elt te)
  (hsw:swapsWith (.ListComp elt [⟨tg,iter,ifs,0⟩] scope pos) (some (.Name y py)) spos.line X.env=pure true:=by rfl)
  (hs:∀ x,foldedSetIterable iter X.env x=pure x:=by intro _;rfl):PS X (.Assign [.Name y py] (.ListComp elt [⟨tg,iter,ifs,0⟩] scope pos) spos) (tAsg (zkB ms wi g tt te) (zmP i)):=by
 intro pins s σ H D I h
 rw[exec_Assign_Name_used _ _ _ _ hsw]
 refine wpAny_bind (wpAny_standAt (wpAny_bind ?_))
 show wpAny _ _ (do let _ <-comprehension (.ListComp elt [⟨tg,iter,ifs,0⟩] scope pos) scope X.env _ (newList []) false (eval iter X.env) (some (assign (.Name y py) X.env))) _ _ s
 refine wpAny_bind (wpAny_mono (wpAny_comprehension_free (use:=some (assign (.Name y py) X.env)) (Q:=λ_ s'=>SP X pins D .next s') rfl hs (zjq (ok.cells I.ok)) ok.kind ok.nm ?_) (λ_ s' q=>wpAny_pure (wpAny_pure q)) λ_ _ e=>e)
 refine ziw (RR:=λacc C=>compPost (model X.prog X.w) X.A X.xe (some (assign (.Name y py) X.env)) (λ_ s'=>SP X pins D .next s') acc C) hc ok hi hg ht he I h λDa C H' s' m hn I' ⟨g0,g1,g2,g3,g4,g5⟩ q=>?_
 show wpAny _ _ (assign (.Name y py) X.env (.ref Da)) _ _ s'
 refine wpAny_assign_Name (zig I' hN hy (.inl hl) (show RelV (.ref Da) (.ref Da) from rfl) (λs'' I'' ⟨a,sa,ha⟩=>?_) (.inr hl))
 have hCa:C≠a:=by
  rcases ha with e | e
  ·rw[e];exact g1
  ·exact λz=>g4 y a e z.symm
 refine⟨m,hn.sameBut sa hCa,λh' sb=>⟨σ.set i (some (.ref Da)),H',?_,q⟩⟩
 exact I''.turned (t':=s''.toks) (λb o hb e=>sb.extBut b o hb e) g0 g1 g3 g4 g5
end
end L2

namespace L2
open PySem PySem.Spec PyProof.Rows

section
variable {X:Cx}{pins:List (Addr × Obj)}{σ:St}{H:Hp}{s:Shared}{h':Heap}{t':Nat}
theorem Inv.turnedN {ch:List Addr}(I:Inv X pins σ H s)(hch:∀ b∈ch,FpOk X pins H b)(k:∀ b o,b∉ch->s.heap.get? b=some o->h'.get? b=some o):Inv X pins σ H {s with heap:=h',toks:=t'}:=by
 have nit:∀ b u,H b=some u->b∉ch:=λb u e z=>by rw[(hch b z).1] at e;cases e
 refine I.step (g':=s.gens) (d':=s.drawn) (ch:=ch) (λb hb=>?_) (λb o _ _ hc e _=>k b o hc e) (λb o _ _ hc e _=>⟨o.slots,k b o hc e⟩) (λ_ _ _ _ n=>n) (λb o hc e=>⟨o,k b o hc e⟩) (λ_ _ e=>e) (λ_ _ _ e=>e)
  (λb ps e=>⟨#[],by rw[e];simp⟩) (λm hm=>?_) (λb u e=>?_) I.bare
 ·obtain⟨_,f1,_,f3,f4,f5⟩:=hch b hb
  exact⟨f3,f1,f4,f5⟩
 ·obtain⟨o,es,ep,ho,r⟩:=hm
  exact⟨o,es,ep,k _ o (λz=>(hch _ z).2.1 rfl) ho,r⟩
 ·refine (I.hok b u e).stay (λc v hc q=>k c v ?_ q) (λ_ q=>q) λ_ _ q=>q
  rcases hc with z | z
  ·rw[z];exact nit b u e
  ·exact nit c _ z
end

theorem zkC {h:Heap}{a b:Addr}{o u:Obj}(e1:h.get? a=some o)(e2:h.get? b=some u)(d:o.cls≠u.cls):a≠b:=λz=>by
 subst z;rw[e1] at e2;cases e2;exact d rfl
theorem zdS {h:Heap}{a b:Addr}{its:Array Value}{u:Obj}{T:String}(e1:h.IsList a its)(e2:h.get? b=some u)(c:u.cls=.type T)(d:T≠ "list"):a≠b:=by
 obtain⟨o,ho,hc,_⟩:=e1
 refine zkC ho e2 ?_
 rw[hc,c]
 intro z
 injection z with z
 exact d z.symm
def Itz (K:Fg)(a b:Addr):It:=
  ⟨λi H=>∃ xs ys x y,SqL K H a xs/\SqL K H b ys/\xs[i]?=some x/\ys[i]?=some y,
   λi H v H'=>∃ T,H T=none/\v=.ref T/\∀ xs ys x y,SqL K H a xs->SqL K H b ys->xs[i]?=some x->ys[i]?=some y->H'=upd H T (.tup [x,y]),
   λi H=>∃ xs ys,SqL K H a xs/\SqL K H b ys/\(xs[i]?=none\/ys[i]?=none)⟩
structure Zap (z TI TO i1 i2:Addr):Prop where
 a1:TI≠z
 a2:TO≠z
 a3:i1≠z
 a4:i2≠z
 a5:TI≠TO
 a6:TI≠i1
 a7:TI≠i2
 a8:TO≠i1
 a9:TO≠i2
 a10:i1≠i2
theorem zoA (n:Nat):Zap (n+4) (n+2) (n+3) n (n+1):=by constructor <;> (show (_:Nat)≠_;omega)
def zpJ (z TI TO i1 i2 a b:Addr)(i:Nat)(h:Heap):Prop:=IsZip h z TI TO .none/\IsPair h TI (.ref i1) (.ref i2)/\(∃ p q,IsPair h TO p q)/\h.IsListIter i1 a i/\h.IsListIter i2 b i
theorem znY {h:Heap}{z TI TO i1 i2 a b:Addr}{i:Nat}{xs ys:Array Value}(D:Zap z TI TO i1 i2)(t:zpJ z TI TO i1 i2 a b i h)(hx:h.IsList a xs)(hy:h.IsList b ys):ZipApart z TI TO i1 i2 a b:=by
 obtain⟨hz,hI,⟨p,q,hO⟩,⟨o1,e1,c1,_⟩,⟨o2,e2,c2,_⟩⟩:=t
 exact⟨D.a1,D.a2,D.a3,D.a4,D.a5,D.a6,D.a7,D.a8,D.a9,D.a10,zdS hx hz rfl (by decide),zdS hx hO rfl (by decide),zdS hx e1 c1 (by decide),zdS hx e2 c2 (by decide),zdS hy hz rfl (by decide),zdS hy hO rfl (by decide),zdS hy e1 c1 (by decide),zdS hy e2 c2 (by decide)⟩
theorem zm5 {P:Program}{w:World}{K:Fg}{elts:List Expr}{kx:Nat}{tpos:Pos}{z TI TO i1 i2:Addr}(a b:Addr)(D:Zap z TI TO i1 i2) :
  Turn P w K (.Tuple elts kx tpos) (Itz K a b) [z,TI,TO,i1,i2] z (zpJ z TI TO i1 i2 a b) where
 mem:=by simp
 obj:=λi h st c hb=>by
  obtain⟨hz,hI,⟨p,q,hO⟩,⟨o1,e1,c1,d1⟩,⟨o2,e2,c2,d2⟩⟩:=st
  simp only[List.mem_cons,List.not_mem_nil,or_false] at hb
  rcases hb with rfl | rfl | rfl | rfl | rfl
  ·exact⟨_,hz,λv x=>by cases x⟩
  ·exact⟨_,hI,λv x=>by cases x⟩
  ·exact⟨_,hO,λv x=>by cases x⟩
  ·exact⟨_,e1,λv x=>by rw[d1] at x;cases x⟩
  ·exact⟨_,e2,λv x=>by rw[d2] at x;cases x⟩
 keep:=λi h h' st k=>by
  obtain⟨hz,hI,⟨p,q,hO⟩,h1,h2⟩:=st
  exact⟨k z (by simp) _ hz,k TI (by simp) _ hI,⟨p,q,k TO (by simp) _ hO⟩,h1.at λo e=>k i1 (by simp) o e,h2.at λo e=>k i2 (by simp) o e⟩
 item:=by
  intro X hP hw hK hc i pins s σ H E I hf st hg
  subst hP hw hK
  obtain⟨xs,ys,x,y,hx,hy,ex,ey⟩:=hg
  obtain⟨its,rx,px,zx⟩:=I.list hx
  obtain⟨jts,ry,py,zy⟩:=I.list hy
  obtain⟨u,eu,ru⟩:=rx.get ex
  obtain⟨v,ev,rv⟩:=ry.get ey
  have Z:=znY D st px.isList py.isList
  obtain⟨hz,hI,⟨p,q,hO⟩,h1,h2⟩:=id st
  refine wpAny_pyNext_zip_item Z hz hI hO h1 h2 px.isList py.isList (x:=u) (y:=v) (by simpa using eu) (by simpa using ev) λh' z1 o1 l1 l2 t1 sz k1=>?_
  refine⟨_,rfl,wpAny_letOwnedTupleGo_zip (s:={s with heap:=h'}) z1 λh'' z2 sb=>?_⟩
  have nT:H s.heap.objs.size=none:=I.hok.fresh (Nat.le_refl _)
  have IT:Inv X pins σ (upd H s.heap.objs.size (.tup [x,y])) {s with heap:=s.heap.push {cls:=.type "tuple",data:=.seq #[u,v]},toks:=s.toks}:=
   I.laid (λb o e=>Heap.get?_push_of_some _ e) (Nat.le_refl _) (show zbD X.prog X.w _ _ _ (.tup [x,y]) from ⟨by show 2<=sizeLine;decide,[u,v],.cons ru (.cons rv .nil),IsTup.new _ _⟩)
  have nz:z≠s.heap.objs.size:=Nat.ne_of_lt (Heap.lt_size hz)
  have fT:∀ c∈[z,TI,TO,i1,i2],FpOk X pins (upd H s.heap.objs.size (.tup [x,y])) c:=λc hcm=>by
   obtain⟨g0,gr⟩:=hf c hcm
   refine⟨?_,gr⟩
   obtain⟨o,ho,_⟩:∃ o,s.heap.get? c=some o/\True:=by
    simp only[List.mem_cons,List.not_mem_nil,or_false] at hcm
    rcases hcm with rfl | rfl | rfl | rfl | rfl
    ·exact⟨_,hz,trivial⟩
    ·exact⟨_,hI,trivial⟩
    ·exact⟨_,hO,trivial⟩
    ·obtain⟨o,e,_⟩:=h1;exact⟨o,e,trivial⟩
    ·obtain⟨o,e,_⟩:=h2;exact⟨o,e,trivial⟩
   rw[zam (Nat.ne_of_lt (Heap.lt_size ho))]
   exact g0
  have up:∀ c o,c∉[z,TI,TO,i1,i2]->(s.heap.push {cls:=.type "tuple",data:=.seq #[u,v]}).get? c=some o->h''.get? c=some o:=λc o hn e=>by
   simp only[List.mem_cons,List.not_mem_nil,or_false,not_or] at hn
   refine sb.extBut c o hn.1 ?_
   by_cases hcs:c=s.heap.objs.size
   ·subst hcs
    rw[Heap.get?_push_size _ rfl] at e
    cases e
    exact t1
   ·refine k1 c o hn.1 hn.2.2.1 hn.2.2.2.1 hn.2.2.2.2 ?_
    rw[Heap.get?_push_ne _ _ _ hcs] at e
    exact e
  refine⟨.ref s.heap.objs.size,_,IT.turnedN (h':=h'') (t':=s.toks) fT up,rfl,⟨_,nT,rfl,λxs' ys' x' y' q1 q2 q3 q4=>?_⟩,?_,λc hcm=>(fT c hcm).1⟩
  ·rw[I.list_inj q1 hx,ex] at q3
   rw[I.list_inj q2 hy,ey] at q4
   cases q3;cases q4;rfl
  ·refine⟨z2,sb.extBut _ _ D.a1 (k1 _ _ D.a1 D.a5 D.a6 D.a7 hI),⟨_,_,sb.extBut _ _ D.a2 o1⟩,l1.extBut sb.extBut D.a3,l2.extBut sb.extBut D.a4⟩
 done:=by
  intro X hP hw hK hc i pins s σ H E I hf st hg
  subst hP hw hK
  obtain⟨xs,ys,hx,hy,en⟩:=hg
  obtain⟨its,rx,px,zx⟩:=I.list hx
  obtain⟨jts,ry,py,zy⟩:=I.list hy
  have Z:=znY D st px.isList py.isList
  obtain⟨hz,hI,⟨p,q,hO⟩,h1,h2⟩:=id st
  have en':its.toArray[i]?=none\/jts.toArray[i]?=none:=by
   rcases en with e | e
   ·exact .inl (by simpa using rx.none_of e)
   ·exact .inr (by simpa using ry.none_of e)
  exact wpAny_pyNext_zip_end (I.ok.hd hc) Z hz hI hO h1 h2 px.isList py.isList en' λh' k1=>⟨rfl,I.turnedN (t':=s.toks) hf λc o hn e=>by
   simp only[List.mem_cons,List.not_mem_nil,or_false,not_or] at hn
   exact k1 c o hn.1 hn.2.2.1 hn.2.2.2.1 hn.2.2.2.2 e⟩
 self:=λ_ _ _ _ _ st h=>wpAny_pyIter_zip st.1 h
def iZip (K:Fg)(ta:TA):TI:=λσ H R=>ta σ H λvs H1=>∃ a b,vs=[.ref a,.ref b]/\(∃ xs,SqL K H1 a xs)/\(∃ ys,SqL K H1 b ys)/\R (Itz K a b) H1
theorem zm6:bootBuiltins "zip"=some (.type "zip"):=by decide +kernel
section
variable {X:Cx}
theorem zpK {elts:List Expr}{kx:Nat}{tpos:Pos}{a b:Expr}{ta:TA}{p pos:Pos}(hg:Gl X "zip")(hm:X.mg "zip"=none)(ha:PA X [a,b] ta)(hs:starEach [a,b] X.env=[(false,eval a X.env),(false,eval b X.env)]:=by rfl)(hs2:starEach [b] X.env=[(false,eval b X.env)]:=by rfl) :
  PI X (.Tuple elts kx tpos) (.Call (.Name "zip" p) [a,b] [] pos) (iZip X.K ta):=by
 intro pins s σ H R I h
 refine Call_ (zg7 I hg hm zm6 (PyProof.Rows.callWith_type1 (thn (ha pos pins s σ H _ I h) λus s1 ⟨vs,H1,I1,r1,q1⟩=>?_) (by rw[hs,hs2]) (by rw[hs2];rfl)))
 obtain⟨l1,l2,e,⟨xs,hx⟩,⟨ys,hy⟩,q⟩:=q1
 subst e
 obtain⟨u,v,e,ru,rv⟩:=r1.two
 subst e
 cases ru;cases rv
 obtain⟨its,rx,px,zx⟩:=I1.list hx
 obtain⟨jts,ry,py,zy⟩:=I1.list hy
 refine call_zip_2 px.isList py.isList λh' z1 p1 p2 i1 i2 sz k=>?_
 refine wpAny_pyIter_zip (s:={s1 with heap:=h'}) z1 ?_
 have I2:Inv X pins σ H1 {s1 with heap:=h',toks:=s1.toks}:=I1.kept k
 have D:=zoA s1.heap.objs.size
 refine⟨_,_,_,_,H1,rfl,I2,zm5 l1 l2 D,⟨z1,p1,⟨_,_,p2⟩,i1,i2⟩,λc hc=>?_,q⟩
 have le:s1.heap.objs.size<=c:=by
  simp only[List.mem_cons,List.not_mem_nil,or_false] at hc
  first
   | (rcases hc with rfl | rfl | rfl | rfl | rfl <;> first | exact Nat.le_refl _ | exact Nat.le_add_right _ _)
   | (rcases hc with rfl | rfl <;> first | exact Nat.le_refl _ | exact Nat.le_add_right _ _)
 exact I1.fpOk le (I1.hok.fresh le)
end

section
variable {X:Cx}
end

section
variable {X:Cx}
theorem zix {bs:List Bool}{its:List Value}(r:Vals (bs.map V.bl) its){i:Nat}{v:Value}(e:its[i]?=some v):∃ b,bs[i]?=some b/\v=.bool b:=by
 have hl:=r.length
 rw[zlm] at hl
 have hi:i<bs.length:=by
  have:=(zge.mp e).1
  omega
 obtain⟨u,hu,ru⟩:=r.get (i:=i) (x:=V.bl bs[i]) (by simp[hi])
 rw[e] at hu;cases hu
 exact⟨bs[i],by simp[hi],ru⟩
theorem zlL {bs:List Bool}{n:Nat}(h:n=bs.length):(List.range n).all (λi=>bs[i]?.getD false)=bs.all id:=by
 subst h
 rw[Bool.eq_iff_iff]
 simp only[List.all_eq_true,List.mem_range,id]
 constructor
 ·intro q x hx
  obtain⟨i,hi,rfl⟩:=List.getElem_of_mem hx
  have:=q i hi
  simpa [hi] using this
 ·intro q i hi
  simpa [hi] using q bs[i] (List.getElem_mem hi)
theorem zlM {bs:List Bool}{n:Nat}(h:n=bs.length):(List.range n).any (λi=>bs[i]?.getD false)=bs.any id:=by
 subst h
 rw[Bool.eq_iff_iff]
 simp only[List.any_eq_true,List.mem_range,id]
 constructor
 ·rintro⟨i,hi,q⟩
  exact⟨bs[i],List.getElem_mem hi,by simpa [hi] using q⟩
 ·rintro⟨x,hx,q⟩
  obtain⟨i,hi,rfl⟩:=List.getElem_of_mem hx
  exact⟨i,hi,by simpa [hi] using q⟩
theorem zm7 (hc:X.calm=true):zbC X (.builtin "all") (λxs H Q=>∃ (p:Addr) (bs:List Bool),xs=[.ref p]/\SqL X.K H p (bs.map V.bl)/\Q (.bl (bs.all id)) H):=by
 intro pins s σ H xs us Q I r h
 obtain⟨p,bs,rfl,hq,q⟩:=h
 obtain⟨u,rfl,rx⟩:=zhB r
 cases rx
 obtain⟨its,rv,pl,hz⟩:=I.list hq
 have hl:=rv.length
 rw[zlm] at hl
 refine call_all_walk (wpAny_pyIter_list pl.isList ?_)
 have hne:p≠s.heap.objs.size:=by
  obtain⟨o,ho,_⟩:=pl.isList
  exact Nat.ne_of_lt (Heap.lt_size ho)
 refine⟨s.heap.objs.size,_,_,_,_,_,λi=>bs[i]?.getD false,rfl,Walks.list (show X.A.in1.handled=none from I.ok.hd hc) s.heap.objs.size p hne its.toArray,⟨⟨_,Heap.get?_push_size _ rfl,rfl,rfl⟩,Heap.IsList.push pl.isList _⟩,λi v s' Q' E' hP hQ=>?_,λh' tk hk=>?_⟩
 ·obtain⟨b,hb,rfl⟩:=zix rv (i:=i) (v:=v) (by simpa using hP)
  refine wpAny_truthy_bool ?_
  simpa [hb] using hQ
 ·rw[zlL (by rw[zst];exact hl.symm)]
  refine⟨.bl _,H,I.kept λb o e=>hk b o ?_ (Heap.get?_push_of_some _ e),rfl,q⟩
  simp only[List.mem_cons,List.not_mem_nil,or_false]
  exact Nat.ne_of_lt (Heap.lt_size e)
theorem zm8 (hc:X.calm=true):zbC X (.builtin "any") (λxs H Q=>∃ (p:Addr) (bs:List Bool),xs=[.ref p]/\SqL X.K H p (bs.map V.bl)/\Q (.bl (bs.any id)) H):=by
 intro pins s σ H xs us Q I r h
 obtain⟨p,bs,rfl,hq,q⟩:=h
 obtain⟨u,rfl,rx⟩:=zhB r
 cases rx
 obtain⟨its,rv,pl,hz⟩:=I.list hq
 have hl:=rv.length
 rw[zlm] at hl
 refine call_any_walk (wpAny_pyIter_list pl.isList ?_)
 have hne:p≠s.heap.objs.size:=by
  obtain⟨o,ho,_⟩:=pl.isList
  exact Nat.ne_of_lt (Heap.lt_size ho)
 refine⟨s.heap.objs.size,_,_,_,_,_,λi=>bs[i]?.getD false,rfl,Walks.list (show X.A.in1.handled=none from I.ok.hd hc) s.heap.objs.size p hne its.toArray,⟨⟨_,Heap.get?_push_size _ rfl,rfl,rfl⟩,Heap.IsList.push pl.isList _⟩,λi v s' Q' E' hP hQ=>?_,λh' tk hk=>?_⟩
 ·obtain⟨b,hb,rfl⟩:=zix rv (i:=i) (v:=v) (by simpa using hP)
  refine wpAny_truthy_bool ?_
  simpa [hb] using hQ
 ·rw[zlM (by rw[zst];exact hl.symm)]
  refine⟨.bl _,H,I.kept λb o e=>hk b o ?_ (Heap.get?_push_of_some _ e),rfl,q⟩
  simp only[List.mem_cons,List.not_mem_nil,or_false]
  exact Nat.ne_of_lt (Heap.lt_size e)
end
end L2

namespace L2
open PySem PySem.Spec PyProof.Rows PySem.SeqAt

inductive D where
 | non | bl (b:Bool) | int (i:Int) | str (x:Str) | lst (xs:List D) | tup (xs:List D)
mutual
def dep:D->Nat
 | .lst xs=>deps xs+1
 | .tup xs=>deps xs+1
 | _=>0
def deps:List D->Nat
 | []=>0
 | d::ds=>max (dep d) (deps ds)
end
mutual
def pyEq:D->D->Bool
 | .non,.non=>true
 | .bl a,.bl b=>a == b
 | .int a,.int b=>a == b
 | .bl a,.int b=>(if a then 1 else 0) == b
 | .int a,.bl b=>a == (if b then 1 else 0)
 | .str a,.str b=>a == b
 | .lst xs,.lst ys=>zbJ xs ys
 | .tup xs,.tup ys=>zbJ xs ys
 | _,_=>false
def zbJ:List D->List D->Bool
 | [],[]=>true
 | x::xs,y::ys=>pyEq x y && zbJ xs ys
 | _,_=>false
end
mutual
def Rep (K:Fg)(H:Hp):D->V->Prop
 | .non,v=>v=.non
 | .bl b,v=>v=.bl b
 | .int i,v=>v=.int i
 | .str x,v=>v=.str x
 | .lst ds,v=>∃ a xs,v=.ref a/\SqL K H a xs/\Reps K H ds xs
 | .tup ds,v=>∃ a xs,v=.ref a/\SqT K H a xs/\Reps K H ds xs
def Reps (K:Fg)(H:Hp):List D->List V->Prop
 | [],vs=>vs=[]
 | d::ds,vs=>∃ v r,vs=v::r/\Rep K H d v/\Reps K H ds r
end
theorem zeN:∀ {ds:List D}{d:D},d∈ds->dep d<=deps ds
 | d::ds,e,h=>by
  rcases List.mem_cons.mp h with h | h
  ·subst h;unfold deps;exact Nat.le_max_left _ _
  ·have:=zeN h
   unfold deps
   exact Nat.le_trans this (Nat.le_max_right _ _)
theorem Reps.length {K:Fg}{H:Hp} : ∀ {ds:List D}{vs:List V},Reps K H ds vs->ds.length=vs.length
 | [],vs,h=>by unfold Reps at h;subst h;rfl
 | d::ds,vs,h=>by
  unfold Reps at h
  obtain⟨v,r,rfl,_,h⟩:=h
  simp[Reps.length h]
theorem Reps.get {K:Fg}{H:Hp} : ∀ {ds:List D}{vs:List V}{i:Nat}{d:D},Reps K H ds vs->ds[i]?=some d->∃ v,vs[i]?=some v/\Rep K H d v
 | [],vs,i,d,h,e=>by simp at e
 | c::ds,vs,i,d,h,e=>by
  unfold Reps at h
  obtain⟨v,r,rfl,h1,h⟩:=h
  cases i with
  | zero=>simp at e;subst e;exact⟨v,rfl,h1⟩
  | succ i=>
   obtain⟨w,e1,e2⟩:=Reps.get h (show ds[i]?=some d by simpa using e)
   exact⟨w,by simpa using e1,e2⟩
theorem Reps.get' {K:Fg}{H:Hp}{ds:List D}{vs:List V}{i:Nat}{v:V}(h:Reps K H ds vs)(e:vs[i]?=some v):∃ d,ds[i]?=some d/\Rep K H d v:=by
 have hl:=h.length
 have hi:=(zge.mp e).1
 obtain⟨w,e1,e2⟩:=h.get (i:=i) (d:=ds[i]) (by simp)
 rw[e] at e1;cases e1
 exact⟨ds[i],by simp,e2⟩
theorem Reps.of {K:Fg}{H:Hp} : ∀ {ds:List D}{vs:List V},ds.length=vs.length->(∀ (i:Nat) d v,ds[i]?=some d->vs[i]?=some v->Rep K H d v)->Reps K H ds vs
 | [],[],_,_=>by unfold Reps;rfl
 | d::ds,v::vs,hl,h=>by
  unfold Reps
  exact⟨v,vs,rfl,h 0 d v rfl rfl,Reps.of (by simpa using hl) λi e w e1 e2=>h (i+1) e w (by simpa using e1) (by simpa using e2)⟩
theorem Reps.ints {K:Fg}{H:Hp} : ∀ {ns:List Int}{vs:List V},Reps K H (ns.map D.int) vs↔vs=ns.map V.int
 | [],vs=>by unfold List.map Reps;rfl
 | n::ns,vs=>by
  rw[zmc]
  unfold Reps
  constructor
  ·rintro⟨v,r,rfl,h1,h⟩
   unfold Rep at h1
   subst h1
   rw[Reps.ints.mp h];rfl
  ·rintro rfl
   exact⟨_,_,rfl,by unfold Rep;rfl,Reps.ints.mpr rfl⟩
theorem Same.tup {K:Fg}{H H':Hp}{a:Addr}{xs:List V}(e:Same H H')(h:SqT K H a xs):SqT K H' a xs:=by
 rcases h with (h | ⟨o,h⟩) | h
 ·exact .inl (.inl (e _ _ h))
 ·exact .inl (.inr ⟨o,e _ _ h⟩)
 ·exact .inr h
mutual
theorem Rep.same {K:Fg}{H H':Hp}(e:Same H H'):∀ (d:D) {v:V},Rep K H d v->Rep K H' d v
 | .non,_,h=>by unfold Rep at *;exact h
 | .bl _,_,h=>by unfold Rep at *;exact h
 | .int _,_,h=>by unfold Rep at *;exact h
 | .str _,_,h=>by unfold Rep at *;exact h
 | .lst ds,_,h=>by
  unfold Rep at *
  obtain⟨a,xs,h1,h2,h3⟩:=h
  exact⟨a,xs,h1,e.seq h2,Reps.same e ds h3⟩
 | .tup ds,_,h=>by
  unfold Rep at *
  obtain⟨a,xs,h1,h2,h3⟩:=h
  exact⟨a,xs,h1,e.tup h2,Reps.same e ds h3⟩
theorem Reps.same {K:Fg}{H H':Hp}(e:Same H H'):∀ (ds:List D) {vs:List V},Reps K H ds vs->Reps K H' ds vs
 | [],_,h=>by unfold Reps at *;exact h
 | d::ds,_,h=>by
  unfold Reps at *
  obtain⟨v,r,h1,h2,h3⟩:=h
  exact⟨v,r,h1,Rep.same e d h2,Reps.same e ds h3⟩
end

mutual
theorem zcw:∀ d:D,pyEq d d=true
 | .non=>by unfold pyEq;rfl
 | .bl _=>by unfold pyEq;simp
 | .int _=>by unfold pyEq;simp
 | .str _=>by unfold pyEq;simp
 | .lst ds=>by unfold pyEq;exact zfg ds
 | .tup ds=>by unfold pyEq;exact zfg ds
theorem zfg:∀ ds:List D,zbJ ds ds=true
 | []=>by unfold zbJ;rfl
 | d::ds=>by unfold zbJ;rw[zcw d,zfg ds];rfl
end
theorem zdT:∀ {xs ys:List D},zbJ xs ys=true->xs.length=ys.length
 | [],[],_=>rfl
 | [],_::_,h=>by unfold zbJ at h;cases h
 | _::_,[],h=>by unfold zbJ at h;cases h
 | x::xs,y::ys,h=>by
  unfold zbJ at h
  rw[Bool.and_eq_true] at h
  simp[zdT h.2]
theorem zdU:∀ {xs ys:List D},xs.length=ys.length->(List.range xs.length).all (λj=>pyEq (xs.getD j .non) (ys.getD j .non))=zbJ xs ys
 | [],[],_=>by unfold zbJ;rfl
 | x::xs,y::ys,h=>by
  have ih:=zdU (xs:=xs) (ys:=ys) (by simpa using h)
  unfold zbJ
  rw[List.length_cons,List.range_succ_eq_map,List.all_cons,List.all_map,<-ih]
  rfl
theorem zfh:∀ {ms ns:List Int},zbJ (ms.map D.int) (ns.map D.int)=decide (ms=ns)
 | [],[]=>by unfold List.map zbJ;rfl
 | [],_::_=>by rw[zmc];unfold List.map zbJ;simp
 | _::_,[]=>by rw[zmc];unfold List.map zbJ;simp
 | m::ms,n::ns=>by
  rw[zmc,zmc]
  unfold zbJ pyEq
  rw[zfh,Bool.eq_iff_iff]
  simp
mutual
theorem Rep.inj {X:Cx}{pins:List (Addr × Obj)}{σ:St}{H:Hp}{s:Shared}(I:Inv X pins σ H s):∀ (d e:D) {v:V},Rep X.K H d v->Rep X.K H e v->d=e
 | .non,e,v,h,q=>by unfold Rep at h;subst h;cases e <;> unfold Rep at q <;> first | rfl | (cases q;done) | (obtain⟨_,_,q,_⟩:=q;cases q)
 | .bl _,e,v,h,q=>by unfold Rep at h;subst h;cases e <;> unfold Rep at q <;> first | (cases q;rfl) | (cases q;done) | (obtain⟨_,_,q,_⟩:=q;cases q)
 | .int _,e,v,h,q=>by unfold Rep at h;subst h;cases e <;> unfold Rep at q <;> first | (cases q;rfl) | (cases q;done) | (obtain⟨_,_,q,_⟩:=q;cases q)
 | .str _,e,v,h,q=>by unfold Rep at h;subst h;cases e <;> unfold Rep at q <;> first | (cases q;rfl) | (cases q;done) | (obtain⟨_,_,q,_⟩:=q;cases q)
 | .lst ds,e,v,h,q=>by
  unfold Rep at h
  obtain⟨a,xs,rfl,h1,h2⟩:=h
  cases e with
  | lst es=>
   unfold Rep at q
   obtain⟨b,ys,e1,q1,q2⟩:=q
   cases e1
   cases I.list_inj h1 q1
   rw[Reps.inj I ds es h2 q2]
  | tup es=>
   unfold Rep at q
   obtain⟨b,ys,e1,q1,q2⟩:=q
   cases e1
   obtain⟨_,_,p1,_⟩:=I.list h1
   obtain⟨_,_,p2,_⟩:=I.tuple q1
   exact absurd rfl (ne_of_list_tuple (s:=s) p1.isList p2)
  | _=>unfold Rep at q;cases q
 | .tup ds,e,v,h,q=>by
  unfold Rep at h
  obtain⟨a,xs,rfl,h1,h2⟩:=h
  cases e with
  | tup es=>
   unfold Rep at q
   obtain⟨b,ys,e1,q1,q2⟩:=q
   cases e1
   cases I.tuple_inj h1 q1
   rw[Reps.inj I ds es h2 q2]
  | lst es=>
   unfold Rep at q
   obtain⟨b,ys,e1,q1,q2⟩:=q
   cases e1
   obtain⟨_,_,p1,_⟩:=I.list q1
   obtain⟨_,_,p2,_⟩:=I.tuple h1
   exact absurd rfl (ne_of_list_tuple (s:=s) p1.isList p2)
  | _=>unfold Rep at q;cases q
theorem Reps.inj {X:Cx}{pins:List (Addr × Obj)}{σ:St}{H:Hp}{s:Shared}(I:Inv X pins σ H s):∀ (ds es:List D) {vs:List V},Reps X.K H ds vs->Reps X.K H es vs->ds=es
 | [],es,vs,h,q=>by
  unfold Reps at h;subst h
  cases es with
  | nil=>rfl
  | cons e es=>unfold Reps at q;obtain⟨_,_,q,_⟩:=q;cases q
 | d::ds,es,vs,h,q=>by
  unfold Reps at h
  obtain⟨v,r,rfl,h1,h2⟩:=h
  cases es with
  | nil=>unfold Reps at q;cases q
  | cons e es=>
   unfold Reps at q
   obtain⟨w,r',e1,q1,q2⟩:=q
   cases e1
   rw[Rep.inj I d e h1 q1,Reps.inj I ds es h2 q2]
end

section
variable {X:Cx}{pins:List (Addr × Obj)}{σ:St}{H:Hp}{s:Shared}
theorem zhI {d:D}{x:V}(h:Rep X.K H d x)(f:zdR x=true):(∃ b,d=.bl b/\x=.bl b)\/(∃ i,d=.int i/\x=.int i)\/(∃ z,d=.str z/\x=.str z)\/(d=.non/\x=.non):=by
 cases d with
 | non=>unfold Rep at h;exact .inr (.inr (.inr ⟨rfl,h⟩))
 | bl b=>unfold Rep at h;exact .inl ⟨b,rfl,h⟩
 | int b=>unfold Rep at h;exact .inr (.inl ⟨b,rfl,h⟩)
 | str b=>unfold Rep at h;exact .inr (.inr (.inl ⟨b,rfl,h⟩))
 | lst ds=>unfold Rep at h;obtain⟨a,xs,rfl,_⟩:=h;cases f
 | tup ds=>unfold Rep at h;obtain⟨a,xs,rfl,_⟩:=h;cases f
theorem zm9 {d e:D}{x y:V}(h:Rep X.K H d x)(q:Rep X.K H e y)(fx:zdR x=true)(fy:zdR y=true):eqV x y=pyEq d e:=by
 rcases zhI h fx with ⟨b,rfl,rfl⟩ | ⟨b,rfl,rfl⟩ | ⟨b,rfl,rfl⟩ | ⟨rfl,rfl⟩ <;> rcases zhI q fy with ⟨c,rfl,rfl⟩ | ⟨c,rfl,rfl⟩ | ⟨c,rfl,rfl⟩ | ⟨rfl,rfl⟩ <;> unfold pyEq eqV <;> rfl
theorem zfO {A:Around}{ds es:List D}{xs ys:List V}{us vs:List Value}(hd:Reps X.K H ds xs)(he:Reps X.K H es ys)(ru:Vals xs us)(rv:Vals ys vs)
  (ih:∀ (d e:D) (x y:V) (u v:Value),d∈ds->Rep X.K H d x->Rep X.K H e y->RelV x u->RelV y v->EqAt A s u v (pyEq d e)) :
  ∀ j (h1:j<us.toArray.size) (h2:j<vs.toArray.size),EqAt A s us.toArray[j] vs.toArray[j] (pyEq (ds.getD j .non) (es.getD j .non)):=by
 intro j h1 h2
 simp only[zst] at h1 h2
 have l1:=hd.length
 have l2:=he.length
 have l3:=ru.length
 have l4:=rv.length
 have j1:j<ds.length:=by omega
 have j2:j<es.length:=by omega
 obtain⟨x,ex,rx⟩:=hd.get (i:=j) (d:=ds[j]) (by simp[j1])
 obtain⟨y,ey,ry⟩:=he.get (i:=j) (d:=es[j]) (by simp[j2])
 obtain⟨u,eu,ru'⟩:=ru.get ex
 obtain⟨v,ev,rv'⟩:=rv.get ey
 have e1:us.toArray[j]=u:=by
  obtain⟨_,q⟩:=zge.mp eu
  simpa using q
 have e2:vs.toArray[j]=v:=by
  obtain⟨_,q⟩:=zge.mp ev
  simpa using q
 rw[e1,e2,show ds.getD j .non=ds[j] by simp[List.getD,j1],show es.getD j .non=es[j] by simp[List.getD,j2]]
 exact ih _ _ x y u v (List.getElem_mem j1) rx ry ru' rv'
theorem znZ (I:Inv X pins σ H s):∀ (n:Nat) (d e:D) (A:Around) (x y:V) (u v:Value),dep d<=n->A.units+n<cLine->Rep X.K H d x->Rep X.K H e y->RelV x u->RelV y v->EqAt A s u v (pyEq d e):=by
 intro n
 induction n with
 | zero=>
  intro d e A x y u v hn hu hd he ru rv
  have fx:zdR x=true:=by
   cases d with
   | non=>unfold Rep at hd;subst hd;rfl
   | bl b=>unfold Rep at hd;subst hd;rfl
   | int b=>unfold Rep at hd;subst hd;rfl
   | str b=>unfold Rep at hd;subst hd;rfl
   | lst ds=>unfold dep at hn;omega
   | tup ds=>unfold dep at hn;omega
  by_cases fy:zdR y=true
  ·rw[<-zm9 hd he fx fy]
   exact znQ ru rv fx fy
  ·cases e with
   | non=>unfold Rep at he;subst he;exact absurd rfl fy
   | bl b=>unfold Rep at he;subst he;exact absurd rfl fy
   | int b=>unfold Rep at he;subst he;exact absurd rfl fy
   | str b=>unfold Rep at he;subst he;exact absurd rfl fy
   | lst es=>
    unfold Rep at he
    obtain⟨a,ys,rfl,hq,_⟩:=he
    cases rv
    obtain⟨_,_,p,_⟩:=I.list hq
    rcases zhI hd fx with ⟨b,rfl,rfl⟩ | ⟨b,rfl,rfl⟩ | ⟨b,rfl,rfl⟩ | ⟨rfl,rfl⟩
    ·cases ru;unfold pyEq;exact EqAt.bool_list b p.isList (by omega)
    ·obtain⟨t,rfl⟩:=ru;unfold pyEq;exact EqAt.int_list b t p.isList (by omega)
    ·obtain⟨t,rfl⟩:=ru;unfold pyEq;exact EqAt.str_list b t p.isList (by omega)
    ·cases ru;unfold pyEq;exact EqAt.none_list p.isList (by omega)
   | tup es=>
    unfold Rep at he
    obtain⟨a,ys,rfl,hq,_⟩:=he
    cases rv
    obtain⟨_,_,p,_⟩:=I.tuple hq
    rcases zhI hd fx with ⟨b,rfl,rfl⟩ | ⟨b,rfl,rfl⟩ | ⟨b,rfl,rfl⟩ | ⟨rfl,rfl⟩
    ·cases ru;unfold pyEq;exact EqAt.bool_tuple b p (by omega)
    ·obtain⟨t,rfl⟩:=ru;unfold pyEq;exact EqAt.int_tuple b t p (by omega)
    ·obtain⟨t,rfl⟩:=ru;unfold pyEq;exact EqAt.str_tuple b t p (by omega)
    ·cases ru;unfold pyEq;exact EqAt.none_tuple p (by omega)
 | succ n ih=>
  intro d e A x y u v hn hu hd he ru rv
  by_cases h0:dep d<=n
  ·exact ih d e A x y u v h0 (by omega) hd he ru rv
  ·cases d with
   | non=>unfold dep at h0;omega
   | bl b=>unfold dep at h0;omega
   | int b=>unfold dep at h0;omega
   | str b=>unfold dep at h0;omega
   | lst ds=>
    unfold dep at hn
    have hd0:=hd
    unfold Rep at hd
    obtain⟨a,xs,rfl,hx,rx⟩:=hd
    cases ru
    obtain⟨its,vx,px,zx⟩:=I.list hx
    cases e with
    | non=>unfold Rep at he;subst he;cases rv;unfold pyEq;exact EqAt.list_none px.isList (by omega)
    | bl b=>unfold Rep at he;subst he;cases rv;unfold pyEq;exact EqAt.list_bool b px.isList (by omega)
    | int b=>unfold Rep at he;subst he;obtain⟨t,rfl⟩:=rv;unfold pyEq;exact EqAt.list_int b t px.isList (by omega)
    | str b=>unfold Rep at he;subst he;obtain⟨t,rfl⟩:=rv;unfold pyEq;exact EqAt.list_str b t px.isList (by omega)
    | tup es=>
     unfold Rep at he
     obtain⟨b,ys,rfl,hy,ry⟩:=he
     cases rv
     obtain⟨jts,vy,py,zy⟩:=I.tuple hy
     unfold pyEq
     exact EqAt.list_tuple px.isList py (by omega)
    | lst es=>
     have he0:=he
     unfold Rep at he
     obtain⟨b,ys,rfl,hy,ry⟩:=he
     cases rv
     obtain⟨jts,vy,py,zy⟩:=I.list hy
     by_cases hab:a=b
     ·subst hab
      rw[Rep.inj I _ _ hd0 he0,zcw]
      exact EqAt.same _
     ·refine EqAt.of_refs hab ?_
      unfold pyEq
      have l1:=rx.length
      have l2:=ry.length
      have l3:=vx.length
      have l4:=vy.length
      by_cases hl:ds.length=es.length
      ·have q:=RcAt.lists (A:=A) (e:=λj=>pyEq (ds.getD j .non) (es.getD j .non)) px.isList py.isList (by simp only[zst];omega) (by omega)
        (zfO rx ry vx vy λd e x y u v hm h1 h2 h3 h4=>ih d e A.in1 x y u v (Nat.le_trans (zeN hm) (by omega)) (by show A.units+1+n<cLine;omega) h1 h2 h3 h4)
       rw[show its.toArray.size=ds.length by rw[zst];omega,zdU hl] at q
       exact q
      ·rw[show zbJ ds es=false by
        cases h:zbJ ds es with
        | false=>rfl
        | true=>exact absurd (zdT h) hl]
       exact RcAt.lists_lengths px.isList py.isList (by simp only[zst,bne_iff_ne];omega) (by omega)
   | tup ds=>
    unfold dep at hn
    have hd0:=hd
    unfold Rep at hd
    obtain⟨a,xs,rfl,hx,rx⟩:=hd
    cases ru
    obtain⟨its,vx,px,zx⟩:=I.tuple hx
    cases e with
    | non=>unfold Rep at he;subst he;cases rv;unfold pyEq;exact EqAt.tuple_none px (by omega)
    | bl b=>unfold Rep at he;subst he;cases rv;unfold pyEq;exact EqAt.tuple_bool b px (by omega)
    | int b=>unfold Rep at he;subst he;obtain⟨t,rfl⟩:=rv;unfold pyEq;exact EqAt.tuple_int b t px (by omega)
    | str b=>unfold Rep at he;subst he;obtain⟨t,rfl⟩:=rv;unfold pyEq;exact EqAt.tuple_str b t px (by omega)
    | lst es=>
     unfold Rep at he
     obtain⟨b,ys,rfl,hy,ry⟩:=he
     cases rv
     obtain⟨jts,vy,py,zy⟩:=I.list hy
     unfold pyEq
     exact EqAt.tuple_list px py.isList (by omega)
    | tup es=>
     have he0:=he
     unfold Rep at he
     obtain⟨b,ys,rfl,hy,ry⟩:=he
     cases rv
     obtain⟨jts,vy,py,zy⟩:=I.tuple hy
     by_cases hab:a=b
     ·subst hab
      rw[Rep.inj I _ _ hd0 he0,zcw]
      exact EqAt.same _
     ·refine EqAt.of_refs hab ?_
      unfold pyEq
      have l1:=rx.length
      have l2:=ry.length
      have l3:=vx.length
      have l4:=vy.length
      have q:=RcAt.tuples (A:=A) (e:=λj=>pyEq (ds.getD j .non) (es.getD j .non)) px py (by omega)
        (zfO rx ry vx vy λd e x y u v hm h1 h2 h3 h4=>ih d e A.in1 x y u v (Nat.le_trans (zeN hm) (by omega)) (by show A.units+1+n<cLine;omega) h1 h2 h3 h4)
      by_cases hl:ds.length=es.length
      ·rw[show min its.toArray.size jts.toArray.size=ds.length by rw[zst,zst];omega,zdU hl,show (its.toArray.size == jts.toArray.size)=true by rw[zst,zst,beq_iff_eq];omega,Bool.and_true] at q
       exact q
      ·rw[show zbJ ds es=false by
        cases h:zbJ ds es with
        | false=>rfl
        | true=>exact absurd (zdT h) hl]
       rw[show (its.toArray.size == jts.toArray.size)=false by rw[zst,zst,beq_eq_false_iff_ne];omega,Bool.and_false] at q
       exact q
theorem zlN (I:Inv X pins σ H s){n:Nat}{d e:D}{A:Around}{a b:Addr}(hn:dep d<=n)(hu:A.units+n<cLine)(hd:Rep X.K H d (.ref a))(he:Rep X.K H e (.ref b)):RcAt A s (.ref a) (.ref b) (pyEq d e)/\RcNeAt A s (.ref a) (.ref b) (!pyEq d e):=by
 cases d with
 | non=>unfold Rep at hd;cases hd
 | bl _=>unfold Rep at hd;cases hd
 | int _=>unfold Rep at hd;cases hd
 | str _=>unfold Rep at hd;cases hd
 | lst ds=>
  unfold dep at hn
  unfold Rep at hd
  obtain⟨_,xs,e1,hx,rx⟩:=hd
  cases e1
  obtain⟨its,vx,px,zx⟩:=I.list hx
  cases e with
  | non=>unfold Rep at he;cases he
  | bl _=>unfold Rep at he;cases he
  | int _=>unfold Rep at he;cases he
  | str _=>unfold Rep at he;cases he
  | tup es=>
   unfold Rep at he
   obtain⟨_,ys,e1,hy,ry⟩:=he
   cases e1
   obtain⟨jts,vy,py,zy⟩:=I.tuple hy
   unfold pyEq
   exact⟨RcAt.list_tuple px.isList py (by omega),RcNeAt.list_tuple px.isList py (by omega)⟩
  | lst es=>
   unfold Rep at he
   obtain⟨_,ys,e1,hy,ry⟩:=he
   cases e1
   obtain⟨jts,vy,py,zy⟩:=I.list hy
   unfold pyEq
   have l1:=rx.length
   have l2:=ry.length
   have l3:=vx.length
   have l4:=vy.length
   by_cases hl:ds.length=es.length
   ·have it:=zfO (s:=s) (A:=A.in1) rx ry vx vy λd e x y u v hm h1 h2 h3 h4=>znZ I (n - 1) d e A.in1 x y u v (Nat.le_trans (zeN hm) (by omega)) (by show A.units+1+(n - 1)<cLine;omega) h1 h2 h3 h4
    have q:=RcAt.lists (A:=A) px.isList py.isList (by simp only[zst];omega) (by omega) it
    have q2:=RcNeAt.lists (A:=A) px.isList py.isList (by simp only[zst];omega) (by omega) it
    rw[show its.toArray.size=ds.length by rw[zst];omega,zdU hl] at q q2
    exact⟨q,q2⟩
   ·rw[show zbJ ds es=false by
     cases h:zbJ ds es with
     | false=>rfl
     | true=>exact absurd (zdT h) hl]
    exact⟨RcAt.lists_lengths px.isList py.isList (by simp only[zst,bne_iff_ne];omega) (by omega),RcNeAt.lists_lengths px.isList py.isList (by simp only[zst,bne_iff_ne];omega) (by omega)⟩
 | tup ds=>
  unfold dep at hn
  unfold Rep at hd
  obtain⟨_,xs,e1,hx,rx⟩:=hd
  cases e1
  obtain⟨its,vx,px,zx⟩:=I.tuple hx
  cases e with
  | non=>unfold Rep at he;cases he
  | bl _=>unfold Rep at he;cases he
  | int _=>unfold Rep at he;cases he
  | str _=>unfold Rep at he;cases he
  | lst es=>
   unfold Rep at he
   obtain⟨_,ys,e1,hy,ry⟩:=he
   cases e1
   obtain⟨jts,vy,py,zy⟩:=I.list hy
   unfold pyEq
   exact⟨RcAt.tuple_list px py.isList (by omega),RcNeAt.tuple_list px py.isList (by omega)⟩
  | tup es=>
   unfold Rep at he
   obtain⟨_,ys,e1,hy,ry⟩:=he
   cases e1
   obtain⟨jts,vy,py,zy⟩:=I.tuple hy
   unfold pyEq
   have l1:=rx.length
   have l2:=ry.length
   have l3:=vx.length
   have l4:=vy.length
   have it:=zfO (s:=s) (A:=A.in1) rx ry vx vy λd e x y u v hm h1 h2 h3 h4=>znZ I (n - 1) d e A.in1 x y u v (Nat.le_trans (zeN hm) (by omega)) (by show A.units+1+(n - 1)<cLine;omega) h1 h2 h3 h4
   have q:=RcAt.tuples (A:=A) px py (by omega) it
   have q2:=RcNeAt.tuples (A:=A) px py (by omega) it
   by_cases hl:ds.length=es.length
   ·rw[show min its.toArray.size jts.toArray.size=ds.length by rw[zst,zst];omega,zdU hl,show (its.toArray.size == jts.toArray.size)=true by rw[zst,zst,beq_iff_eq];omega,Bool.and_true] at q q2
    exact⟨q,q2⟩
   ·rw[show zbJ ds es=false by
     cases h:zbJ ds es with
     | false=>rfl
     | true=>exact absurd (zdT h) hl]
    rw[show (its.toArray.size == jts.toArray.size)=false by rw[zst,zst,beq_eq_false_iff_ne];omega,Bool.and_false] at q q2
    exact⟨q,q2⟩
end

def rEqD (K:Fg)(neg:Bool):R2:=λx y H Q=>∃ a b d e,x=.ref a/\y=.ref b/\Rep K H d (.ref a)/\Rep K H e (.ref b)/\dep d<=60/\Q (.bl (if neg then !pyEq d e else pyEq d e)) H
section
variable {X:Cx}{k:Nat}
theorem zpL (hr:Room k X.A):OpR X (compareOp .Eq) (rEqD X.K false):=by
 intro pins s σ H x y v u Q I rx ry h
 obtain⟨a,b,d,e,rfl,rfl,hd,he,hn,q⟩:=h
 cases rx;cases ry
 exact (zlN I (A:=X.A) hn (by have:=hr.units;omega) hd he).1 X.prog X.w X.xe _ ⟨.bl _,H,I,rfl,q⟩
theorem zpM (hr:Room k X.A):OpR X (compareOp .NotEq) (rEqD X.K true):=by
 intro pins s σ H x y v u Q I rx ry h
 obtain⟨a,b,d,e,rfl,rfl,hd,he,hn,q⟩:=h
 cases rx;cases ry
 exact (zlN I (A:=X.A) hn (by have:=hr.units;omega) hd he).2 X.prog X.w X.xe _ ⟨.bl _,H,I,rfl,q⟩
theorem zjr:zbC X (.builtin "isinstance") (λxs H Q=>∃ x c t b,xs=[x,.ty c]/\TyOf X.K H x t/\PySem.W.kitOne X.K t (.type c)=some b/\Q (.bl b) H):=by
 intro pins s σ H xs us Q I r h
 obtain⟨x,c,t,b,rfl,ty,e,q⟩:=h
 obtain⟨u,v,rfl,ru,rv⟩:=zkp r
 cases rv
 exact zlo I ru ty e λtk=>⟨.bl b,H,I.tok tk,rfl,q⟩
end
end L2

namespace L2
open PySem PySem.Spec PyProof.Rows

mutual
def RepF (H:Hp):D->V->List Addr->Prop
 | .non,v,fp=>v=.non/\fp=[]
 | .bl b,v,fp=>v=.bl b/\fp=[]
 | .int i,v,fp=>v=.int i/\fp=[]
 | .str x,v,fp=>v=.str x/\fp=[]
 | .lst ds,v,fp=>∃ a xs r,v=.ref a/\fp=a::r/\H a=some (.lst xs)/\zah H ds xs r
 | .tup ds,v,fp=>∃ a xs,v=.ref a/\H a=some (.tup xs)/\zah H ds xs fp
def zah (H:Hp):List D->List V->List Addr->Prop
 | [],vs,fp=>vs=[]/\fp=[]
 | d::ds,vs,fp=>∃ v r f g,vs=v::r/\fp=f++g/\RepF H d v f/\zah H ds r g
end
mutual
theorem RepF.rep {K:Fg}{H:Hp} : ∀ (d:D) {v:V}{fp:List Addr},RepF H d v fp->Rep K H d v
 | .non,_,_,h=>by unfold RepF at h;unfold Rep;exact h.1
 | .bl _,_,_,h=>by unfold RepF at h;unfold Rep;exact h.1
 | .int _,_,_,h=>by unfold RepF at h;unfold Rep;exact h.1
 | .str _,_,_,h=>by unfold RepF at h;unfold Rep;exact h.1
 | .lst ds,_,_,h=>by
  unfold RepF at h;unfold Rep
  obtain⟨a,xs,r,h1,_,h2,h3⟩:=h
  exact⟨a,xs,h1,SqL.of h2,zah.reps ds h3⟩
 | .tup ds,_,_,h=>by
  unfold RepF at h;unfold Rep
  obtain⟨a,xs,h1,h2,h3⟩:=h
  exact⟨a,xs,h1,SqT.of h2,zah.reps ds h3⟩
theorem zah.reps {K:Fg}{H:Hp} : ∀ (ds:List D) {vs:List V}{fp:List Addr},zah H ds vs fp->Reps K H ds vs
 | [],_,_,h=>by unfold zah at h;unfold Reps;exact h.1
 | d::ds,_,_,h=>by
  unfold zah at h;unfold Reps
  obtain⟨v,r,f,g,h1,_,h2,h3⟩:=h
  exact⟨v,r,h1,RepF.rep d h2,zah.reps ds h3⟩
end
def Tups (H H':Hp):Prop:=∀ b xs,H b=some (.tup xs)->H' b=some (.tup xs)
theorem Same.tups {H H':Hp}(e:Same H H'):Tups H H':=λ_ _ h=>e _ _ h
theorem Tups.trans {H H1 H2:Hp}(a:Tups H H1)(b:Tups H1 H2):Tups H H2:=λc o h=>b c o (a c o h)
theorem zj4 {H:Hp}{a:Addr}{o:HO}(h:∀ xs,H a≠some (.tup xs)):Tups H (upd H a o):=λb xs e=>by rw[zam (λz=>h xs (by rw[<-z];exact e))];exact e
theorem zcn {H:Hp}{a:Addr}{o:HO}{ys:List V}(h:H a=some (.lst ys)):Tups H (upd H a o):=zj4 λxs e=>by rw[h] at e;cases e
mutual
theorem RepF.frame {H H':Hp}(tk:Tups H H'):∀ (d:D) {v:V}{fp:List Addr},(∀ a∈fp,H' a=H a)->RepF H d v fp->RepF H' d v fp
 | .non,_,_,_,h=>by unfold RepF at *;exact h
 | .bl _,_,_,_,h=>by unfold RepF at *;exact h
 | .int _,_,_,_,h=>by unfold RepF at *;exact h
 | .str _,_,_,_,h=>by unfold RepF at *;exact h
 | .lst ds,_,_,k,h=>by
  unfold RepF at *
  obtain⟨a,xs,r,h1,h0,h2,h3⟩:=h
  subst h0
  exact⟨a,xs,r,h1,rfl,(k a List.mem_cons_self).trans h2,zah.frame tk ds (λb hb=>k b (List.mem_cons_of_mem _ hb)) h3⟩
 | .tup ds,_,_,k,h=>by
  unfold RepF at *
  obtain⟨a,xs,h1,h2,h3⟩:=h
  exact⟨a,xs,h1,tk _ _ h2,zah.frame tk ds k h3⟩
theorem zah.frame {H H':Hp}(tk:Tups H H'):∀ (ds:List D) {vs:List V}{fp:List Addr},(∀ a∈fp,H' a=H a)->zah H ds vs fp->zah H' ds vs fp
 | [],_,_,_,h=>by unfold zah at *;exact h
 | d::ds,_,_,k,h=>by
  unfold zah at *
  obtain⟨v,r,f,g,h1,h0,h2,h3⟩:=h
  subst h0
  exact⟨v,r,f,g,h1,rfl,RepF.frame tk d (λb hb=>k b (List.mem_append_left _ hb)) h2,zah.frame tk ds (λb hb=>k b (List.mem_append_right _ hb)) h3⟩
end
mutual
theorem RepF.has {H:Hp} : ∀ (d:D) {v:V}{fp:List Addr},RepF H d v fp->∀ a∈fp,∃ o,H a=some o
 | .non,_,_,h,a,m=>by unfold RepF at h;rw[h.2] at m;cases m
 | .bl _,_,_,h,a,m=>by unfold RepF at h;rw[h.2] at m;cases m
 | .int _,_,_,h,a,m=>by unfold RepF at h;rw[h.2] at m;cases m
 | .str _,_,_,h,a,m=>by unfold RepF at h;rw[h.2] at m;cases m
 | .lst ds,_,_,h,b,m=>by
  unfold RepF at h
  obtain⟨a,xs,r,h1,h0,h2,h3⟩:=h
  subst h0
  rcases List.mem_cons.mp m with m | m
  ·subst m;exact⟨_,h2⟩
  ·exact zah.has ds h3 b m
 | .tup ds,_,_,h,b,m=>by
  unfold RepF at h
  obtain⟨a,xs,h1,h2,h3⟩:=h
  exact zah.has ds h3 b m
theorem zah.has {H:Hp} : ∀ (ds:List D) {vs:List V}{fp:List Addr},zah H ds vs fp->∀ a∈fp,∃ o,H a=some o
 | [],_,_,h,a,m=>by unfold zah at h;rw[h.2] at m;cases m
 | d::ds,_,_,h,b,m=>by
  unfold zah at h
  obtain⟨v,r,f,g,h1,h0,h2,h3⟩:=h
  subst h0
  rcases zma.mp m with m | m
  ·exact RepF.has d h2 b m
  ·exact zah.has ds h3 b m
end
theorem zah.length {H:Hp} : ∀ {ds:List D}{vs:List V}{fp:List Addr},zah H ds vs fp->ds.length=vs.length
 | [],_,_,h=>by unfold zah at h;rw[h.1];rfl
 | d::ds,_,_,h=>by
  unfold zah at h
  obtain⟨v,r,f,g,rfl,_,_,h3⟩:=h
  simp[zah.length h3]
theorem zah.snoc {H:Hp} : ∀ {ds:List D}{vs:List V}{fp:List Addr}{d:D}{v:V}{f:List Addr},zah H ds vs fp->RepF H d v f->zah H (ds++[d]) (vs++[v]) (fp++f)
 | [],_,_,d,v,f,h,q=>by
  unfold zah at h
  obtain⟨rfl,rfl⟩:=h
  show zah H [d] [v] ([]++f)
  unfold zah
  exact⟨v,[],f,[],rfl,by simp,q,by unfold zah;exact⟨rfl,rfl⟩⟩
 | c::ds,_,_,d,v,f,h,q=>by
  unfold zah at h
  obtain⟨u,r,f1,g1,rfl,rfl,h2,h3⟩:=h
  rw[List.cons_append,List.cons_append,List.append_assoc]
  unfold zah
  exact⟨u,_,f1,_,rfl,rfl,h2,zah.snoc h3 q⟩
theorem zah.ints {H:Hp} : ∀ {ns:List Int},zah H (ns.map D.int) (ns.map V.int) []
 | []=>by unfold List.map zah;exact⟨rfl,rfl⟩
 | n::ns=>by
  rw[zmc,zmc]
  unfold zah
  exact⟨_,_,[],[],rfl,rfl,by unfold RepF;exact⟨rfl,rfl⟩,zah.ints⟩
theorem zah.ints_eq {H:Hp} : ∀ {ns:List Int}{vs:List V}{fp:List Addr},zah H (ns.map D.int) vs fp->vs=ns.map V.int/\fp=[]
 | [],_,_,h=>by unfold List.map zah at h;exact h
 | n::ns,_,_,h=>by
  rw[zmc] at h
  unfold zah at h
  obtain⟨v,r,f,g,rfl,rfl,h1,h2⟩:=h
  unfold RepF at h1
  obtain⟨rfl,rfl⟩:=h1
  obtain⟨rfl,rfl⟩:=zah.ints_eq h2
  exact⟨rfl,rfl⟩
theorem zeO:∀ ns:List Int,dep (.lst (ns.map D.int))<=1
 | []=>by unfold List.map dep deps;exact Nat.le_refl _
 | n::ns=>by
  have ih:=zeO ns
  unfold dep at ih ⊢
  rw[zmc]
  unfold deps dep
  omega
def New (H H':Hp)(d:D)(v:V):Prop:=∃ fp,RepF H' d v fp/\fp.Nodup/\∀ a∈fp,H a=none
abbrev nums (ns:List Int):D:=.lst (ns.map D.int)
theorem New.rep {K:Fg}{H H':Hp}{d:D}{v:V}(h:New H H' d v):Rep K H' d v:=let ⟨_,h,_⟩:=h;RepF.rep d h
theorem New.int {H H':Hp}{i:Int} : New H H' (.int i) (.int i):=⟨[],by unfold RepF;exact⟨rfl,rfl⟩,List.nodup_nil,λ_ m=>by cases m⟩
theorem New.bl {H H':Hp}{i:Bool} : New H H' (.bl i) (.bl i):=⟨[],by unfold RepF;exact⟨rfl,rfl⟩,List.nodup_nil,λ_ m=>by cases m⟩
theorem New.str {H H':Hp}{i:Str} : New H H' (.str i) (.str i):=⟨[],by unfold RepF;exact⟨rfl,rfl⟩,List.nodup_nil,λ_ m=>by cases m⟩
theorem New.non {H H':Hp} : New H H' .non .non:=⟨[],by unfold RepF;exact⟨rfl,rfl⟩,List.nodup_nil,λ_ m=>by cases m⟩
theorem New.back {H0 H H':Hp}{d:D}{v:V}(e:Same H0 H)(h:New H H' d v):New H0 H' d v:=by
 obtain⟨fp,h1,h2,h3⟩:=h
 exact⟨fp,h1,h2,λa m=>e.free (h3 a m)⟩
theorem New.same {H H' H2:Hp}{d:D}{v:V}(e:Same H' H2)(h:New H H' d v):New H H2 d v:=by
 obtain⟨fp,h1,h2,h3⟩:=h
 refine⟨fp,RepF.frame e.tups d (λa m=>?_) h1,h2,h3⟩
 obtain⟨o,ho⟩:=RepF.has d h1 a m
 rw[ho,e a o ho]
theorem New.iif {H H':Hp}{ns:List Int}{v:V} : New H H' (nums ns) v↔∃ a,v=.ref a/\H a=none/\H' a=some (.lst (ns.map V.int)):=by
 constructor
 ·rintro⟨fp,h1,h2,h3⟩
  unfold RepF at h1
  obtain⟨a,xs,r,e1,e2,e3,e4⟩:=h1
  obtain⟨rfl,rfl⟩:=zah.ints_eq e4
  subst e2
  exact⟨a,e1,h3 a List.mem_cons_self,e3⟩
 ·rintro⟨a,e1,e2,e3⟩
  refine⟨[a],?_,by simp,λb m=>by rw[zms.mp m];exact e2⟩
  unfold RepF
  exact⟨a,_,[],e1,rfl,e3,zah.ints⟩
theorem za3 {K:Fg}{H:Hp}{ns:List Int}{v:V} : Rep K H (nums ns) v↔∃ a,v=.ref a/\SqL K H a (ns.map V.int):=by
 unfold Rep
 constructor
 ·rintro⟨a,xs,e1,e2,e3⟩
  rw[Reps.ints.mp e3] at e2
  exact⟨a,e1,e2⟩
 ·rintro⟨a,e1,e2⟩
  exact⟨a,_,e1,e2,Reps.ints.mpr rfl⟩
theorem zag {H:Hp}{p:Addr}(h:H p=none)(o:HO):Same H (upd H p o):=λb u q=>by rw[zam (zax q h)];exact q
theorem New.lst {H1 H':Hp}{ds:List D}{vs:List V}{fp:List Addr}{a:Addr}(h:zah H' ds vs fp)(nd:fp.Nodup)(hf:∀ b∈fp,H1 b=none)(ha:H1 a=none)(na:a∉fp)(hH:H' a=some (.lst vs)):New H1 H' (.lst ds) (.ref a):=by
 refine⟨a::fp,?_,List.nodup_cons.mpr ⟨na,nd⟩,λb m=>?_⟩
 ·unfold RepF;exact⟨a,vs,fp,rfl,rfl,hH,h⟩
 ·rcases List.mem_cons.mp m with m | m
  ·subst m;exact ha
  ·exact hf b m
theorem New.tup {H1 H':Hp}{ds:List D}{vs:List V}{fp:List Addr}{a:Addr}(h:zah H' ds vs fp)(nd:fp.Nodup)(hf:∀ b∈fp,H1 b=none)(hH:H' a=some (.tup vs)):New H1 H' (.tup ds) (.ref a):=by
 refine⟨fp,?_,nd,hf⟩
 unfold RepF;exact⟨a,vs,rfl,hH,h⟩
structure Goes (J:It)(H1:Hp)(n:Nat)(P:Nat->V->Hp->Prop):Prop where
 go:∀ i H,i<n->Same H1 H->J.go i H
 stop:∀ H,Same H1 H->J.stop n H
 yld:∀ i H x H',i<n->Same H1 H->J.yld i H x H'->Same H H'/\P i x H'
theorem zaS {K:Fg}{a:Addr}{xs:List V}{H1:Hp}(h:SqL K H1 a xs):Goes (Itl K a) H1 xs.length (λi x _=>xs[i]?=some x) where
 go:=λi H hi e=>⟨xs,xs[i],e.seq h,by simp[hi]⟩
 stop:=λH e=>⟨xs,e.seq h,Nat.le_refl _⟩
 yld:=λi H x H' hi e q=>by
  obtain⟨rfl,q⟩:=q
  exact⟨Same.refl _,q xs (e.seq h)⟩
theorem zeg {K:Fg}{a:Addr}{xs:List V}{H1:Hp}(h:SqT K H1 a xs):Goes (Itt K a) H1 xs.length (λi x _=>xs[i]?=some x) where
 go:=λi H hi e=>⟨xs,xs[i],e.tup h,by simp[hi]⟩
 stop:=λH e=>⟨xs,e.tup h,Nat.le_refl _⟩
 yld:=λi H x H' hi e q=>by
  obtain⟨rfl,q⟩:=q
  exact⟨Same.refl _,q xs (e.tup h)⟩
theorem zbL {lo:Int}{n:Nat}{H1:Hp} : Goes (Itr lo n) H1 n (λi x _=>x=.int (lo+i)) where
 go:=λi H hi e=>hi
 stop:=λH e=>Nat.le_refl _
 yld:=λi H x H' hi e q=>by
  obtain⟨rfl,q⟩:=q
  exact⟨Same.refl _,q⟩
theorem zhJ {K:Fg}{a b:Addr}{xs ys:List V}{H1:Hp}{n:Nat}(h:SqL K H1 a xs)(h2:SqL K H1 b ys)(hn:n=min xs.length ys.length) :
  Goes (Itz K a b) H1 n (λi v H=>∃ T x y,v=.ref T/\H T=some (.tup [x,y])/\xs[i]?=some x/\ys[i]?=some y) where
 go:=λi H hi e=>⟨xs,ys,xs[i]'(by omega),ys[i]'(by omega),e.seq h,e.seq h2,by simp,by simp⟩
 stop:=λH e=>⟨xs,ys,e.seq h,e.seq h2,by
  rcases Nat.le_total xs.length ys.length with z | z
  ·exact .inl (by simp;omega)
  ·exact .inr (by simp;omega)⟩
 yld:=λi H x H' hi e q=>by
  obtain⟨T,nT,rfl,q⟩:=q
  have i1:i<xs.length:=by omega
  have i2:i<ys.length:=by omega
  have:=q xs ys xs[i] ys[i] (e.seq h) (e.seq h2) (by simp) (by simp)
  subst this
  exact⟨zag nT _,T,_,_,rfl,zad,by simp,by simp⟩
def ziy (J:It)(g:TG)(tt:TT)(te:TE)(σ0:St)(H1:Hp)(Q:VK):Prop:=∀ D,H1 D=none->
 ∃ W:Nat->Nat->List V->Hp->Prop,(∃ m,W 0 m [] (upd H1 D (.lst [])))/\∀ i m ys H,W i m ys H->H D=some (.lst ys)/\
  ((J.stop i H/\Q (.ref D) H)\/(J.go i H/\ys.length<sizeLine/\∃ N:List V->Hp->Prop,(∀ ys' H',N ys' H'->∃ m',m'<m/\W (i+1) m' ys' H')/\
   ∀ x H',J.yld i H x H'->g x σ0 H' λσ2 H2=>tt σ2 H2 λb H3=>if b=true then te σ2 H3 λy H4=>H4 D=some (.lst ys)/\N (ys++[y]) (upd H4 D (.lst (ys++[y]))) else N ys H3))
def zna (J:It)(g:TG)(tb:TS)(D:Ends)(σ:St)(H1:Hp):Prop:=∃ W:Nat->Nat->St->Hp->Prop,(∃ m,W 0 m σ H1)/\∀ i m σ H,W i m σ H->
 (J.stop i H/\D.nx σ H)\/(J.go i H/\∃ N:St->Hp->Prop,(∀ σ' H',N σ' H'->∃ m',m'<m/\W (i+1) m' σ' H')/\∀ x H',J.yld i H x H'->g x σ H' λσ2 H2=>tb {D with nx:=N,ct:=N,bk:=D.nx} σ2 H2)
theorem zaI {J:It}{H1:Hp}{n:Nat}{P:Nat->V->Hp->Prop}{g:TG}{te:TE}{σ0:St}{Q:VK}(wk:Goes J H1 n P)(ds:List D)(hn:ds.length=n)(hz:n<=sizeLine)
  (step:∀ i x d H' (R:VK),i<n->ds[i]?=some d->Same H1 H'->P i x H'->(∀ y H3,Same H' H3->New H' H3 d y->R y H3)->g x σ0 H' λσ2 H2=>te σ2 H2 R)
  (fin:∀ v H',Same H1 H'->New H1 H' (.lst ds) v->Q v H') :
  ziy J g zoz te σ0 H1 Q:=by
 intro Da hD
 refine⟨λi m ys H=>m=n - i/\i<=n/\Same H1 H/\H Da=some (.lst ys)/\∃ fp,zah H (ds.take i) ys fp/\fp.Nodup/\Da∉fp/\∀ b∈fp,H1 b=none,⟨n,rfl,Nat.zero_le _,zag hD _,zad,[],?_,List.nodup_nil,by simp,λ_ m=>by cases m⟩,?_⟩
 ·rw[List.take_zero];unfold zah;exact⟨rfl,rfl⟩
 rintro i m ys H ⟨rfl,hi,hs,hH,fp,hr,nd,na,hf⟩
 refine⟨hH,?_⟩
 have hl:=hr.length
 rw[List.length_take] at hl
 by_cases hlt:i<n
 ·refine .inr ⟨wk.go i H hlt hs,by omega,λys' H'=>(n - (i+1)<n - i/\i+1<=n/\Same H1 H'/\H' Da=some (.lst ys')/\∃ fp,zah H' (ds.take (i+1)) ys' fp/\fp.Nodup/\Da∉fp/\∀ b∈fp,H1 b=none),λys' H' ⟨q1,q2,q3,q4,q5⟩=>⟨n - (i+1),q1,rfl,q2,q3,q4,q5⟩,λx H' hy=>?_⟩
  obtain⟨s1,hp⟩:=wk.yld i H x H' hlt hs hy
  have hi':i<ds.length:=by omega
  refine step i x ds[i] H' _ hlt (by simp) (hs.trans s1) hp λy H3 s3 hn3=>?_
  have hD3:H3 Da=some (.lst ys):=s3 _ _ (s1 _ _ hH)
  refine⟨hD3,by omega,hlt,?_,zad,?_⟩
  ·intro b o e
   rw[zam (zax e hD)]
   exact s3 _ _ (s1 _ _ (hs _ _ e))
  ·obtain⟨fq,h1,h2,h3⟩:=hn3
   have keep:∀ b∈fp,(upd H3 Da (.lst (ys++[y]))) b=H b:=λb hb=>by
    obtain⟨o,ho⟩:=zah.has _ hr b hb
    rw[zam (show b≠Da from λz=>na (by rw[<-z];exact hb)),ho]
    exact s3 _ _ (s1 _ _ ho)
   have nDq:Da∉fq:=λz=>by
    have:=h3 Da z
    rw[s1 _ _ hH] at this;cases this
   have tk2:Tups H3 (upd H3 Da (.lst (ys++[y]))):=zcn hD3
   have tk1:Tups H (upd H3 Da (.lst (ys++[y]))):=((s1.trans s3).tups).trans tk2
   have keep2:∀ b∈fq,(upd H3 Da (.lst (ys++[y]))) b=H3 b:=λb hb=>by rw[zam (show b≠Da from λz=>nDq (by rw[<-z];exact hb))]
   refine⟨fp++fq,?_,?_,?_,?_⟩
   ·have:=(zah.frame tk1 _ keep hr).snoc (RepF.frame tk2 _ keep2 h1)
    rw[List.take_add_one,show ds[i]?.toList=[ds[i]] by simp[hi']]
    exact this
   ·refine List.nodup_append.mpr ⟨nd,h2,λa ha b hb z=>?_⟩
    subst z
    obtain⟨o,ho⟩:=zah.has _ hr a ha
    have:=h3 a hb
    rw[s1 _ _ ho] at this;cases this
   ·exact λz=>(zma.mp z).elim na nDq
   ·intro b hb
    rcases zma.mp hb with z | z
    ·exact hf b z
    ·exact (hs.trans s1).free (h3 b z)
 ·have e:i=n:=by omega
  subst e
  refine .inl ⟨wk.stop H hs,fin _ _ hs ?_⟩
  rw[List.take_of_length_le (by omega)] at hr
  exact New.lst hr nd hf hD na hH
theorem zlO {J:It}{H1:Hp}{n:Nat}{P:Nat->V->Hp->Prop}{g:TG}{tt:TT}{te:TE}{σ0:St}{Q:VK}(wk:Goes J H1 n P)(k:Nat->Bool)(d:Nat->D)(hz:n<=sizeLine)
  (step:∀ i x H' (R1:VK) (R2:Hp->Prop),i<n->Same H1 H'->P i x H'->(k i=true->∀ y H3,Same H' H3->New H' H3 (d i) y->R1 y H3)->(k i=false->∀ H3,Same H' H3->R2 H3)->
   g x σ0 H' λσ2 H2=>tt σ2 H2 λb H3=>if b=true then te σ2 H3 R1 else R2 H3)
  (fin:∀ v H',Same H1 H'->New H1 H' (.lst (((List.range n).filter k).map d)) v->Q v H') :
  ziy J g tt te σ0 H1 Q:=by
 intro Da hD
 refine⟨λi m ys H=>m=n - i/\i<=n/\Same H1 H/\H Da=some (.lst ys)/\∃ fp,zah H (((List.range i).filter k).map d) ys fp/\fp.Nodup/\Da∉fp/\∀ b∈fp,H1 b=none,⟨n,rfl,Nat.zero_le _,zag hD _,zad,[],?_,List.nodup_nil,by simp,λ_ m=>by cases m⟩,?_⟩
 ·simp only[List.range_zero,List.filter_nil,List.map_nil];unfold zah;exact⟨rfl,rfl⟩
 rintro i m ys H ⟨rfl,hi,hs,hH,fp,hr,nd,na,hf⟩
 refine⟨hH,?_⟩
 have hl:=hr.length
 have hl2:((List.range i).filter k).length<=i:=by
  have:=List.length_filter_le k (List.range i)
  rwa [List.length_range] at this
 rw[zlm] at hl
 by_cases hlt:i<n
 ·refine .inr ⟨wk.go i H hlt hs,by omega,λys' H'=>(n - (i+1)<n - i/\i+1<=n/\Same H1 H'/\H' Da=some (.lst ys')/\∃ fp,zah H' (((List.range (i+1)).filter k).map d) ys' fp/\fp.Nodup/\Da∉fp/\∀ b∈fp,H1 b=none),λys' H' ⟨q1,q2,q3,q4,q5⟩=>⟨n - (i+1),q1,rfl,q2,q3,q4,q5⟩,λx H' hy=>?_⟩
  obtain⟨s1,hp⟩:=wk.yld i H x H' hlt hs hy
  refine step i x H' _ _ hlt (hs.trans s1) hp (λhk y H3 s3 hn3=>?_) (λhk H3 s3=>?_)
  ·have hD3:H3 Da=some (.lst ys):=s3 _ _ (s1 _ _ hH)
   refine⟨hD3,by omega,hlt,?_,zad,?_⟩
   ·intro b o e
    rw[zam (zax e hD)]
    exact s3 _ _ (s1 _ _ (hs _ _ e))
   ·obtain⟨fq,h1,h2,h3⟩:=hn3
    have keep:∀ b∈fp,(upd H3 Da (.lst (ys++[y]))) b=H b:=λb hb=>by
     obtain⟨o,ho⟩:=zah.has _ hr b hb
     rw[zam (show b≠Da from λz=>na (by rw[<-z];exact hb)),ho]
     exact s3 _ _ (s1 _ _ ho)
    have nDq:Da∉fq:=λz=>by
     have:=h3 Da z
     rw[s1 _ _ hH] at this;cases this
    have tk2:Tups H3 (upd H3 Da (.lst (ys++[y]))):=zcn hD3
    have tk1:Tups H (upd H3 Da (.lst (ys++[y]))):=((s1.trans s3).tups).trans tk2
    have keep2:∀ b∈fq,(upd H3 Da (.lst (ys++[y]))) b=H3 b:=λb hb=>by rw[zam (show b≠Da from λz=>nDq (by rw[<-z];exact hb))]
    refine⟨fp++fq,?_,?_,?_,?_⟩
    ·have:=(zah.frame tk1 _ keep hr).snoc (RepF.frame tk2 _ keep2 h1)
     rw[List.range_succ,List.filter_append,List.map_append,List.filter_cons,hk]
     exact this
    ·refine List.nodup_append.mpr ⟨nd,h2,λa ha b hb z=>?_⟩
     subst z
     obtain⟨o,ho⟩:=zah.has _ hr a ha
     have:=h3 a hb
     rw[s1 _ _ ho] at this;cases this
    ·exact λz=>(zma.mp z).elim na nDq
    ·intro b hb
     rcases zma.mp hb with z | z
     ·exact hf b z
     ·exact (hs.trans s1).free (h3 b z)
  ·refine⟨by omega,hlt,hs.trans (s1.trans s3),s3 _ _ (s1 _ _ hH),fp,?_,nd,na,hf⟩
   rw[List.range_succ,List.filter_append,List.map_append,List.filter_cons,hk]
   simp only[Bool.false_eq_true,if_false,List.filter_nil,List.map_nil,List.append_nil]
   refine zah.frame (s1.trans s3).tups _ (λb hb=>?_) hr
   obtain⟨o,ho⟩:=zah.has _ hr b hb
   rw[ho]
   exact s3 _ _ (s1 _ _ ho)
 ·have e:i=n:=by omega
  subst e
  exact .inl ⟨wk.stop H hs,fin _ _ hs (New.lst hr nd hf hD na hH)⟩
theorem zgg {J:It}{H1:Hp}{n:Nat}{P:Nat->V->Hp->Prop}{g:TG}{tb:TS}{D:Ends}{σ:St}(wk:Goes J H1 n P)(Pv:Nat->St->Hp->Prop)(h0:Pv 0 σ H1)(hl:∀ i σ H,Pv i σ H->Same H1 H)
  (hs:∀ i x σ H H',i<n->Pv i σ H->Same H H'->P i x H'->g x σ H' λσ2 H2=>tb {D with nx:=Pv (i+1),ct:=Pv (i+1),bk:=D.nx} σ2 H2) (hd:∀ σ H,Pv n σ H->D.nx σ H) :
  zna J g tb D σ H1:=by
 refine⟨λi m σ H=>m=n - i/\i<=n/\Pv i σ H,⟨n,by simp,Nat.zero_le _,h0⟩,?_⟩
 rintro i m σ H ⟨rfl,hi,p⟩
 have e:=hl i σ H p
 by_cases hlt:i<n
 ·refine .inr ⟨wk.go i H hlt e,Pv (i+1),λσ' H' p'=>⟨n - (i+1),by omega,rfl,hlt,p'⟩,λx H' y=>?_⟩
  obtain⟨s1,hp⟩:=wk.yld i H x H' hlt e y
  exact hs i x σ H H' hlt p s1 hp
 ·have e':i=n:=by omega
  subst e'
  exact .inl ⟨wk.stop H e,hd σ H p⟩
end L2

namespace L2
open PySem PySem.Spec PyProof.Rows

inductive E3 {α1 α2 α3:Type}(p:α1->α2->α3->Prop):Prop
 | mk (a1:α1) (a2:α2) (a3:α3) (h:p a1 a2 a3):E3 p
inductive E4 {α1 α2 α3 α4:Type}(p:α1->α2->α3->α4->Prop):Prop
 | mk (a1:α1) (a2:α2) (a3:α3) (a4:α4) (h:p a1 a2 a3 a4):E4 p
inductive E6 {α1 α2 α3 α4 α5 α6:Type}(p:α1->α2->α3->α4->α5->α6->Prop):Prop
 | mk (a1:α1) (a2:α2) (a3:α3) (a4:α4) (a5:α5) (a6:α6) (h:p a1 a2 a3 a4 a5 a6):E6 p
inductive E13 {α1 α2 α3 α4 α5 α6 α7 α8 α9 α10 α11 α12 α13:Type}(p:α1->α2->α3->α4->α5->α6->α7->α8->α9->α10->α11->α12->α13->Prop):Prop
 | mk (a1:α1) (a2:α2) (a3:α3) (a4:α4) (a5:α5) (a6:α6) (a7:α7) (a8:α8) (a9:α9) (a10:α10) (a11:α11) (a12:α12) (a13:α13) (h:p a1 a2 a3 a4 a5 a6 a7 a8 a9 a10 a11 a12 a13):E13 p
inductive A3 (p1 p2 p3:Prop):Prop
 | mk (h1:p1) (h2:p2) (h3:p3):A3 p1 p2 p3
inductive A4 (p1 p2 p3 p4:Prop):Prop
 | mk (h1:p1) (h2:p2) (h3:p3) (h4:p4):A4 p1 p2 p3 p4
inductive A5 (p1 p2 p3 p4 p5:Prop):Prop
 | mk (h1:p1) (h2:p2) (h3:p3) (h4:p4) (h5:p5):A5 p1 p2 p3 p4 p5
inductive A6 (p1 p2 p3 p4 p5 p6:Prop):Prop
 | mk (h1:p1) (h2:p2) (h3:p3) (h4:p4) (h5:p5) (h6:p6):A6 p1 p2 p3 p4 p5 p6
inductive A8 (p1 p2 p3 p4 p5 p6 p7 p8:Prop):Prop
 | mk (h1:p1) (h2:p2) (h3:p3) (h4:p4) (h5:p5) (h6:p6) (h7:p7) (h8:p8):A8 p1 p2 p3 p4 p5 p6 p7 p8
structure Fn (P:Program)(w:World)(K:Fg)(mg:Str->Option Value)(base:Heap)(x:Str)(ps:List Str)(k:Nat)(sp:Sp):Prop where
 ex:∃ f fd,FnOk P w K mg base CX0 k f fd ps sp/\zdQ K fd ps []/\PySem.W.keepIn K (.ref f)=true/\mg x=some (.ref f)
section
variable {X:Cx}{k j:Nat}{ps:List Str}{sp:Sp}{x:Str}{p pos:Pos}{e:Expr}{es:List Expr}{t:TA}
theorem zak (G:Fn X.prog X.w X.K X.mg X.base x ps j sp)(hr:Room k X.A)(hg:Gl X x)(ha:PA X (e::es) t)(hj:j<=k:=by decide)(hdb:(x == ("__debug__" : Str))=false:=by decide)
  (he:starEach (e::es) X.env=(false,eval e X.env)::starEach es X.env:=by rfl) (hpl:(backTo pos (starEach es X.env)).any (·.1)=false:=by rfl):PE X (.Call (.Name x p) (e::es) [] pos) (zik sp [] E0 t):=by
 obtain⟨f,fd,F,hb,hk,hm⟩:=G.ex
 exact zlr (F.mono hj) hr hg hm hk hb .nil zff ha hdb he hpl
end
theorem Fn.of {P:Program}{w:World}{K:Fg}{mg:Str->Option Value}{base:Heap}{x:Str}{st:Stmt}{f:Addr}{fd:FuncData}{N ps:List Str}{k:Nat}{sp:Sp}(F:Fun K x x st f fd)(S:FSc N ps (zaf st))(m:mg x=some (.ref f))
  (hb:∀ (kV doc pm:Value) (an:Option Addr) (cdv ct:Value) (us:List Value),us.length=ps.length->bindArgs (PySem.W.fnOf x x (zcU st) (zbO st) (zaf st) .none kV doc pm an cdv ct) ⟨us,[]⟩=pure (ps.zip us))
  (len:∀ vs H Q E,sp vs H Q E->vs.length=ps.length)
  (hbody:∀ (cdv:Value) (A:Around) (outer:List Env) (s:Shared) (H:Hp) (vs:List V) (Q:VK) (E:XK),Room k (A.deeper (envOfC x (zaf st) s.heap.objs.size f cdv))->sp vs H Q E->
   ∃ t,PSs (cxOf CX0 P w K mg base N x (zaf st) f cdv A outer s H E).nox (zbO st) t/\t {nx:=λ_ H'=>Q .non H',rt:=Q} (start N vs) H):Fn P w K mg base x ps (k+1) sp:=
 ⟨f,fd,F.ok S len hbody,F.binds hb,F.kp,m⟩
section
variable {X:Cx}{k:Nat}
def zlP (K:Fg):R2:=λx y H Q=>rI0 (λi j=>.int (i+j)) x y H Q\/rCat x y H Q\/zps K x y H Q
theorem zoB:OpR X (binaryOp .Add) (zlP X.K):=zpk.or (zpz.or zor)
def zlQ:R2:=λx y H Q=>rI CMul (λi j=>.int (i * j)) x y H Q\/rRep x y H Q
theorem zaV:OpR X (binaryOp .Mult) zlQ:=zpl.or zpA
def rEqA (K:Fg):R2:=λx y H Q=>rEq x y H Q\/rEqD K false x y H Q
def rNeA (K:Fg):R2:=λx y H Q=>rNe x y H Q\/rEqD K true x y H Q
theorem zpN (hr:Room k X.A):OpR X (compareOp .Eq) (rEqA X.K):=zoj.or (zpL hr)
theorem zpO (hr:Room k X.A):OpR X (compareOp .NotEq) (rNeA X.K):=op_ne.or (zpM hr)
end

def rLen (K:Fg):List V->Hp->VK->Prop:=λxs H Q=>∃ p ys,xs=[.ref p]/\(SqL K H p ys\/SqT K H p ys)/\Q (.int ys.length) H
def zjs (K:Fg):List V->Hp->VK->Prop:=λxs H Q=>∃ p ys,xs=[.ref p]/\(SqL K H p ys\/SqT K H p ys)/\∀ l,H l=none->Q (.ref l) (upd H l (.lst ys))
def zlR (K:Fg):List V->Hp->VK->Prop:=λxs H Q=>∃ p ys,xs=[.ref p]/\((SqL K H p ys/\∀ l,H l=none->Q (.ref l) (upd H l (.tup ys)))\/(SqT K H p ys/\Q (.ref p) H))
def rIsi (K:Fg):List V->Hp->VK->Prop:=λxs H Q=>∃ x c t b,xs=[x,.ty c]/\TyOf K H x t/\PySem.W.kitOne K t (.type c)=some b/\Q (.bl b) H
def rAll (K:Fg):List V->Hp->VK->Prop:=λxs H Q=>∃ (p:Addr) (bs:List Bool),xs=[.ref p]/\SqL K H p (bs.map V.bl)/\Q (.bl (bs.all id)) H
def rAny (K:Fg):List V->Hp->VK->Prop:=λxs H Q=>∃ (p:Addr) (bs:List Bool),xs=[.ref p]/\SqL K H p (bs.map V.bl)/\Q (.bl (bs.any id)) H
def rMax:List V->Hp->VK->Prop:=λxs H Q=>∃ i j,xs=[.int i,.int j]/\Q (.int (if j>i then j else i)) H
def rMin:List V->Hp->VK->Prop:=λxs H Q=>∃ i j,xs=[.int i,.int j]/\Q (.int (if j<i then j else i)) H
def rInt:List V->Hp->VK->Prop:=λxs H Q=>(∃ i,xs=[.int i]/\Q (.int i) H)\/∃ k,xs=[.bl k]/\Q (.int (if k then 1 else 0)) H
section
variable {X:Cx}
theorem c_len:zbC X (.builtin "len") (rLen X.K):=zio
theorem zpP:zbC X (.type "list") (zjs X.K):=ziq
theorem zoC:zbC X (.type "tuple") (zlR X.K):=zhG
theorem c_isi:zbC X (.builtin "isinstance") (rIsi X.K):=zjr
theorem c_all (hc:X.calm=true):zbC X (.builtin "all") (rAll X.K):=zm7 hc
theorem c_any (hc:X.calm=true):zbC X (.builtin "any") (rAny X.K):=zm8 hc
theorem c_max (hc:X.calm=true):zbC X (.builtin "max") rMax:=zli hc
theorem c_min (hc:X.calm=true):zbC X (.builtin "min") rMin:=zlj hc
theorem c_int:zbC X (.type "int") rInt:=zlk
end

section
variable {K:Fg}{σ:St}{H:Hp}{Q:VK}{ta tb tc:TE}{D:Ends}
theorem zpQ {i:Nat}{v:V}(h:σ[i]?=some (some v))(q:Q v H):tVar i σ H Q:=⟨v,h,q⟩
theorem i_c {v:V}(q:Q v H):tC v σ H Q:=q
theorem i_op {r:R2}(h:ta σ H λx H1=>tb σ H1 λy H2=>r x y H2 Q):tOp r ta tb σ H Q:=h
theorem i_un {r:V->Hp->VK->Prop}(h:ta σ H λx H1=>r x H1 Q):tUn r ta σ H Q:=h
theorem i_rI0 {g:Int->Int->V}{i j:Int}(q:Q (g i j) H):rI0 g (.int i) (.int j) H Q:=⟨i,j,rfl,rfl,q⟩
theorem i_mod {i j:Int}(c:0<j)(q:Q (.int (i % j)) H):rI (λ_ j=>0<j) (λi j=>.int (i % j)) (.int i) (.int j) H Q:=⟨i,j,rfl,rfl,c,q⟩
theorem znb (q:Q (.int 1000000000) H):rI CPow (λi j=>.int (i ^ j.toNat)) (.int 10) (.int 9) H Q:=⟨10,9,rfl,rfl,⟨by decide,by decide,by decide⟩,q⟩
theorem zpR {i j:Int}(c:0<j)(c2:j<1073741824)(q:Q (.int (i / j)) H):rI CDiv (λi j=>.int (i / j)) (.int i) (.int j) H Q:=⟨i,j,rfl,rfl,⟨c,c2⟩,q⟩
theorem i_rU {g:Int->V}{i:Int}(q:Q (g i) H):rU g (.int i) H Q:=⟨i,rfl,q⟩
theorem zoD {i j:Int}(q:Q (.int (i+j)) H):zlP K (.int i) (.int j) H Q:=.inl ⟨i,j,rfl,rfl,q⟩
theorem zbe {a b:Addr}{xs ys:List V}(h1:H a=some (.lst xs))(h2:H b=some (.lst ys))(z:xs.length+ys.length<=sizeLine)(q:∀ p,H p=none->Q (.ref p) (upd H p (.lst (xs++ys)))):zlP K (.ref a) (.ref b) H Q:=.inr (.inl ⟨a,b,xs,ys,rfl,rfl,h1,h2,z,q⟩)
theorem zj5 {i j:Int}(c:CMul i j)(q:Q (.int (i * j)) H):zlQ (.int i) (.int j) H Q:=.inl ⟨i,j,rfl,rfl,c,q⟩
theorem i_eqI {i j:Int}(q:Q (.bl (decide (i=j))) H):rEqA K (.int i) (.int j) H Q:=.inl ⟨rfl,by
 rw[show decide (V.int i=V.int j)=decide (i=j) by rw[decide_eq_decide];exact⟨λz=>by cases z;rfl,λz=>by rw[z]⟩];exact q⟩
theorem i_neI {i j:Int}(q:Q (.bl (!decide (i=j))) H):rNeA K (.int i) (.int j) H Q:=.inl ⟨rfl,by
 rw[show decide (V.int i=V.int j)=decide (i=j) by rw[decide_eq_decide];exact⟨λz=>by cases z;rfl,λz=>by rw[z]⟩];exact q⟩
theorem i_eqS {i j:Str}(q:Q (.bl (decide (i=j))) H):rEqA K (.str i) (.str j) H Q:=.inl ⟨rfl,by
 rw[show decide (V.str i=V.str j)=decide (i=j) by rw[decide_eq_decide];exact⟨λz=>by cases z;rfl,λz=>by rw[z]⟩];exact q⟩
theorem znc {a b:Addr}{d e:L2.D}(h1:Rep K H d (.ref a))(h2:Rep K H e (.ref b))(n:dep d<=60)(q:Q (.bl (pyEq d e)) H):rEqA K (.ref a) (.ref b) H Q:=.inr ⟨a,b,d,e,rfl,rfl,h1,h2,n,q⟩
theorem zoE {a b:Addr}{d e:L2.D}(h1:Rep K H d (.ref a))(h2:Rep K H e (.ref b))(n:dep d<=60)(q:Q (.bl (!pyEq d e)) H):rNeA K (.ref a) (.ref b) H Q:=.inr ⟨a,b,d,e,rfl,rfl,h1,h2,n,q⟩
theorem zpS {Q:Bool->Hp->Prop}(h:ta σ H λx H'=>∃ k,x=.bl k/\Q k H'):zpm ta σ H Q:=h
theorem i_B {Q:Bool->Hp->Prop}(h:ta σ H λx H'=>∃ k,x=.bl k/\Q k H'):tB ta σ H Q:=h
theorem i_bl {P:Bool->Prop}{b:Bool}(h:P b):∃ k,V.bl b=.bl k/\P k:=⟨b,rfl,h⟩
theorem i_nil {Q:List V->Hp->Prop}(h:Q [] H):tNil σ H Q:=h
theorem zpT {Q:List V->Hp->Prop}{tr:TA}(h:ta σ H λx H1=>tr σ H1 λxs H2=>Q (x::xs) H2):zc6 ta tr σ H Q:=h
theorem zpU {sp:Sp}{t:TA}(h:t σ H λvs H1=>sp vs H1 Q E0):zik sp [] E0 t σ H Q:=by
 have e:(λ(vs:List V) (H1:Hp)=>sp (vs++[]) H1 Q E0)=λvs H1=>sp vs H1 Q E0:=by funext vs H1;rw[List.append_nil]
 show t σ H λvs H1=>sp (vs++[]) H1 Q E0
 rw[e];exact h
theorem i_CB {r:List V->Hp->VK->Prop}{t:TA}(h:t σ H λvs H1=>r vs H1 Q):tCB r t σ H Q:=h
theorem i_lst {t:TA}(h:t σ H λxs H1=>xs.length<=sizeLine/\∀ p,H1 p=none->Q (.ref p) (upd H1 p (.lst xs))):tLst t σ H Q:=h
theorem i_tup {t:TA}(h:t σ H λxs H1=>xs.length<=sizeLine/\∀ p,H1 p=none->Q (.ref p) (upd H1 p (.tup xs))):tTup t σ H Q:=h
theorem i_asg {g:TG}(h:ta σ H λx H1=>g x σ H1 D.nx):tAsg ta g D σ H:=h
theorem zoF {i:Nat}{v:V}{Q:St->Hp->Prop}(h:Q (σ.set i (some v)) H):zmP i v σ H Q:=h
theorem i_ret (h:ta σ H D.rt):tRet ta D σ H:=h
theorem zpV (h:ta σ H λ_ H1=>D.nx σ H1):zof ta D σ H:=h
theorem zpW (h:D.nx σ H):zmO D σ H:=h
theorem i_if {c:TT}(h:c σ H λb H1=>if b=true then ta σ H1 Q else tb σ H1 Q):tIf c ta tb σ H Q:=h
theorem zeA {a:Addr}{xs:List V}(h:SqL K H a xs\/SqT K H a xs)(q:Q (.int xs.length) H):rLen K [.ref a] H Q:=⟨a,xs,rfl,h,q⟩
theorem ix0 {α:Type}{x:α}{xs:List α} : ixN (x::xs).length 0=some 0:=by
 unfold ixN
 rw[if_pos (Int.le_refl 0),if_pos (by rw[List.length_cons];omega)]
 rfl
theorem zbt {α:Type}{x:α}{xs:List α} : atI (x::xs) (0:Int)=some x:=zaA (j:=0) rfl
theorem zbE {a:Addr}{xs:List V}{i:Int}{v:V}(h:SqL K H a xs)(e:atI xs i=some v)(q:Q v H):rIx K (.ref a) (.int i) H Q:=.inl ⟨a,xs,i,v,rfl,rfl,h,e,q⟩
theorem za4 {a:Addr}{xs:List V}{i:Int}{v:V}(h:SqT K H a xs)(e:atI xs i=some v)(q:Q v H):rIx K (.ref a) (.int i) H Q:=.inr (.inl ⟨a,xs,i,v,rfl,rfl,h,e,q⟩)
end
section
variable {K:Fg}{σ:St}{H:Hp}{Q:VK}{ta tb tc:TE}{D:Ends}
theorem ziz {p:Addr}{bs:List Bool}(h:SqL K H p (bs.map V.bl))(q:Q (.bl (bs.all id)) H):rAll K [.ref p] H Q:=⟨p,bs,rfl,h,q⟩
theorem i_any {p:Addr}{bs:List Bool}(h:SqL K H p (bs.map V.bl))(q:Q (.bl (bs.any id)) H):rAny K [.ref p] H Q:=⟨p,bs,rfl,h,q⟩
theorem i_max {i j:Int}(q:Q (.int (if j>i then j else i)) H):rMax [.int i,.int j] H Q:=⟨i,j,rfl,q⟩
theorem i_min {i j:Int}(q:Q (.int (if j<i then j else i)) H):rMin [.int i,.int j] H Q:=⟨i,j,rfl,q⟩
theorem zpX (h:ta σ H λx H1=>∃ c,x=.bl c/\if c=true then tb σ H1 Q else Q (.bl false) H1):zpf ta tb σ H Q:=h
theorem i_and {t u:TT}{Q:Bool->Hp->Prop}(h:t σ H λc H1=>if c=true then u σ H1 Q else Q false H1):tAnd t u σ H Q:=h
theorem i_or {t u:TT}{Q:Bool->Hp->Prop}(h:t σ H λc H1=>if c=true then Q true H1 else u σ H1 Q):tOr t u σ H Q:=h
theorem i_not {t:TT}{Q:Bool->Hp->Prop}(h:t σ H λc H1=>Q (!c) H1):tNot t σ H Q:=h
theorem zgP {x:V}{t:Value}{c:String}{b:Bool}(ty:TyOf K H x t)(e:PySem.W.kitOne K t (.type c)=some b)(q:Q (.bl b) H) :
  rIsi K [x,.ty c] H Q:=⟨x,c,t,b,rfl,ty,e,q⟩
theorem i_for {wi:TI}{g:TG}{tb:TS}(h:wi σ H λJ H1=>zna J g tb D σ H1):tFor wi g tb D σ H:=h
theorem zpY {ms:List Bool}{wi:TI}{g:TG}{tt:TT}{te:TE}(h:wi σ H λJ H1=>ziy J g tt te (zcv ms σ) H1 Q):zkB ms wi g tt te σ H Q:=h
theorem zoG {tl:TE}{R:It->Hp->Prop}(h:tl σ H λx H1=>∃ a,x=.ref a/\(∃ xs,SqL K H1 a xs)/\R (Itl K a) H1):zog K tl σ H R:=h
theorem zpZ {tl:TE}{R:It->Hp->Prop}(h:tl σ H λx H1=>∃ a,x=.ref a/\(∃ xs,SqT K H1 a xs)/\R (Itt K a) H1):iTup K tl σ H R:=h
theorem i_zip {t:TA}{R:It->Hp->Prop}(h:t σ H λvs H1=>∃ a b,vs=[.ref a,.ref b]/\(∃ xs,SqL K H1 a xs)/\(∃ ys,SqL K H1 b ys)/\R (Itz K a b) H1):iZip K t σ H R:=h
theorem zp0 {t:TA}{R:It->Hp->Prop}(h:t σ H λvs H1=>∃ j:Int,vs=[.int j]/\-(2 ^ 62)<=j/\j<2 ^ 62/\R (Itr 0 j.toNat) H1):zoi t σ H R:=h
theorem zch {P:Int->Prop}{j:Int}(h1:-(2 ^ 62)<=j)(h2:j<2 ^ 62)(h:P j):∃ k:Int,[V.int j]=[.int k]/\-(2 ^ 62)<=k/\k<2 ^ 62/\P k:=⟨j,rfl,h1,h2,h⟩
theorem i_sl {r:V->Option Int->Option Int->Hp->VK->Prop}{tl th:TO}(h:ta σ H λx H1=>tl σ H1 λl H2=>th σ H2 λu H3=>r x l u H3 Q):tSl r ta tl th σ H Q:=h
theorem znd {Q:Option Int->Hp->Prop}(h:Q none H):zlu σ H Q:=h
theorem zp1 {Q:Option Int->Hp->Prop}(h:ta σ H λx H1=>∃ i,x=.int i/\Q (some i) H1):zpq ta σ H Q:=h
theorem zoH {P:Int->Prop}{i:Int}(h:P i):∃ j,V.int i=.int j/\P j:=⟨i,rfl,h⟩
theorem i_par {i j:Nat}{t:TA}(h:t σ H λvs H1=>∃ v w,vs=[v,w]/\D.nx ((σ.set i (some v)).set j (some w)) H1):tPar i j t D σ H:=h
theorem zp2 {P:V->V->Prop}{v w:V}(h:P v w):∃ v' w',[v,w]=[v',w']/\P v' w':=⟨v,w,rfl,h⟩
theorem zp3 {to ti:TE}{t:TSet}{v:V}{Q:St->Hp->Prop}(h:to σ H λo H1=>ti σ H1 λi H2=>t o i v H2 λH3=>Q σ H3):gSub to ti t v σ H Q:=h
theorem zj6 {a:Addr}{xs:List V}{k:Int}{j:Nat}{v:V}{Q:Hp->Prop}(h:H a=some (.lst xs))(e:ixN xs.length k=some j)(q:Q (upd H a (.lst (xs.set j v)))):zpw (.ref a) (.int k) v H Q:=⟨a,xs,k,j,rfl,rfl,h,e,q⟩
theorem zhK {a:Addr}{ys:List V}(h:SqL K H a ys\/SqT K H a ys)(q:∀ l,H l=none->Q (.ref l) (upd H l (.lst ys))) :
  zjs K [.ref a] H Q:=⟨a,ys,rfl,h,q⟩
end
section
variable {X:Cx}{k:Nat}{pos:Pos}
theorem zaF (K:Fg)(hK:X.K=K:=by rfl):OpR X (binaryOp .Add) (zlP K):=by subst hK;exact zoB
theorem k_eq (K:Fg)(hr:Room k X.A)(hK:X.K=K:=by rfl):OpR X (compareOp .Eq) (rEqA K):=by subst hK;exact zpN hr
theorem k_ne (K:Fg)(hr:Room k X.A)(hK:X.K=K:=by rfl):OpR X (compareOp .NotEq) (rNeA K):=by subst hK;exact zpO hr
theorem k_in (K:Fg)(hK:X.K=K:=by rfl):OpR X (compareOp .In) (rIn K false):=by subst hK;exact zlx
theorem k_ix (K:Fg)(hK:X.K=K:=by rfl):IxR X (rIx K):=by subst hK;exact zpv
def rSl (K:Fg):V->Option Int->Option Int->Hp->VK->Prop:=λx lo hi H Q=>rSlL K x lo hi H Q\/rSlT K x lo hi H Q
theorem k_sl (K:Fg)(hK:X.K=K:=by rfl):SlR X (rSl K):=by subst hK;exact zot.or zpr
theorem zdV (K:Fg)(hK:X.K=K:=by rfl):zbC X (.builtin "len") (rLen K):=by subst hK;exact c_len
theorem zlS (K:Fg)(hK:X.K=K:=by rfl):zbC X (.type "list") (zjs K):=by subst hK;exact zpP
theorem zoI (K:Fg)(hK:X.K=K:=by rfl):zbC X (.type "tuple") (zlR K):=by subst hK;exact zoC
theorem zne (K:Fg)(hK:X.K=K:=by rfl):zbC X (.builtin "isinstance") (rIsi K):=by subst hK;exact c_isi
theorem ziA (K:Fg)(hc:X.calm=true)(hK:X.K=K:=by rfl):zbC X (.builtin "all") (rAll K):=by subst hK;exact c_all hc
theorem zp4 (K:Fg)(hc:X.calm=true)(hK:X.K=K:=by rfl):zbC X (.builtin "any") (rAny K):=by subst hK;exact c_any hc
theorem zaT (K:Fg){tg l:Expr}{tl:TE}(hl:PE X l tl)(hK:X.K=K:=by rfl):PI X tg l (zog K tl):=by subst hK;exact zoh hl
theorem zhi (K:Fg){tg l:Expr}{tl:TE}(hl:PE X l tl)(hK:X.K=K:=by rfl):PI X tg l (iTup K tl):=by subst hK;exact zpj hl
theorem zlT (K:Fg){elts:List Expr}{kx:Nat}{tpos:Pos}{a b:Expr}{ta:TA}{p:Pos}(hg:Gl X "zip")(hm:X.mg "zip"=none)(ha:PA X [a,b] ta)(hK:X.K=K:=by rfl)(hs:starEach [a,b] X.env=[(false,eval a X.env),(false,eval b X.env)]:=by rfl)(hs2:starEach [b] X.env=[(false,eval b X.env)]:=by rfl) :
  PI X (.Tuple elts kx tpos) (.Call (.Name "zip" p) [a,b] [] pos) (iZip K ta):=by subst hK;exact zpK hg hm ha hs hs2
theorem zlU (K:Fg){es:List Expr}{kk:Nat}{t:TGs}{n:Nat}(hc:X.calm=true)(h:PGs X es t)(hK:X.K=K:=by rfl)(hn:(assignEach es X.env).length=n:=by rfl)(hst:(assignEach es X.env).findIdx? (·.1)=none:=by rfl) :
  PG X (.Tuple es kk pos) (gTup K n t):=by subst hK;exact zph hc h hn hst
theorem zaU (K:Fg){e:Expr}{f:Str}{ta:TE}(he:PE X e ta)(hb:attributeBase e f X.env (eval e X.env)=eval e X.env)(hK:X.K=K:=by rfl):PE X (.Attribute e f pos) (tFld K ta f):=by subst hK;exact zpn he hb
end
theorem zdW {n:Nat}{f:Nat->D}{i:Nat}{d:D}(h:((List.range n).map f)[i]?=some d):d=f i:=by
 rw[zgm] at h
 obtain⟨j,hj,rfl⟩:=zme.mp h
 have hl:=(zge.mp hj).1
 rw[List.length_range] at hl
 have hi:i<n:=hl
 rw[List.getElem?_range hi] at hj
 cases hj;rfl
theorem za1 {X:Cx}{x:Str}{i:Int}{pos:Pos}(hg:Gl X x)(hm:∃ t,X.mg x=some (.int i t))(hd:(x == ("__debug__" : Str))=false:=by decide):PE X (.Name x pos) (tC (.int i)):=by
 obtain⟨t,hm⟩:=hm
 exact zk7 hg hm ⟨t,rfl⟩ hd
theorem iteNT {A B:Prop}(h:B):if (!true)=true then A else B:=iteF h
theorem iteNF {A B:Prop}(h:A):if (!false)=true then A else B:=iteT h
theorem zal {n:Nat}(h:n<=1000):n<=sizeLine:=Nat.le_of_lt (zbl h)
theorem sl {n:Nat}(h:Nat.ble n 1000=true):n<=sizeLine:=zal (Nat.le_of_ble_eq_true h)
theorem i_bm {K:Fg}{σ:St}{H:Hp}{Q:VK}{T:String}{r:V->List V->Hp->VK->Prop}{to:TE}{t:TA}(h:to σ H λx H1=>tyV K T x H1/\t σ H1 λxs H2=>r x xs H2 Q):tBM K T r to t σ H Q:=h
theorem tyL {K:Fg}{H:Hp}{a:Addr}{xs:List V}(h:H a=some (.lst xs)):tyV K "list" (.ref a) H:=.inl ⟨rfl,_,SqL.of h⟩
theorem zlV {H:Hp}{Q:VK}{a:Addr}{xs:List V}{y:V}(h:H a=some (.lst xs))(z:xs.length<sizeLine)(q:Q .non (upd H a (.lst (xs++[y])))):zly (.ref a) [y] H Q:=⟨a,xs,y,rfl,rfl,h,z,q⟩
theorem zah.bls_eq {H:Hp} : ∀ {bs:List Bool}{vs:List V}{fp:List Addr},zah H (bs.map D.bl) vs fp->vs=bs.map V.bl/\fp=[]
 | [],_,_,h=>by unfold List.map zah at h;exact h
 | n::ns,_,_,h=>by
  rw[zmc] at h
  unfold zah at h
  obtain⟨v,r,f,g,rfl,rfl,h1,h2⟩:=h
  unfold RepF at h1
  obtain⟨rfl,rfl⟩:=h1
  obtain⟨rfl,rfl⟩:=zah.bls_eq h2
  exact⟨rfl,rfl⟩
theorem New.bls {H H':Hp}{bs:List Bool}{v:V}(h:New H H' (.lst (bs.map D.bl)) v):∃ a,v=.ref a/\H a=none/\H' a=some (.lst (bs.map V.bl)):=by
 obtain⟨fp,h1,h2,h3⟩:=h
 unfold RepF at h1
 obtain⟨a,xs,r,e1,e2,e3,e4⟩:=h1
 obtain⟨rfl,rfl⟩:=zah.bls_eq e4
 subst e2
 exact⟨a,e1,h3 a List.mem_cons_self,e3⟩
theorem New.lso {H H':Hp}{ds:List D}{v:V}(h:New H H' (.lst ds) v):∃ a vs fp,v=.ref a/\H a=none/\H' a=some (.lst vs)/\zah H' ds vs fp/\fp.Nodup/\a∉fp/\∀ b∈fp,H b=none:=by
 obtain⟨fp,h1,h2,h3⟩:=h
 unfold RepF at h1
 obtain⟨a,xs,r,e1,e2,e3,e4⟩:=h1
 subst e2
 exact⟨a,xs,r,e1,h3 a List.mem_cons_self,e3,e4,(List.nodup_cons.mp h2).2,(List.nodup_cons.mp h2).1,λb m=>h3 b (List.mem_cons_of_mem _ m)⟩
theorem zhL {lo:Int}{n:Nat}{g:TG}{tb:TS}{D:Ends}{σ:St}{H:Hp}(Pv:Nat->St->Hp->Prop)(h0:Pv 0 σ H)
  (hs:∀ i σ H,i<n->Pv i σ H->g (.int (lo+i)) σ H λσ2 H2=>tb {D with nx:=Pv (i+1),ct:=Pv (i+1),bk:=D.nx} σ2 H2) (hd:∀ σ H,Pv n σ H->D.nx σ H):zna (Itr lo n) g tb D σ H:=zld Pv h0 hs hd
theorem zeB {K:Fg}{a:Addr}{xs:List V}{g:TG}{tb:TS}{D:Ends}{σ:St}{H:Hp}(Pv:Nat->St->Hp->Prop)(h0:Pv 0 σ H)(hl:∀ i σ H,i<=xs.length->Pv i σ H->SqL K H a xs)
  (hs:∀ i x σ H,xs[i]?=some x->Pv i σ H->g x σ H λσ2 H2=>tb {D with nx:=Pv (i+1),ct:=Pv (i+1),bk:=D.nx} σ2 H2) (hd:∀ σ H,Pv xs.length σ H->D.nx σ H):zna (Itl K a) g tb D σ H:=zmS Pv h0 hl hs hd
theorem zeC {n:Nat} : ∀ {ds:List D},(∀ d∈ds,dep d<=n)->deps ds<=n
 | [],_=>by unfold deps;exact Nat.zero_le _
 | d::ds,h=>by
  unfold deps
  exact Nat.max_le.mpr ⟨h d List.mem_cons_self,zeC λe he=>h e (List.mem_cons_of_mem _ he)⟩
theorem zdX (ls:List (List Int)):dep (.lst (ls.map nums))<=2:=by
 unfold dep
 refine Nat.succ_le_succ (zeC λd hd=>?_)
 obtain⟨l,_,rfl⟩:=zmm.mp hd
 exact zeO l
theorem boot_len:bootBuiltins "len"=some (.builtin "len"):=PySem.boot_len
theorem zcx:bootBuiltins "list"=some (.type "list"):=by decide +kernel
theorem zkD:bootBuiltins "tuple"=some (.type "tuple"):=by decide +kernel
theorem znf:bootBuiltins "int"=some (.type "int"):=by decide +kernel
theorem zaG:bootBuiltins "isinstance"=some (.builtin "isinstance"):=by decide +kernel
theorem zcP:bootBuiltins "all"=some (.builtin "all"):=by decide +kernel
theorem zj7:bootBuiltins "any"=some (.builtin "any"):=by decide +kernel
theorem zng:bootBuiltins "max"=some (.builtin "max"):=by decide +kernel
theorem znh:bootBuiltins "min"=some (.builtin "min"):=by decide +kernel
theorem zfP {K:Fg}{t:Value} : PySem.W.kitOne K t t=some true:=by unfold PySem.W.kitOne;simp
end L2

namespace L2
open PySem PySem.Spec PyProof.Rows
structure Mkr (P:Program)(w:World)(K:Fg)(mg:Str->Option Value)(base:Heap)(x:Str)(C:Addr)(ps:List Str)(k:Nat)(sp:Sp):Prop where
 ex:∃ f fd,Mk K C f/\FnOk P w K mg base CX0 k f fd ps sp/\zdQ K fd ps []/\mg x=some (.ref C)
section
variable {X:Cx}{k j:Nat}{C:Addr}{ps:List Str}{sp:Sp}{x:Str}{p pos:Pos}{e:Expr}{es:List Expr}{t:TA}
theorem zoJ (G:Mkr X.prog X.w X.K X.mg X.base x C ps j sp)(hr:Room k X.A)(hg:Gl X x)(ha:PA X (e::es) t)(hj:j+1<=k:=by decide)(hdb:(x == ("__debug__" : Str))=false:=by decide)
  (he:starEach (e::es) X.env=(false,eval e X.env)::starEach es X.env:=by rfl) (hpl:(backTo pos (starEach es X.env)).any (·.1)=false:=by rfl):PE X (.Call (.Name x p) (e::es) [] pos) (zlp C sp [] E0 t):=by
 obtain⟨f,fd,M,F,hb,hm⟩:=G.ex
 exact zoq M F (hr.mono hj) hg hm hb .nil zff ha hdb he hpl
theorem zp5 {σ:St}{H:Hp}{Q:VK}(h:t σ H λvs H1=>∀ y dx,H1 y=none->H1 dx=none->dx≠y->sp (.ref y::vs) (upd (upd H1 dx (.own y)) y (.ins C dx [])) (λv H2=>v=.non/\Q (.ref y) H2) E0):zlp C sp [] E0 t σ H Q:=by
 have e:(λ(vs:List V) (H1:Hp)=>∀ y dx,H1 y=none->H1 dx=none->dx≠y->sp (.ref y::(vs++[])) (upd (upd H1 dx (.own y)) y (.ins C dx [])) (λv H2=>v=.non/\Q (.ref y) H2) E0)
   = λvs H1=>∀ y dx,H1 y=none->H1 dx=none->dx≠y->sp (.ref y::vs) (upd (upd H1 dx (.own y)) y (.ins C dx [])) (λv H2=>v=.non/\Q (.ref y) H2) E0:=by funext vs H1;rw[List.append_nil]
 show t σ H λvs H1=>∀ y dx,H1 y=none->H1 dx=none->dx≠y->sp (.ref y::(vs++[])) (upd (upd H1 dx (.own y)) y (.ins C dx [])) (λv H2=>v=.non/\Q (.ref y) H2) E0
 rw[e];exact h
end
section
variable {K:Fg}{σ:St}{H:Hp}{Q:VK}{ta tv:TE}{D:Ends}{f:Str}
theorem i_fld (h:ta σ H λx H1=>FldI K f x H1 Q):tFld K ta f σ H Q:=h
theorem zp6 (h:tv σ H λy H1=>ta σ H1 λx H2=>FldS K f y x H2 (D.nx σ)):sFld K ta tv f D σ H:=h
end
theorem zoK {r r':R2}{σ:St}{H:Hp}{Q:VK}{ta tb tc:TE}(h:ta σ H λx H1=>tb σ H1 λy H2=>r x y H2 λz H3=>∃ k,z=.bl k/\if k=true then tc σ H3 λw H4=>r' y w H4 Q else Q (.bl false) H3):znP r r' ta tb tc σ H Q:=h
theorem zah.nil {H:Hp} : zah H [] [] []:=by unfold zah;exact⟨rfl,rfl⟩
theorem zah.cint {H:Hp}{i:Int}{ds:List D}{xs:List V}{fp:List Addr}(h:zah H ds xs fp):zah H (.int i::ds) (.int i::xs) fp:=by
 unfold zah;exact⟨_,_,[],fp,rfl,rfl,by unfold RepF;exact⟨rfl,rfl⟩,h⟩
theorem zah.cstr {H:Hp}{i:Str}{ds:List D}{xs:List V}{fp:List Addr}(h:zah H ds xs fp):zah H (.str i::ds) (.str i::xs) fp:=by
 unfold zah;exact⟨_,_,[],fp,rfl,rfl,by unfold RepF;exact⟨rfl,rfl⟩,h⟩
theorem zah.cany {H:Hp}{d:D}{v:V}{f:List Addr}{ds:List D}{xs:List V}{fp:List Addr}(q:RepF H d v f)(h:zah H ds xs fp):zah H (d::ds) (v::xs) (f++fp):=by
 unfold zah;exact⟨_,_,f,fp,rfl,rfl,q,h⟩
theorem RepF.line {H:Hp}{a:Addr}{ns:List Int}(h:H a=some (.lst (ns.map V.int))):RepF H (nums ns) (.ref a) [a]:=by
 unfold RepF;exact⟨a,_,[],rfl,rfl,h,zah.ints⟩
theorem RepF.pair {H:Hp}{t:Addr}{i j:Int}(h:H t=some (.tup [.int i,.int j])):RepF H (.tup [.int i,.int j]) (.ref t) []:=by
 unfold RepF;exact⟨t,_,rfl,h,zah.nil.cint.cint⟩
theorem zah.lines {H:Hp} : ∀ {ls:List (List Int)}{vs:List V}{fp:List Addr},zah H (ls.map nums) vs fp->vs=fp.map V.ref/\fp.length=ls.length/\∀ (i:Nat) (a:Addr),fp[i]?=some a->∃ l,ls[i]?=some l/\H a=some (.lst (l.map V.int))
 | [],_,_,h=>by
  rw[List.map_nil] at h;unfold zah at h
  obtain⟨rfl,rfl⟩:=h
  exact⟨rfl,rfl,λi a e=>by simp at e⟩
 | l::ls,_,_,h=>by
  rw[zmc] at h;unfold zah at h
  obtain⟨v,r,f,g,rfl,rfl,h1,h2⟩:=h
  obtain⟨rfl,e2,e3⟩:=zah.lines h2
  unfold RepF at h1
  obtain⟨a,xs,r,rfl,rfl,e4,e5⟩:=h1
  obtain⟨rfl,rfl⟩:=zah.ints_eq e5
  refine⟨rfl,by simp[e2],λi b e=>?_⟩
  cases i with
  | zero=>simp at e;subst e;exact⟨l,rfl,e4⟩
  | succ i=>exact e3 i b (by simpa using e)
theorem zfz {K:Fg} : PySem.W.kitOne K (.type "int") (.type "list")=some false:=by rfl
theorem zfA {K:Fg} : PySem.W.kitOne K (.type "str") (.type "list")=some false:=by rfl
theorem zel {K:Fg} : PySem.W.kitOne K (.type "tuple") (.type "list")=some false:=by rfl
theorem zni {K:Fg}{H:Hp}{Q:VK}{a:Addr}{ys:List V}(h:SqL K H a ys)(q:∀ l,H l=none->Q (.ref l) (upd H l (.tup ys))):zlR K [.ref a] H Q:=⟨a,ys,rfl,.inl ⟨h,q⟩⟩
theorem i_in {K:Fg}{H:Hp}{Q:VK}{neg:Bool}{x:V}{a:Addr}{xs:List V}(h:SqL K H a xs\/SqT K H a xs)(f1:zdR x=true)(f2:xs.all zdR=true)(q:Q (.bl (if neg then !inV x xs else inV x xs)) H):rIn K neg x (.ref a) H Q:=⟨a,xs,rfl,h,f1,f2,q⟩
theorem zbu {X:Cx}{x:Str}{a:Addr}{pos:Pos}(hg:Gl X x)(hm:X.mg x=some (.ref a))(hd:(x == ("__debug__" : Str))=false:=by decide):PE X (.Name x pos) (tC (.ref a)):=zk7 hg hm rfl hd
def News (H H':Hp)(ds:List D)(vs:List V):Prop:=∃ fp,zah H' ds vs fp/\fp.Nodup/\∀ a∈fp,H a=none
theorem News.nil {H H':Hp} : News H H' [] []:=⟨[],zah.nil,List.nodup_nil,λ_ m=>by cases m⟩
theorem News.same {H H1 H2:Hp}{ds:List D}{vs:List V}(e:Same H1 H2)(h:News H H1 ds vs):News H H2 ds vs:=by
 obtain⟨fp,h1,h2,h3⟩:=h
 refine⟨fp,zah.frame e.tups ds (λa m=>?_) h1,h2,h3⟩
 obtain⟨o,ho⟩:=zah.has ds h1 a m
 rw[ho,e a o ho]
theorem News.snoc {H H1 H2:Hp}{ds:List D}{vs:List V}{d:D}{v:V}(h:News H H1 ds vs)(e:Same H H1)(e2:Same H1 H2)(n:New H1 H2 d v):News H H2 (ds++[d]) (vs++[v]):=by
 obtain⟨fp,h1,h2,h3⟩:=h
 obtain⟨fq,g1,g2,g3⟩:=n
 have keep:∀ a∈fp,H2 a=H1 a:=λa m=>by
  obtain⟨o,ho⟩:=zah.has ds h1 a m
  rw[ho,e2 a o ho]
 refine⟨fp++fq,(zah.frame e2.tups ds keep h1).snoc g1,List.nodup_append.mpr ⟨h2,g2,λa ha b hb z=>?_⟩,λa m=>?_⟩
 ·subst z
  obtain⟨o,ho⟩:=zah.has ds h1 a ha
  have:=g3 a hb
  rw[ho] at this;cases this
 ·rcases zma.mp m with m | m
  ·exact h3 a m
  ·exact e.free (g3 a m)
theorem News.lst {H H1:Hp}{ds:List D}{vs:List V}{a:Addr}(h:News H H1 ds vs)(e:Same H H1)(ha:H1 a=none):New H (upd H1 a (.lst vs)) (.lst ds) (.ref a):=by
 obtain⟨fp,h1,h2,h3⟩:=h
 have s:=zag ha (.lst vs)
 refine New.lst (zah.frame s.tups ds (λb m=>?_) h1) h2 h3 (e.free ha) (λm=>?_) zad
 ·obtain⟨o,ho⟩:=zah.has ds h1 b m
  rw[ho,s b o ho]
 ·obtain⟨o,ho⟩:=zah.has ds h1 a m
  rw[ha] at ho;cases ho
theorem New.news {H H':Hp}{ds:List D}{v:V}(h:New H H' (.lst ds) v):∃ a vs,v=.ref a/\H a=none/\H' a=some (.lst vs)/\News H H' ds vs:=by
 obtain⟨a,vs,fp,e1,e2,e3,e4,e5,_,e6⟩:=New.lso h
 exact⟨a,vs,e1,e2,e3,fp,e4,e5,e6⟩
end L2

namespace L2
open PySem PySem.Spec PyProof.Rows
def seqO:HO->Bool
 | .lst _=>true
 | .tup _=>true
 | .frz _ _=>true
 | _=>false
def Sq (H H':Hp):Prop:=∀ b o,H b=some o->seqO o=true->H' b=some o
theorem Same.sq {H H':Hp}(e:Same H H'):Sq H H':=λb o h _=>e b o h
theorem Sq.trans {H H1 H2:Hp}(a:Sq H H1)(b:Sq H1 H2):Sq H H2:=λc o h q=>b c o (a c o h q) q
theorem zgh {H:Hp}{p:Addr}{o u:HO}(h:H p=some u)(n:seqO u=false):Sq H (upd H p o):=λb w e q=>by
 rw[zam (λz=>by rw[z,h] at e;cases e;rw[n] at q;cases q)];exact e
theorem Sq.tups {H H':Hp}(e:Sq H H'):Tups H H':=λ_ _ h=>e _ _ h rfl
theorem Sq.lst {K:Fg}{H H':Hp}{a:Addr}{xs:List V}(e:Sq H H')(h:SqL K H a xs):SqL K H' a xs:=by
 rcases h with (h | ⟨o,h⟩) | h
 ·exact .inl (.inl (e _ _ h rfl))
 ·exact .inl (.inr ⟨o,e _ _ h rfl⟩)
 ·exact .inr h
theorem Sq.tup {K:Fg}{H H':Hp}{a:Addr}{xs:List V}(e:Sq H H')(h:SqT K H a xs):SqT K H' a xs:=by
 rcases h with (h | ⟨o,h⟩) | h
 ·exact .inl (.inl (e _ _ h rfl))
 ·exact .inl (.inr ⟨o,e _ _ h rfl⟩)
 ·exact .inr h
mutual
theorem Rep.sq {K:Fg}{H H':Hp}(e:Sq H H'):∀ (d:D) {v:V},Rep K H d v->Rep K H' d v
 | .non,_,h=>by unfold Rep at *;exact h
 | .bl _,_,h=>by unfold Rep at *;exact h
 | .int _,_,h=>by unfold Rep at *;exact h
 | .str _,_,h=>by unfold Rep at *;exact h
 | .lst ds,_,h=>by
  unfold Rep at *
  obtain⟨a,xs,h1,h2,h3⟩:=h
  exact⟨a,xs,h1,e.lst h2,Reps.sq e ds h3⟩
 | .tup ds,_,h=>by
  unfold Rep at *
  obtain⟨a,xs,h1,h2,h3⟩:=h
  exact⟨a,xs,h1,e.tup h2,Reps.sq e ds h3⟩
theorem Reps.sq {K:Fg}{H H':Hp}(e:Sq H H'):∀ (ds:List D) {vs:List V},Reps K H ds vs->Reps K H' ds vs
 | [],_,h=>by unfold Reps at *;exact h
 | d::ds,_,h=>by
  unfold Reps at *
  obtain⟨v,r,h1,h2,h3⟩:=h
  exact⟨v,r,h1,Rep.sq e d h2,Reps.sq e ds h3⟩
end
mutual
theorem RepF.sq {H H':Hp}(e:Sq H H'):∀ (d:D) {v:V}{fp:List Addr},RepF H d v fp->RepF H' d v fp
 | .non,_,_,h=>by unfold RepF at *;exact h
 | .bl _,_,_,h=>by unfold RepF at *;exact h
 | .int _,_,_,h=>by unfold RepF at *;exact h
 | .str _,_,_,h=>by unfold RepF at *;exact h
 | .lst ds,_,_,h=>by
  unfold RepF at *
  obtain⟨a,xs,r,h1,h0,h2,h3⟩:=h
  exact⟨a,xs,r,h1,h0,e _ _ h2 rfl,zah.sq e ds h3⟩
 | .tup ds,_,_,h=>by
  unfold RepF at *
  obtain⟨a,xs,h1,h2,h3⟩:=h
  exact⟨a,xs,h1,e _ _ h2 rfl,zah.sq e ds h3⟩
theorem zah.sq {H H':Hp}(e:Sq H H'):∀ (ds:List D) {vs:List V}{fp:List Addr},zah H ds vs fp->zah H' ds vs fp
 | [],_,_,h=>by unfold zah at *;exact h
 | d::ds,_,_,h=>by
  unfold zah at *
  obtain⟨v,r,f,g,h1,h0,h2,h3⟩:=h
  exact⟨v,r,f,g,h1,h0,RepF.sq e d h2,zah.sq e ds h3⟩
end
def Free (H H':Hp):Prop:=∀ a,H' a=none->H a=none
theorem Same.fr {H H':Hp}(e:Same H H'):Free H H':=λ_ h=>e.free h
theorem Free.trans {H H1 H2:Hp}(a:Free H H1)(b:Free H1 H2):Free H H2:=λc h=>a c (b c h)
theorem zeP {H:Hp}{p:Addr}{o:HO} : Free H (upd H p o):=λa h=>by
 by_cases e:a=p
 ·subst e;rw[zad] at h;cases h
 ·rw[zam e] at h;exact h
theorem News.sq {H H1 H2:Hp}{ds:List D}{vs:List V}(e:Sq H1 H2)(h:News H H1 ds vs):News H H2 ds vs:=by
 obtain⟨fp,h1,h2,h3⟩:=h
 exact⟨fp,zah.sq e ds h1,h2,h3⟩
theorem New.sq {H H1 H2:Hp}{d:D}{v:V}(e:Sq H1 H2)(h:New H H1 d v):New H H2 d v:=by
 obtain⟨fp,h1,h2,h3⟩:=h
 exact⟨fp,RepF.sq e d h1,h2,h3⟩
theorem News.snoc' {H H1 H2:Hp}{ds:List D}{vs:List V}{d:D}{v:V}(h:News H H1 ds vs)(e:Free H H1)(e2:Same H1 H2)(n:New H1 H2 d v):News H H2 (ds++[d]) (vs++[v]):=by
 obtain⟨fp,h1,h2,h3⟩:=h
 obtain⟨fq,g1,g2,g3⟩:=n
 refine⟨fp++fq,(zah.sq e2.sq ds h1).snoc g1,List.nodup_append.mpr ⟨h2,g2,λa ha b hb z=>?_⟩,λa m=>?_⟩
 ·subst z
  obtain⟨o,ho⟩:=zah.has ds h1 a ha
  have:=g3 a hb
  rw[ho] at this;cases this
 ·rcases zma.mp m with m | m
  ·exact h3 a m
  ·exact e a (g3 a m)
def Part (H:Hp)(d:D)(x:V):Prop:=(∃ i,d=.int i/\x=.int i)\/(∃ s,d=.str s/\x=.str s)\/(∃ b l,d=nums l/\x=.ref b/\H b=some (.lst (l.map V.int)))\/∃ b i j,d=.tup [.int i,.int j]/\x=.ref b/\H b=some (.tup [.int i,.int j])
def zc0 (H:Hp)(d:D)(v:V):Prop:=∃ t xs ds,d=.tup ds/\v=.ref t/\H t=some (.tup xs)/\ds.length=xs.length/\ds.length<=8/\∀ (i:Nat) dd x,ds[i]?=some dd->xs[i]?=some x->Part H dd x
theorem Part.sq {H H':Hp}(e:Sq H H'){d:D}{x:V}(h:Part H d x):Part H' d x:=by
 rcases h with h | h | ⟨b,l,h1,h2,h3⟩ | ⟨b,i,j,h1,h2,h3⟩
 ·exact .inl h
 ·exact .inr (.inl h)
 ·exact .inr (.inr (.inl ⟨b,l,h1,h2,e _ _ h3 rfl⟩))
 ·exact .inr (.inr (.inr ⟨b,i,j,h1,h2,e _ _ h3 rfl⟩))
theorem zc0.sq {H H':Hp}(e:Sq H H'){d:D}{v:V}(h:zc0 H d v):zc0 H' d v:=by
 obtain⟨t,xs,ds,h1,h2,h3,h4,h5,h6⟩:=h
 exact⟨t,xs,ds,h1,h2,e _ _ h3 rfl,h4,h5,λi dd x e1 e2=>(h6 i dd x e1 e2).sq e⟩
def ziB (d:D):Prop:=(∃ i,d=.int i)\/(∃ s,d=.str s)\/(∃ l,l.length=9/\d=nums l)\/∃ i j,d=.tup [.int i,.int j]
theorem zoL {H:Hp}{d:D}{v:V}{fp:List Addr}(s:ziB d)(h:RepF H d v fp):Part H d v:=by
 rcases s with ⟨i,rfl⟩ | ⟨i,rfl⟩ | ⟨l,_,rfl⟩ | ⟨i,j,rfl⟩
 ·unfold RepF at h;exact .inl ⟨i,rfl,h.1⟩
 ·unfold RepF at h;exact .inr (.inl ⟨i,rfl,h.1⟩)
 ·unfold RepF at h
  obtain⟨a,xs,r,h1,_,h2,h3⟩:=h
  obtain⟨rfl,_⟩:=zah.ints_eq h3
  exact .inr (.inr (.inl ⟨a,l,rfl,h1,h2⟩))
 ·unfold RepF at h
  obtain⟨a,xs,h1,h2,h3⟩:=h
  have q:=zah.ints_eq (ns:=[i,j]) h3
  rw[q.1] at h2
  exact .inr (.inr (.inr ⟨a,i,j,rfl,h1,h2⟩))
theorem zj8 {H:Hp} : ∀ {ds:List D}{xs:List V}{fp:List Addr},(∀ d∈ds,ziB d)->zah H ds xs fp->∀ (i:Nat) dd x,ds[i]?=some dd->xs[i]?=some x->Part H dd x
 | [],_,_,_,_,i,dd,x,e,_=>by simp at e
 | d::ds,_,_,s,h,i,dd,x,e1,e2=>by
  unfold zah at h
  obtain⟨v,r,f,g,rfl,_,h1,h2⟩:=h
  cases i with
  | zero=>simp at e1 e2;subst e1;subst e2;exact zoL (s d List.mem_cons_self) h1
  | succ i=>exact zj8 (λc hc=>s c (List.mem_cons_of_mem _ hc)) h2 i dd x (by simpa using e1) (by simpa using e2)
def Deed (d:D):Prop:=∃ ds,d=.tup ds/\ds.length<=8/\∀ c∈ds,ziB c
theorem zlW {H:Hp}{d:D}{v:V}{fp:List Addr}(s:Deed d)(h:RepF H d v fp):zc0 H d v:=by
 obtain⟨ds,rfl,h8,hs⟩:=s
 unfold RepF at h
 obtain⟨a,xs,h1,h2,h3⟩:=h
 exact⟨a,xs,ds,rfl,h1,h2,h3.length,h8,zj8 hs h3⟩
def Acc (H:Hp)(da:Addr)(H2:Hp)(ds:List D)(vs:List V):Prop:=∃ fp,H2 da=some (.lst vs)/\zah H2 ds vs fp/\fp.Nodup/\da∉fp/\∀ b∈fp,H b=none
theorem Acc.new {H H2:Hp}{da:Addr}{ds:List D}{vs:List V}(a:Acc H da H2 ds vs)(h:H da=none):New H H2 (.lst ds) (.ref da):=by
 obtain⟨fp,h1,h2,h3,h4,h5⟩:=a
 exact New.lst h2 h3 h5 h h4 h1
def is9 (H:Hp)(b:Addr):Prop:=∃ l:List Int,l.length=9/\H b=some (.lst (l.map V.int))
structure Mt (S:Addr->Prop)(Hs H:Hp):Prop where
 off:∀ b o,¬ S b->Hs b=some o->H b=some o
 on:∀ b,S b->is9 H b
theorem Mt.set {S:Addr->Prop}{Hs H:Hp}(m:Mt S Hs H){b:Addr}(hb:S b){l:List Int}(hl:l.length=9)(x:Int):Mt S Hs (upd H b (.lst ((l.map V.int).set 0 (.int x)))) where
 off:=λc o hc e=>by rw[zam (λz=>hc (by rw[z];exact hb))];exact m.off c o hc e
 on:=λc hc=>by
  by_cases e:c=b
  ·subst e
   refine⟨l.set 0 x,by rw[List.length_set];exact hl,?_⟩
   rw[zad,List.map_set]
  ·obtain⟨l',h1,h2⟩:=m.on c hc
   exact⟨l',h1,by rw[zam e];exact h2⟩
theorem znj {H:Hp}{b:Addr}{xs:List V}(h:H b=some (.tup xs)):¬ is9 H b:=λ⟨l,_,e⟩=>by rw[h] at e;cases e
theorem zeQ {H:Hp}{b:Addr}{xs:List V}(h:H b=some (.lst xs))(hx:∀ x∈xs,∀ i,x≠.int i):¬ is9 H b:=λ⟨l,hl,e⟩=>by
 rw[h] at e
 cases e
 cases l with
 | nil=>simp at hl
 | cons i r=>exact hx (.int i) (by simp) i rfl
theorem Mt.tups {S:Addr->Prop}{Hs H:Hp}(m:Mt S Hs H)(h:∀ b,S b->is9 Hs b):Tups Hs H:=λb xs e=>m.off b _ (λhs=>znj e (h b hs)) e
theorem zj9 {H:Hp} : ∀ {ds:List D}{xs:List V}{fp:List Addr},(∀ d∈ds,ziB d)->zah H ds xs fp->∀ x∈xs,(∃ i,x=.int i)\/(∃ s,x=.str s)\/(∃ b,x=.ref b/\is9 H b/\b∈fp)\/∃ b ys,x=.ref b/\H b=some (.tup ys)
 | [],_,_,_,h,x,m=>by unfold zah at h;rw[h.1] at m;cases m
 | d::ds,_,_,s,h,x,m=>by
  unfold zah at h
  obtain⟨v,r,f,g,rfl,rfl,h1,h2⟩:=h
  rcases List.mem_cons.mp m with m | m
  ·subst m
   rcases s d List.mem_cons_self with ⟨i,rfl⟩ | ⟨i,rfl⟩ | ⟨l,hl,rfl⟩ | ⟨i,j,rfl⟩
   ·unfold RepF at h1;exact .inl ⟨i,h1.1⟩
   ·unfold RepF at h1;exact .inr (.inl ⟨i,h1.1⟩)
   ·unfold RepF at h1
    obtain⟨a,ys,r',e1,e2,e3,e4⟩:=h1
    obtain⟨rfl,_⟩:=zah.ints_eq e4
    exact .inr (.inr (.inl ⟨a,e1,⟨l,hl,e3⟩,by rw[e2];simp⟩))
   ·unfold RepF at h1
    obtain⟨a,ys,e1,e2,e3⟩:=h1
    exact .inr (.inr (.inr ⟨a,ys,e1,e2⟩))
  ·rcases zj9 (λc hc=>s c (List.mem_cons_of_mem _ hc)) h2 x m with z | z | ⟨b,z1,z2,z3⟩ | z
   ·exact .inl z
   ·exact .inr (.inl z)
   ·exact .inr (.inr (.inl ⟨b,z1,z2,List.mem_append_right _ z3⟩))
   ·exact .inr (.inr (.inr z))
theorem zfi {H:Hp}{ls:List (List Int)}{vs:List V}{fp:List Addr}(h9:∀ l∈ls,l.length=9)(h:zah H (ls.map nums) vs fp):∀ x∈vs,∃ b,x=.ref b/\is9 H b/\b∈fp:=λx m=>by
 obtain⟨rfl,hl,hg⟩:=zah.lines h
 obtain⟨b,hb,rfl⟩:=zmm.mp m
 obtain⟨i,hi,rfl⟩:=List.getElem_of_mem hb
 obtain⟨l,e1,e2⟩:=hg i fp[i] (by simp)
 exact⟨_,rfl,⟨l,h9 l (zmg e1),e2⟩,List.getElem_mem hi⟩
theorem is9.cons {H:Hp}{b:Addr}(h:is9 H b):∃ (x:Int) (r:List Int),r.length=8/\H b=some (.lst ((x::r).map V.int)):=by
 obtain⟨l,hl,e⟩:=h
 cases l with
 | nil=>simp at hl
 | cons x r=>exact⟨x,r,by simpa using hl,e⟩
theorem is9.same {H H':Hp}{b:Addr}(s:Same H H')(h:is9 H b):is9 H' b:=by
 obtain⟨l,hl,e⟩:=h
 exact⟨l,hl,s _ _ e⟩
theorem zn0 {H:Hp}{d1 d2 d3 d4:D}{vs:List V}{fp:List Addr}(h:zah H [d1,d2,d3,d4] vs fp):∃ x1 x2 x3 x4 f1 f2 f3 f4,vs=[x1,x2,x3,x4]/\RepF H d1 x1 f1/\RepF H d2 x2 f2/\RepF H d3 x3 f3/\RepF H d4 x4 f4:=by
 unfold zah at h
 obtain⟨x1,_,f1,_,rfl,_,h1,h⟩:=h
 unfold zah at h
 obtain⟨x2,_,f2,_,rfl,_,h2,h⟩:=h
 unfold zah at h
 obtain⟨x3,_,f3,_,rfl,_,h3,h⟩:=h
 unfold zah at h
 obtain⟨x4,_,f4,_,rfl,_,h4,h⟩:=h
 unfold zah at h
 obtain⟨rfl,_⟩:=h
 exact⟨x1,x2,x3,x4,f1,f2,f3,f4,rfl,h1,h2,h3,h4⟩
theorem RepF.lso {H:Hp}{ds:List D}{x:V}{fp:List Addr}(h:RepF H (.lst ds) x fp):∃ b xs r,x=.ref b/\H b=some (.lst xs)/\zah H ds xs r:=by
 unfold RepF at h
 obtain⟨b,xs,r,e1,_,e3,e4⟩:=h
 exact⟨b,xs,r,e1,e3,e4⟩
theorem zkE {d:D}(s:ziB d):dep d<=1:=by
 rcases s with ⟨i,rfl⟩ | ⟨i,rfl⟩ | ⟨l,_,rfl⟩ | ⟨i,j,rfl⟩
 ·unfold dep;omega
 ·unfold dep;omega
 ·exact zeO l
 ·unfold dep deps dep deps dep deps;decide
theorem znk {d:D}(s:Deed d):dep d<=2:=by
 obtain⟨ds,rfl,_,h⟩:=s
 unfold dep
 exact Nat.succ_le_succ (zeC λc hc=>zkE (h c hc))
theorem zah.item {H:Hp} : ∀ {ds:List D}{xs:List V}{fp:List Addr},zah H ds xs fp->∀ (i:Nat) d x,ds[i]?=some d->xs[i]?=some x->∃ f,RepF H d x f
 | [],_,_,_,i,d,x,e,_=>by simp at e
 | c::ds,_,_,h,i,d,x,e1,e2=>by
  unfold zah at h
  obtain⟨v,r,f,g,rfl,_,h1,h2⟩:=h
  cases i with
  | zero=>simp at e1 e2;subst e1;subst e2;exact⟨f,h1⟩
  | succ i=>exact zah.item h2 i d x (by simpa using e1) (by simpa using e2)
theorem zc9 {b:Bool}{X Y:Prop}(h1:b=true->X)(h2:b=false->Y):∃ c,V.bl b=.bl c/\(if c=true then X else Y):=by
 cases b with
 | true=>exact⟨true,rfl,iteT (h1 rfl)⟩
 | false=>exact⟨false,rfl,iteF (h2 rfl)⟩
theorem zei {b:Bool}{X Y:Prop}(h1:b=true->X)(h2:b=false->Y):(if b=true then X else Y):=by
 cases b with
 | true=>exact iteT (h1 rfl)
 | false=>exact iteF (h2 rfl)
theorem zp7 {K:Fg}{H:Hp}{Q:VK}{a b:Addr}{xs ys:List V}(h1:SqT K H a xs)(h2:SqT K H b ys)(nx:xs≠[])(ny:ys≠[])(z:xs.length+ys.length<=sizeLine)(q:∀ p,H p=none->Q (.ref p) (upd H p (.tup (xs++ys)))):zlP K (.ref a) (.ref b) H Q:=
 .inr (.inr ⟨a,b,xs,ys,rfl,rfl,h1,h2,nx,z,λe=>absurd e ny,λ_=>q⟩)
theorem zdY {K:Fg}{H:Hp}{ds:List D}{v:V}(h:Rep K H (.tup ds) v):∃ a xs,v=.ref a/\SqT K H a xs/\Reps K H ds xs:=by unfold Rep at h;exact h
end L2

namespace L2
open PySem PySem.Spec PyProof.Rows PySem.W
theorem zbD.has {P:Program}{w:World}{H:Hp}{h:Heap}{a:Addr}{o:HO}(x:zbD P w H h a o):∃ u,h.get? a=some u:=by
 cases o with
 | lst xs=>obtain⟨_,_,_,_,e⟩:=x;exact⟨_,e⟩
 | tup xs=>obtain⟨_,_,_,_,e,_⟩:=x;exact⟨_,e⟩
 | dK kvs=>obtain⟨_,_,_,_,o,_,_,e,_⟩:=x;exact⟨_,e⟩
 | dT kvs=>obtain⟨_,_,_,_,o,_,_,e,_⟩:=x;exact⟨_,e⟩
 | set S n=>obtain⟨o,_,_,_,e,_⟩:=x;exact⟨_,e⟩
 | ins C dx fs=>obtain⟨_,_,_,e,_⟩:=x;exact⟨_,e⟩
 | own y=>obtain⟨_,e⟩:=x;exact⟨_,e⟩
 | xd fs=>obtain⟨_,⟨_,_,_,e,_⟩,_⟩:=x;exact⟨_,e⟩
 | rng lo hi=>obtain⟨_,_,_,e⟩:=x;exact⟨_,e⟩
 | frz ob u=>obtain⟨e,_⟩:=x;exact⟨_,e⟩
 | tbl ps=>exact⟨_,show h.get? a=some _ from x⟩
 | met f y=>exact⟨_,show h.get? a=some _ from x⟩
 | ext φ=>obtain⟨_,⟨_,e⟩,_⟩:=x;exact⟨_,e⟩
def NoC (o:Obj):Prop:=∃ fs,o.data=.fields fs/\fs[2]?=some .none
theorem NoC.ncls {o:Obj}(h:NoC o):∀ v,o.data≠.cls v:=λv z=>by
 obtain⟨fs,e,_⟩:=h
 rw[e] at z;cases z
def ziC (h:Heap)(e T:Addr)(cls fl:Value):Prop:=∃ oe vs oT ts,h.get? e=some oe/\oe.cls=cls/\oe.dict=none/\oe.data=.fields vs/\vs[1]?=some (.ref T)/\T≠e/\h.get? T=some oT/\oT.data=.fields ts/\ts[3]?=some fl/\vs[2]?=some .none
def zgi (fr as:List Addr)(h h':Heap):Prop:=(∀ b o,h.get? b=some o->b∉fr->b∉as->h'.get? b=some o)/\∀ b o,h.get? b=some o->b∈fr->b∉as->∃ sl,h'.get? b=some {o with slots:=sl}
theorem zgi.up {fr as:List Addr}{h h':Heap}(k:zgi fr as h h'){b:Addr}{o:Obj}(e:h.get? b=some o)(n:b∉as):∃ sl,h'.get? b=some {o with slots:=sl}:=by
 by_cases m:b∈fr
 ·exact k.2 b o e m n
 ·exact⟨o.slots,k.1 b o e m n⟩
section
variable {M:Model}{A:Around}{E:Value->Shared->Prop}{s:Shared}
theorem ziD {base:Heap}{env:Env}{outer:List Env}{L e:Addr}{oe:Obj}{vs:Array Value}{head:Value}{hadNext:Bool}{Q:Unit->Shared->Prop}(hfr:A.frames=some (env::outer))(hl:s.heap.FunFrames base (env::outer))(hf:env.frame=some L)
  (he:s.heap.get? e=some oe) (hd:oe.data=.fields vs) (hsz:1<vs.size) (hdi:oe.dict=none) (h2:vs[2]?=some .none)
  (h:∀ h' T,s.heap.get? T=none->ziC h' e T oe.cls (rawInt L)->zgi (frs (env::outer)) [e] s.heap h'->Q () {s with heap:=h'}) :
  wpAny M A (do let a <-frameOf env;let pl <-entryPlaceOf L hadNext;let b <-EntryCells.newEntry head a .none (rawInt L) .none pl;setField (.ref e) 1 b) Q E s:=by
 have hene:e∉(env::outer).filterMap (·.frame):=λhm=>by
  obtain⟨_,o,ho,hnf⟩:=hl.mem hm
  rw[he] at ho;injection ho with ho;subst ho;exact hnf vs hd
 refine wpAny_bind (wpAny_frameOf_fun hfr hl hf λh₁ hs₁=>?_)
 refine wpAny_bind (wpAny_entryPlaceOf λpl hpl=>?_)
 unfold EntryCells.newEntry newFields
 refine wpAny_bind (wpAny_newObj_type ?_ (hpl.sizeOk5 _ _ _ _ _))
 have he₁:h₁.get? e=some oe:=(hs₁.2.1 e hene).trans he
 have he₂:=Heap.get?_push_of_some (h:=h₁) {cls:=.type "traceback",dict:=none,data:=.fields ([head,.ref L,.none,rawInt L,.none]++(if pl.isEmpty then List.replicate 6 Value.none else pl)).toArray} he₁
 refine wpAny_setField he₂ hd hsz (h _ h₁.objs.size (Heap.get?_none_of_le (by rw[hs₁.1];exact Nat.le_refl _)) ?_ ?_)
 ·have hTe:h₁.objs.size≠e:=Nat.ne_of_gt (Heap.lt_size he₁)
  have hd₃:=Obj.data_mapFields hd (·.setIfInBounds 1 (Value.ref h₁.objs.size))
  have he₃:=Heap.get?_update_self (Obj.mapFields (·.setIfInBounds 1 (Value.ref h₁.objs.size))) he₂ (Obj.isFreed_of_fields hd₃)
  have hT₃:=(Heap.get?_update_other (h₁.push {cls:=.type "traceback",dict:=none,data:=.fields ([head,.ref L,.none,rawInt L,.none]++(if pl.isEmpty then List.replicate 6 Value.none else pl)).toArray})
   (Obj.mapFields (·.setIfInBounds 1 (Value.ref h₁.objs.size))) (Ne.symm hTe)).trans (Heap.get?_push_size h₁ rfl)
  refine⟨_,_,_,_,he₃,Obj.cls_mapFields _ _,?_,hd₃,by simp[hsz],hTe,hT₃,rfl,by first | (simp;done) | (rcases hpl with rfl | ⟨_,_,_,_,_,_,_,rfl⟩ <;> simp),by simp[Array.getElem?_setIfInBounds,h2]⟩
  obtain⟨c,di,dt,sl⟩:=oe
  cases hd
  exact hdi
 ·have keep:∀ b o,b≠e->h₁.get? b=some o->((h₁.push {cls:=.type "traceback",dict:=none,data:=.fields ([head,.ref L,.none,rawInt L,.none]++(if pl.isEmpty then List.replicate 6 Value.none else pl)).toArray}).update e (Obj.mapFields (·.setIfInBounds 1 (Value.ref h₁.objs.size)))).get? b=some o:=λb o hbe hb=>by
   rw[Heap.get?_update_other _ _ (Ne.symm hbe)]
   exact Heap.get?_push_of_some _ hb
  refine⟨λb o eb n1 n2=>keep b o (λz=>n2 (by simp[z])) ((hs₁.2.1 b n1).trans eb),λb o eb m n=>?_⟩
  obtain⟨sl,hsl⟩:=hs₁.2.2 b o eb
  exact⟨sl,keep b _ (λz=>n (by simp[z])) hsl⟩
theorem zfQ {fr:List Addr}{e T:Addr}{cls fl:Value}{Q:Unit->Shared->Prop}(F:ziC s.heap e T cls fl)(h:∀ h',ziC h' e T cls .none->zgi fr [T] s.heap h'->Q () {s with heap:=h'}):wpAny M A (setFlight (.ref e) none) Q E s:=by
 obtain⟨oe,vs,oT,ts,he,hcls,hdi,hd,h1,hTe,hT,hdT,h3,h2⟩:=F
 have hsz3:3<ts.size:=(Array.getElem?_eq_some_iff.mp h3).1
 have other:∀ b,b≠T->(s.heap.update T (Obj.mapFields (·.setIfInBounds 3 ((none:Option Addr).elim Value.none λf=>rawInt f)))).get? b=s.heap.get? b:=λb hb=>Heap.get?_update_other _ _ (Ne.symm hb)
 unfold setFlight
 refine wpAny_bind (wpAny_field he hd h1 ?_)
 rw[if_pos (show (Value.ref T != Value.none)=true from by simp)]
 refine wpAny_setField hT hdT hsz3 (h _ ?_ ⟨λb o e n1 n2=>(other b (λz=>n2 (by simp[z]))).trans e,λb o e m n=>⟨o.slots,(other b (λz=>n (by simp[z]))).trans e⟩⟩)
 exact⟨oe,vs,_,_,(other e (Ne.symm hTe)).trans he,hcls,hdi,hd,h1,hTe,Heap.get?_update_self _ hT (Obj.isFreed_of_fields (Obj.data_mapFields hdT _)),Obj.data_mapFields hdT _,by simp[hsz3],h2⟩
theorem zka {base:Heap}{env:Env}{outer:List Env}{L e T:Addr}{cls:Value}{Q:Unit->Shared->Prop}(hfr:A.frames=some (env::outer))(hl:s.heap.FunFrames base (env::outer))(hf:env.frame=some L)(F:ziC s.heap e T cls .none)
  (h:∀ h' T',s.heap.get? T'=none->ziC h' e T' cls (rawInt L)->zgi (frs (env::outer)) [e,T] s.heap h'->Q () {s with heap:=h'}):wpAny M A (noteFrame (.ref e) env) Q E s:=by
 obtain⟨oe,vs,oT,ts,he,hcls,hdi,hd,h1,hTe,hT,hdT,h3,h2⟩:=F
 subst hcls
 have hsz3:3<ts.size:=(Array.getElem?_eq_some_iff.mp h3).1
 have other:∀ b,b≠T->(s.heap.update T (Obj.mapFields (·.setIfInBounds 3 Value.none))).get? b=s.heap.get? b:=λb hb=>Heap.get?_update_other _ _ (Ne.symm hb)
 have noRecord:∀ b o,s.heap.get? b=some o->(∀ vs,o.data≠.fields vs)->b≠T:=λb o hb hnf q=>by
  rw[q,hT] at hb;injection hb with hb;subst hb;exact hnf ts hdT
 unfold noteFrame
 simp only[hf]
 refine wpAny_bind (wpAny_field he hd h1 ?_)
 rw[if_pos (show (Value.ref T != Value.none)=true from by simp)]
 refine wpAny_bind (wpAny_field hT hdT h3 ?_)
 rw[if_neg (show ¬ ((Value.none == rawInt L)=true) from by simp[rawInt])]
 refine wpAny_bind (wpAny_setField hT hdT hsz3 ?_)
 refine ziD hfr (hl.of_keeps λb o hb hnf=>⟨o,(other b (noRecord b o hb hnf)).trans hb,rfl⟩) hf ((other e (Ne.symm hTe)).trans he) hd (Array.getElem?_eq_some_iff.mp h1).1 hdi h2 λh' T' n F' k=>?_
 have nT':s.heap.get? T'=none:=by
  by_cases z:T'=T
  ·subst z
   rw[Heap.get?_update_self _ hT (Obj.isFreed_of_fields (Obj.data_mapFields hdT _))] at n
   cases n
  ·rw[<-other T' z];exact n
 refine h h' T' nT' F' ⟨λb o eb n1 n2=>k.1 b o ((other b (λz=>n2 (by simp[z]))).trans eb) n1 (λz=>n2 (by simp at z;simp[z])),λb o eb m n2=>k.2 b o ((other b (λz=>n2 (by simp[z]))).trans eb) m (λz=>n2 (by simp at z;simp[z]))⟩
end
def Fly (h0 h:Heap)(H:Hp)(e:Addr)(cls:Value):Prop:=∃ T,ziC h e T cls .none/\H e=none/\H T=none/\h0.get? e=none/\h0.get? T=none
def CX1 (P:Program)(w:World):CXT:=λouter H s E e s'=>∃ a C H',e=.ref a/\s'.os=s.os/\AllBare s'.gens/\Un (frs outer) [] H H' s.heap s'.heap/\HOk P w H' s'.heap/\Fly s.heap s'.heap H' a C/\E C none H'
section
variable {P:Program}{w:World}{K:Fg}{mg:Str->Option Value}{base:Heap}{N:List Str}{qual:Str}{scope:Scope}{f:Addr}{cd:Value}{A:Around}{outer:List Env}{s:Shared}{H:Hp}{E:XK}
theorem zkb {X:Cx}{pins:List (Addr × Obj)}{σ:St}{H2:Hp}{s2:Shared}(I:Inv X pins σ H2 s2)(hex:X.ex=[]){b:Addr}(n:s2.heap.get? b=none):X.s₀.heap.get? b=none:=by
 cases z:X.s₀.heap.get? b with
 | none=>rfl
 | some o=>
  obtain⟨u,hu⟩:=I.base.there b o z (by rw[hex];simp)
  rw[n] at hu;cases hu
theorem zp8 {X:Cx}{pins:List (Addr × Obj)}{σ:St}{H2:Hp}{s2:Shared}(I:Inv X pins σ H2 s2){b:Addr}(n:s2.heap.get? b=none):H2 b=none:=by
 cases z:H2 b with
 | none=>rfl
 | some o=>
  obtain⟨u,hu⟩:=(I.hok b o z).has
  rw[n] at hu;cases hu
theorem zlX {pins:List (Addr × Obj)}{σ:St}{H2:Hp}{s2:Shared}{h':Heap}{as:List Addr}{a T:Addr}{C:Value}(I:Inv (cxOf (CX1 P w) P w K mg base N qual scope f cd A outer s H E) pins σ H2 s2)(hx:H2 a=none)(hx0:s.heap.get? a=none)(has:∀ b∈as,H2 b=none/\s.heap.get? b=none)
  (nT:s2.heap.get? T=none) (F:ziC h' a T C .none) (L:zgi (frs (cxOf (CX1 P w) P w K mg base N qual scope f cd A outer s H E).stack) as s2.heap h') (q:E C none H2):CX1 P w outer H s E (.ref a) {s2 with heap:=h'}:=by
 have fr:∀ b,b∈frs (cxOf (CX1 P w) P w K mg base N qual scope f cd A outer s H E).stack->b=s.heap.objs.size\/b∈frs outer:=λb hb=>by
  obtain⟨ev,he,hf⟩:=List.mem_filterMap.mp hb
  rcases List.mem_cons.mp he with z | z
  ·subst z;exact .inl (Option.some.inj hf).symm
  ·exact .inr (List.mem_filterMap.mpr ⟨ev,z,hf⟩)
 have nsz:s.heap.get? s.heap.objs.size=none:=Heap.get?_none_of_le (Nat.le_refl _)
 have hidden:∀ b,s.heap.get? b≠none->b∉as:=λb n m=>n (has b m).2
 refine⟨a,C,H2,rfl,I.os,I.bare,⟨λb o e n nf _=>?_,λb o e n nf _=>?_,λb o e n _=>I.base.free b o e n (by intro m;cases m),λb o e _=>?_,I.base.tups,I.base.frzs,I.base.tbls⟩,λb u e=>?_,⟨T,F,hx,zp8 I nT,hx0,zkb I rfl nT⟩,q⟩
 ·refine L.1 b o (I.base.keep b o e n nf (by intro m;cases m)) (λm=>?_) (hidden b (by rw[e];simp))
  rcases fr b m with z | z
  ·subst z;rw[nsz] at e;cases e
  ·exact nf z
 ·obtain⟨sl,e'⟩:=I.base.slot b o e n nf (by intro m;cases m)
  obtain⟨sl2,e2⟩:=L.up e' (hidden b (by rw[e];simp))
  exact⟨sl2,e2⟩
 ·obtain⟨o2,h2⟩:=I.base.there b o e (by intro m;cases m)
  obtain⟨sl,e5⟩:=L.up h2 (hidden b (by rw[e];simp))
  exact⟨_,e5⟩
 ·refine (I.hok b u e).stay (λc v hc q=>L.1 c v q (λm=>?_) (λm=>?_)) (λ_ q=>q) λ_ _ q=>q
  ·have:=I.stkFree c m
   rcases hc with z | z
   ·subst z;rw[e] at this;cases this
   ·rw[z] at this;cases this
  ·have:=(has c m).1
   rcases hc with z | z
   ·subst z;rw[e] at this;cases this
   ·rw[z] at this;cases this
theorem znl {pins:List (Addr × Obj)}{σ:St}{H2:Hp}{s2:Shared}{a:Addr}{C:Value}(I:Inv (cxOf (CX1 P w) P w K mg base N qual scope f cd A outer s H E) pins σ H2 s2)(F:Fly s.heap s2.heap H2 a C)(q:E C none H2):(cxOf (CX1 P w) P w K mg base N qual scope f cd A outer s H E).xe (.ref a) s2:=by
 obtain⟨T,F,hx,hT,hx0,hT0⟩:=F
 show wpAny _ _ (leaving _ _) _ _ _
 unfold leaving
 refine wpAny_bind (zka (outer:=outer) I.ok.frames I.stack rfl F λh1 T1 n1 F1 k1=>?_)
 refine zfQ (fr:=frs (cxOf (CX1 P w) P w K mg base N qual scope f cd A outer s H E).stack) F1 λh2 F2 k2=>?_
 refine zlX (s2:=s2) (h':=h2) (as:=[a,T]) I hx hx0 (λb m=>?_) n1 F2 ⟨λb o e m n=>k2.1 b o (k1.1 b o e m n) m (λz=>by rw[zms.mp z,n1] at e;cases e),λb o e m n=>?_⟩ q
 ·rcases List.mem_cons.mp m with z | z
  ·subst z;exact⟨hx,hx0⟩
  ·rw[zms.mp z];exact⟨hT,hT0⟩
 ·obtain⟨sl,e1⟩:=k1.2 b o e m n
  obtain⟨sl2,e2⟩:=k2.up e1 (λz=>by rw[zms.mp z,n1] at e;cases e)
  exact⟨sl2,e2⟩
theorem pass1 {pins:List (Addr × Obj)}{σ:St}{H2:Hp}{s2:Shared}{e:Value}{s3:Shared}(I:Inv (cxOf (CX1 P w) P w K mg base N qual scope f cd A outer s H E) pins σ H2 s2)(h:CX1 P w (cxOf (CX1 P w) P w K mg base N qual scope f cd A outer s H E).stack H2 s2 E e s3):(cxOf (CX1 P w) P w K mg base N qual scope f cd A outer s H E).xe e s3:=by
 obtain⟨a,C,H3,rfl,os,bare,un,hok,⟨T,F,hx,hT,hx0,hT0⟩,q⟩:=h
 exact znl (I.call' os un hok bare (λb z=>absurd z (by simp))) ⟨T,F,hx,hT,zkb I rfl hx0,zkb I rfl hT0⟩ q
theorem zgj:zcM (CX1 P w) (cxOf (CX1 P w) P w K mg base N qual scope f cd A outer s H E) E:=λ_ _ _ _ _ _ I h=>pass1 I h
theorem zlY {pins:List (Addr × Obj)}{σ:St}{H2:Hp}{s2:Shared}{h3:Heap}{a:Addr}{C:Value}{args:List Value}(I:Inv (cxOf (CX1 P w) P w K mg base N qual scope f cd A outer s H E) pins σ H2 s2)(M:Heap.MadeExcOf s2.heap h3 a C args)(q:E C none H2):(cxOf (CX1 P w) P w K mg base N qual scope f cd A outer s H E).xe (.ref a) {s2 with heap:=h3}:=by
 obtain⟨t,he,htn,ht⟩:=M.there
 have I3:Inv (cxOf (CX1 P w) P w K mg base N qual scope f cd A outer s H E) pins σ H2 {s2 with heap:=h3}:=I.un (h':=h3) (t':=s2.toks) (Un.kept M.keeps) (I.hok.kept M.keeps)
 have hx:=zp8 I M.new
 have hx0:s.heap.get? a=none:=zkb I rfl M.new
 show wpAny _ _ (leaving _ _) _ _ _
 unfold leaving noteFrame
 show wpAny _ _ ((do let head <-field (.ref a) 1;_) >>= _) _ _ _
 refine wpAny_bind (wpAny_bind (wpAny_field he rfl (x:=.none) rfl ?_))
 rw[if_neg (by decide)]
 refine ziD (outer:=outer) I3.ok.frames I3.stack rfl he rfl (by simp) rfl rfl λh1 T1 n1 F1 k1=>?_
 refine zfQ (fr:=frs (cxOf (CX1 P w) P w K mg base N qual scope f cd A outer s H E).stack) F1 λh2 F2 k2=>?_
 have n1':h3.get? T1=none:=n1
 refine zlX (s2:={s2 with heap:=h3}) (h':=h2) (as:=[a]) I3 hx hx0 (λb m=>by rw[zms.mp m];exact⟨hx,hx0⟩) n1' F2 ⟨λb o e m n=>k2.1 b o (k1.1 b o e m n) m (λz=>by rw[zms.mp z] at e;rw[show h3.get? T1=some o from e] at n1';cases n1'),λb o e m n=>?_⟩ q
 obtain⟨sl,e1⟩:=k1.2 b o e m n
 obtain⟨sl2,e2⟩:=k2.up e1 (λz=>by rw[zms.mp z] at e;rw[show h3.get? T1=some o from e] at n1';cases n1')
 exact⟨sl2,e2⟩
end
end L2

namespace L2
open PySem PySem.Spec PyProof.Rows PySem.W
structure Err (K:Fg)(C:Addr)(anc:List Value):Prop where
 ob:∃ nm q N bs hdct sn sub ab col dd k0 k1 k2 k3 k5,K.lookup C=some (excClassObj nm q C N bs anc hdct sn sub ab col dd k0 k1 k2 k3 k5 "ValueError.__new__")
 ex:excIn K C za8 "ValueError.__new__"=true
theorem Err.obj {K:Fg}{C:Addr}{anc:List Value}{h:Heap}(X:K.In h)(e:Err K C anc):∃ nm q N bs hdct sn sub ab col dd k0 k1 k2 k3 k5 mN,h.get? C=some (excClassObj nm q C N bs anc hdct sn sub ab col dd k0 k1 k2 k3 k5 "ValueError.__new__")/\h.Ns N mN/\mN "__init__"=none/\OwnTail h za8 anc:=by
 obtain⟨⟨nm,q,N,bs,hdct,sn,sub,ab,col,dd,k0,k1,k2,k3,k5,l⟩,x⟩:=e
 unfold excIn at x
 rw[l] at x
 simp only[Bool.and_eq_true,beq_iff_eq,Bool.not_eq_true'] at x
 obtain⟨⟨⟨_,ht⟩,hok⟩,hni⟩:=x
 exact⟨nm,q,N,bs,hdct,sn,sub,ab,col,dd,k0,k1,k2,k3,k5,_,X _ _ l,.of_isNs (isNs_of_in X hok),nsMap_none_of_in X hok hni,tail_of_in X ht⟩
def zn1 (X:Cx)(E:XK):Prop:=∀ (pins:List (Addr × Obj)) (σ:St) (H:Hp) (s:Shared) (h':Heap) (a:Addr) (C:Value) (args:List Value),Inv X pins σ H s->Heap.MadeExcOf s.heap h' a C args->E C none H->X.xe (.ref a) {s with heap:=h'}
theorem zhM {P:Program}{w:World}{K:Fg}{mg:Str->Option Value}{base:Heap}{N:List Str}{qual:Str}{scope:Scope}{f:Addr}{cd:Value}{A:Around}{outer:List Env}{s:Shared}{H:Hp}{E:XK} :
  zn1 (cxOf (CX1 P w) P w K mg base N qual scope f cd A outer s H E) E:=λ_ _ _ _ _ _ _ _ I M q=>zlY I M q
def zn2 (C:Value)(E:XK)(t:TA):TS:=λ_ σ H=>t σ H λvs H1=>vs.length<=sizeLine/\E C none H1
section
variable {X:Cx}{x:Str}{np cpos pos:Pos}{e0:Expr}{rest:List Expr}{C:Addr}{anc:List Value}{E:XK}{t:TA}
theorem zfR (c:Err X.K C anc)(hg:Gl X x)(hm:X.mg x=some (.ref C))(hc:X.calm=true)(ht:zn1 X E)(ha:PA X (e0::rest) t)(he:starEach (e0::rest) X.env=(false,eval e0 X.env)::starEach rest X.env:=by rfl)
  (hpl:(backTo cpos (starEach rest X.env)).any (·.1)=false:=by rfl) (hd:(x == ("__debug__" : Str))=false:=by decide):PS X (.Raise (some (.Call (.Name x np) (e0::rest) [] cpos)) none pos) (zn2 (.ref C) E t):=by
 intro pins s σ H D I h
 obtain⟨nm,q,N,bs,hdct,sn,sub,ab,col,dd,k0,k1,k2,k3,k5,mN,hC,hN,hni,T⟩:=c.obj I.ok.mod.kin
 refine wpAny_Raise_call_subT (C:=C) (nm:=nm) (q:=q) (N:=N) (bs:=bs) (bm:=anc) (hdct:=hdct) (sn:=sn) (sub:=sub) (ab:=ab) (col:=col) (dd:=dd) (k0:=k0) (k1:=k1) (k2:=k2) (k3:=k3) (k5:=k5)
  PySem.F.excBase_ValueError (mN:=mN) (T.hasType PySem.F.excBase_ValueError.hasBase) (I.ok.hd hc) (by rw[he];show (false || (backTo cpos (starEach rest X.env)).any (·.1))=false;rw[hpl];rfl) hni (zew I hg hm ⟨rfl,?_⟩ hd)
 have h2:=ha cpos pins s σ H _ I h
 rw[he] at h2 ⊢
 refine Calls.evalArgs_plain (wpAny_mono h2 (λus s2 h2=>?_) λ_ _ y=>y)
 obtain⟨vs,H1,I1,r,z,q⟩:=h2
 exact⟨rfl,by rw[<-r.length];exact z,I1.bk _ _ hC,hN.keeps I1.bk,T.keeps I1.bk,λh' e M=>ht pins σ H1 s2 h' e _ _ I1 M q⟩
end
section
variable {P:Program}{w:World}{K:Fg}{mg:Str->Option Value}{base:Heap}
theorem Fun.okx {x qual:Str}{st:Stmt}{f:Addr}{fd:FuncData}{N ps:List Str}{k:Nat}{sp:Sp}(F:Fun K x qual st f fd)(S:FSc N ps (zaf st))(len:∀ vs H Q E,sp vs H Q E->vs.length=ps.length)
  (hbody:∀ (cdv:Value) (A:Around) (outer:List Env) (s:Shared) (H:Hp) (vs:List V) (Q:VK) (E:XK),Room k (A.deeper (envOfC qual (zaf st) s.heap.objs.size f cdv))->sp vs H Q E->
   ∃ t,PSs (cxOf (CX1 P w) P w K mg base N qual (zaf st) f cdv A outer s H E) (zbO st) t/\t {nx:=λ_ H'=>Q .non H',rt:=Q} (start N vs) H):FnOk P w K mg base (CX1 P w) (k+1) f fd ps sp:=by
 obtain⟨oc,od,kV,doc,pm,an,cdv,ct,osl,rfl,lk,hcd⟩:=F.ex
 exact zpo lk hcd S len λA outer s H vs Q E hr hsp=>hbody cdv A outer s H vs Q E hr hsp
end
structure Fnx (P:Program)(w:World)(K:Fg)(mg:Str->Option Value)(base:Heap)(x:Str)(ps:List Str)(k:Nat)(sp:Sp):Prop where
 ex:∃ f fd,FnOk P w K mg base (CX1 P w) k f fd ps sp/\zdQ K fd ps []/\PySem.W.keepIn K (.ref f)=true/\mg x=some (.ref f)
structure Mth (CX:CXT)(P:Program)(w:World)(K:Fg)(mg:Str->Option Value)(base:Heap)(C:Addr)(m:Str)(ps:List Str)(k:Nat)(sp:Sp):Prop where
 ex:∃ f fd,Meth K C m f/\FnOk P w K mg base CX k f fd ps sp/\zdQ K fd ps []
section
variable {X:Cx}{CX:CXT}{k j:Nat}{C:Addr}{ps:List Str}{sp:Sp}{E:XK}{x m:Str}{p pos apos:Pos}{e o:Expr}{es:List Expr}{ta:TE}{t:TA}
theorem zp9 (G:Fnx X.prog X.w X.K X.mg X.base x ps j sp)(hr:Room k X.A)(hg:Gl X x)(hx:zcM (CX1 X.prog X.w) X E)(ha:PA X (e::es) t)(hj:j<=k:=by decide)(hdb:(x == ("__debug__" : Str))=false:=by decide)
  (he:starEach (e::es) X.env=(false,eval e X.env)::starEach es X.env:=by rfl) (hpl:(backTo pos (starEach es X.env)).any (·.1)=false:=by rfl):PE X (.Call (.Name x p) (e::es) [] pos) (zik sp [] E t):=by
 obtain⟨f,fd,F,hb,hk,hm⟩:=G.ex
 exact zlr (F.mono hj) hr hg hm hk hb .nil hx ha hdb he hpl
theorem zdF {pl:Sem Bool}(G:Mth CX X.prog X.w X.K X.mg X.base C m ps j sp)(c:Cls X.K C)(hr:Room k X.A)(hx:zcM CX X E)(he:PE X o ta)(ha:PA X (e::es) t)(hj:j<=k:=by decide)
  (hst:starEach (e::es) X.env=(false,eval e X.env)::starEach es X.env:=by rfl) (hpl:(backTo pos (starEach es X.env)).any (·.1)=false:=by rfl)
  (ht:eval (.Call (.Attribute o m apos) (e::es) [] pos) X.env=(do
   let ov <-eval o X.env
   standAt apos.atName
   let (f,first) <-holding [ov] (getMethod ov m pl)
   callWith pos f first (backTo pos (starEach (e::es) X.env)) (backToKw pos (keywordEach [] X.env))):=by rfl) :
  PE X (.Call (.Attribute o m apos) (e::es) [] pos) (zku C m sp [] E ta t):=by
 obtain⟨f,fd,M,F,hb⟩:=G.ex
 exact zop he c M (F.mono hj) hr hb .nil hx ha hst hpl ht
theorem zjt {pl:Sem Bool}(G:Mth CX X.prog X.w X.K X.mg X.base C m ps j sp)(c:Cls X.K C)(hr:Room k X.A)(hx:zcM CX X E)(he:PE X o ta)(hj:j<=k:=by decide)
  (ht:eval (.Call (.Attribute o m apos) [] [] pos) X.env=(do
   let ov <-eval o X.env
   standAt apos.atName
   let (f,first) <-holding [ov] (getMethod ov m pl)
   callWith pos f first (backTo pos (starEach [] X.env)) (backToKw pos (keywordEach [] X.env))):=by rfl) :
  PE X (.Call (.Attribute o m apos) [] [] pos) (zku C m sp [] E ta tNil):=by
 obtain⟨f,fd,M,F,hb⟩:=G.ex
 exact zmX he c M (F.mono hj) hr hb .nil hx ht
end
end L2

namespace L2
open PySem PySem.Spec PyProof.Rows PySem.W
section
variable {M:Model}{A:Around}{E:Value->Shared->Prop}{h:Heap}{g:Array GenState}{d:Drawn}{t:Nat}{os:OsState}
variable {nm q nm' q':Str}{C N D N':Addr}{bs bm bs' bm':List Value}{hdct hdct':Bool}{sn sn':List Str}{sub sub':List Value}{ab ab':Bool}{col col':Option Bool}{dd dd':Option Addr}{k0 k1 k2 k3 k5 l0 l1 l2 l3 l5:Option Value}{newId newId':String}
theorem zgQ {e:Addr}{oe:Obj}{Q:Bool->Shared->Prop}(hC:h.get? C=some (excClassObj nm q C N bs bm hdct sn sub ab col dd k0 k1 k2 k3 k5 newId))(hD:h.get? D=some (excClassObj nm' q' D N' bs' bm' hdct' sn' sub' ab' col' dd' l0 l1 l2 l3 l5 newId'))
  (he:h.get? e=some oe) (hcls:oe.cls=.ref C) (hbase:bm'.contains (.type "BaseException")=true) (hq:Q ((Value.ref C::bm).contains (.ref D)) ⟨h,g,d,t,os⟩):wpAny M A (excMatches (.ref e) (.ref D)) Q E ⟨h,g,d,t,os⟩:=by
 have hcB:(Value.ref D::bm').contains (.type "BaseException")=true:=by rw[List.contains_cons,hbase,Bool.or_true]
 have f:=tc_notTuple
 unfold excMatches
 generalize hb:(Value.ref C::bm).contains (.ref D)=b at hq
 repeat (first | (with_reducible refine wpAny_loadPart_at he ?_;rw[hcls]) | with_reducible refine wpAny_loadPart_at hD ?_ | (with_reducible refine wpAny_isSubtype_exc hD ?_;rw[hcB]) | (with_reducible refine wpAny_isSubtype_exc hC ?_;rw[hb]) | wp_step)
 cases b <;> (wp_walk;exact hq)
end
section
variable {X:Cx}{pins:List (Addr × Obj)}{σ:St}{H:Hp}{s:Shared}
def zkF (X:Cx)(pins:List (Addr × Obj))(H:Hp)(b:Addr):Prop:=H b=none/\X.s₀.heap.get? b=none/\b≠X.env.locals/\(∀ x c,X.env.cells.lookup x=some c->c≠b)/\(∀ p∈X.pn++pins,p.1≠b)
theorem zkc {H1:Hp}{b:Addr}(I:Inv X pins σ H1 s)(hex:X.ex=[])(n:s.heap.get? b=none)(hH:H b=none):zkF X pins H b:=by
 refine⟨hH,?_,λz=>?_,λx c e z=>?_,λp hp z=>?_⟩
 ·cases q:X.s₀.heap.get? b with
  | none=>rfl
  | some o=>
   obtain⟨u,hu⟩:=I.base.there b o q (by rw[hex];simp)
   rw[n] at hu;cases hu
 ·subst z
  obtain⟨m,⟨o,es,ep,ho,_⟩,_⟩:=I.loc
  rw[n] at ho;cases ho
 ·subst z
  obtain⟨v,o,ho,_⟩:=I.cell x c e
  rw[n] at ho;cases ho
 ·have:=(I.pin p hp).1
  rw[z,n] at this;cases this
theorem Inv.shift {h':Heap}{as:List Addr}(I:Inv X pins σ H s)(keep:∀ b o,s.heap.get? b=some o->b∉frs X.stack->b∉as->h'.get? b=some o)(slot:∀ b o,s.heap.get? b=some o->b∈frs X.stack->b∉as->∃ sl,h'.get? b=some {o with slots:=sl})
  (has:∀ b∈as,zkF X pins H b):Inv X pins σ H {s with heap:=h'}:=by
 have up:∀ b o,s.heap.get? b=some o->b∉as->∃ sl,h'.get? b=some {o with slots:=sl}:=λb o e n=>by
  by_cases m:b∈frs X.stack
  ·exact slot b o e m n
  ·exact⟨o.slots,keep b o e m n⟩
 have neL:∀ b o,X.s₀.heap.get? b=some o->b≠X.env.locals:=λb o e=>Nat.ne_of_lt (Nat.lt_of_lt_of_le (Heap.lt_size e) I.ok.above)
 have neA:∀ b o,X.s₀.heap.get? b=some o->b∉as:=λb o e m=>by rw[(has b m).2.1] at e;cases e
 have stk:∀ b,b≠X.env.locals->b∉X.fs->b∉frs X.stack:=λb n1 n m=>(List.mem_cons.mp (I.stkSub b m)).elim n1 n
 have cellK:∀ x c,X.env.cells.lookup x=some c->∀ v,s.heap.IsCell c v->h'.IsCell c v:=λx c e v ⟨o,ho,hd⟩=>by
  obtain⟨sl,q⟩:=up c o ho (λz=>(has c z).2.2.2.1 x c e rfl)
  exact⟨_,q,hd⟩
 refine⟨I.ok,I.os,I.bare,⟨λb o e n hb hx=>?_,λb o e n hb hx=>?_,I.base.free,λb o e hx=>?_,I.base.tups,I.base.frzs,I.base.tbls⟩,?_,λx c e=>?_,I.free,I.freeC,λp hp=>?_,λb u e=>?_,I.len⟩
 ·exact keep b o (I.base.keep b o e n hb hx) (stk b (neL b o e) hb) (neA b o e)
 ·obtain⟨sl,e1⟩:=I.base.slot b o e n hb hx
  obtain⟨sl',e2⟩:=up b _ e1 (neA b o e)
  exact⟨sl',e2⟩
 ·obtain⟨o',e1⟩:=I.base.there b o e hx
  obtain⟨sl,e2⟩:=up b o' e1 (neA b o e)
  exact⟨_,e2⟩
 ·obtain⟨m,⟨o,es,ep,ho,r⟩,hl⟩:=I.loc
  obtain⟨sl,hL⟩:=up _ o ho (λz=>(has _ z).2.2.1 rfl)
  refine⟨m,⟨_,es,ep,hL,r⟩,λi x v e1 e2 e3=>?_⟩
  obtain⟨u,r,l⟩:=hl i x v e1 e2 e3
  refine⟨u,r,?_⟩
  rcases l with l | ⟨l,c,e,z⟩
  ·exact .inl l
  ·exact .inr ⟨l,c,e,cellK x c e _ z⟩
 ·obtain⟨v,z⟩:=I.cell x c e
  exact⟨v,cellK x c e v z⟩
 ·obtain⟨e,n,ne,nf,d⟩:=I.pin p hp
  exact⟨keep _ _ e (stk _ ne nf) (λm=>(has _ m).2.2.2.2 p hp rfl),n,ne,nf,d⟩
 ·refine (I.hok b u e).stay (λc v hc q=>keep c v q (λm=>?_) (λm=>?_)) (λ_ q=>q) λ_ _ q=>q
  ·have:=I.stkFree c m
   rcases hc with z | z
   ·subst z;rw[e] at this;cases this
   ·rw[z] at this;cases this
  ·have:=(has c m).1
   rcases hc with z | z
   ·subst z;rw[e] at this;cases this
   ·rw[z] at this;cases this
end
def XP (X:Cx)(pins:List (Addr × Obj))(σ:St)(E:XK)(e:Value)(s':Shared):Prop:=∃ a C H' s1 H1,e=.ref a/\Inv X pins σ H1 s1/\Inv X pins σ H' s'/\Fly s1.heap s'.heap H' a C/\E C none H'
def PEx (X:Cx)(e:Expr)(t:XK->TE):Prop:=
 ∀ (pins:List (Addr × Obj)) (s:Shared) (σ:St) (H:Hp) (Q:VK) (E:XK),Inv X pins σ H s->t E σ H Q->wpAny (model X.prog X.w) X.A (eval e X.env) (EP X pins σ Q) (XP X pins σ E) s
def PSx (X:Cx)(st:Stmt)(t:XK->TS):Prop:=
 ∀ (pins:List (Addr × Obj)) (s:Shared) (σ:St) (H:Hp) (D:Ends) (E:XK),Inv X pins σ H s->t E D σ H->wpAny (model X.prog X.w) X.A (exec st X.env) (SP X pins D) (XP X pins σ E) s
def PSxs (X:Cx)(st:List Stmt)(t:XK->TS):Prop:=
 ∀ (pins:List (Addr × Obj)) (s:Shared) (σ:St) (H:Hp) (D:Ends) (E:XK),Inv X pins σ H s->t E D σ H->wpAny (model X.prog X.w) X.A (execs st X.env) (SP X pins D) (XP X pins σ E) s
theorem nxm {α:Type}{t:Sem α}{Q Q':α->Shared->Prop}{M:Model}{A:Around}{E:Value->Shared->Prop}{s:Shared}(h:wpAny M A t Q (λ_ _=>False) s)(hQ:∀ a s,Q a s->Q' a s):wpAny M A t Q' E s:=wpAny_mono h hQ λ_ _ x=>x.elim
section
variable {X:Cx}{k j:Nat}{f C:Addr}{fd:FuncData}{ps:List Str}{sp:Sp}{x m:Str}{p pos apos:Pos}{e o:Expr}{es:List Expr}{ta:TE}{t:TA}{E:XK}{pins:List (Addr × Obj)}{σ:St}{H:Hp}{s:Shared}{Q:VK}{us:List Value}{vs:List V}
theorem zoM (F:FnOk X.prog X.w X.K X.mg X.base (CX1 X.prog X.w) k f fd ps sp)(hr:Room k X.A)(hb:zdQ X.K fd ps [])(I:Inv X pins σ H s)(r:Vals vs us)(h:sp vs H Q E) :
  wpAny (model X.prog X.w) X.A (call (.ref f) us) (EP X pins σ Q) (XP X pins σ E) s:=by
 have hl:(us++[]).length=ps.length:=by rw[List.append_nil,<-r.length];exact F.len _ _ _ _ h
 refine wpAny_call (codeAny_mono (F.run X.A X.stack s H ⟨us,[]⟩ us vs Q E hr I.env0 (by have:=hb s us I.kIn hl;rwa [List.append_nil] at this) r h) λr s' hq=>?_)
 cases r with
 | error e=>
  obtain⟨a,C,H3,rfl,os,bare,un,hok,F,q⟩:=hq
  exact⟨a,C,H3,s,H,rfl,I,I.call' os un hok bare (λb z=>absurd z (by simp)),F,q⟩
 | ok fl=>
  cases fl with
  | ret u=>exact I.after hq
  | next=>exact False.elim hq
  | brk=>exact False.elim hq
  | cont=>exact False.elim hq
theorem zhN {pl:Sem Bool}(G:Mth (CX1 X.prog X.w) X.prog X.w X.K X.mg X.base C m ps j sp)(c:Cls X.K C)(hr:Room k X.A)(ho:PE X.nox o ta)(ha:PA X.nox (e::es) t)(hj:j<=k:=by decide)
  (hst:starEach (e::es) X.env=(false,eval e X.env)::starEach es X.env:=by rfl) (hpl:(backTo pos (starEach es X.env)).any (·.1)=false:=by rfl)
  (ht:eval (.Call (.Attribute o m apos) (e::es) [] pos) X.env=(do
   let ov <-eval o X.env
   standAt apos.atName
   let (f,first) <-holding [ov] (getMethod ov m pl)
   callWith pos f first (backTo pos (starEach (e::es) X.env)) (backToKw pos (keywordEach [] X.env))):=by rfl) :
  PEx X (.Call (.Attribute o m apos) (e::es) [] pos) (λE=>zku C m sp [] E ta t):=by
 obtain⟨f,fd,M,F,hb⟩:=G.ex
 intro pins s σ H Q E I h
 refine PySem.W.methodCall_KW (pl:=pl) (nxm (ho pins s σ H _ (I.wish _) h) λu s1 ⟨x,H1,I1,rx,a,dx,fs,ex,ea,l,q⟩=>?_) ht
 subst ex
 obtain rfl:u=Value.ref a:=rx
 refine zed I1.unwish ea c M l ?_
 refine PySem.W.callWith_K (first:=[.ref a]) (h₀:=X.base) I.ok.mod.kin M.kp (nxm (ha pos pins s1 σ H1 _ I1 q) λus s2 ⟨vs,H2,I2,r,q2⟩=>⟨I2.unwish.kIn,?_⟩) hst hpl
 have q':sp (V.ref a::(vs++[])) H2 Q E:=q2
 rw[List.append_nil] at q'
 exact zoM (us:=.ref a::us) (vs:=.ref a::vs) F (hr.mono hj) hb I2.unwish (.cons rfl r) q'
variable {te:XK->TE}{st:Stmt}{tt uu:XK->TS}
theorem zfS (he:PEx X e te)(hs:swapsWith e none pos.line X.env=pure false:=by rfl):PSx X (.Expr e pos) (λE=>zof (te E)):=by
 intro pins s σ H D E I h
 exact wpAny_Expr_any (thn (he pins s σ H _ E I h) λv s1 ⟨x,H1,I1,r1,q1⟩=>⟨σ,H1,I1,q1⟩) I.quiet hs
theorem zlZ {c:Expr}{a b:List Stmt}{tc:TT}(hc:PT X.nox c tc)(ha:PSxs X a tt)(hb:PSxs X b uu):PSx X (.If c a b pos) (λE=>tIfS tc (tt E) (uu E)):=by
 intro pins s σ H D E I h
 refine wpAny_If (nxm (hc pins s σ H _ (I.wish _) h) λd s1 ⟨H1,I1,q1⟩=>?_)
 cases d with
 | true=>exact ha pins s1 σ H1 D E I1.unwish q1
 | false=>exact hb pins s1 σ H1 D E I1.unwish q1
theorem zds (h1:PSx X st tt):PSxs X [st] tt:=by
 intro pins s σ H D E I h
 refine wpAny_execs_cons (thn (h1 pins s σ H D E I h) λf s1 q=>?_)
 cases f with
 | next=>exact wpAny_execs_nil q
 | ret v=>exact q
 | brk=>exact q
 | cont=>exact q
end
end L2

namespace L2
open PySem PySem.Spec PyProof.Rows PySem.W
section
variable {X:Cx}{pins:List (Addr × Obj)}{σ:St}{H:Hp}{a:Addr}{C:Value}{s:Shared}
structure Ready (X:Cx)(pins:List (Addr × Obj))(σ:St)(H:Hp)(a:Addr)(C:Value)(s:Shared):Prop where
 ex:∃ (s':Shared) (T T':Addr),Inv X pins σ H s'/\zkF X pins H a/\zkF X pins H T/\s'.heap.get? T'=none/\(∃ h',s={s' with heap:=h'})/\ziC s.heap a T' C .none/\zgi (frs X.stack) [a,T] s'.heap s.heap
theorem Ready.inv (R:Ready X pins σ H a C s):Inv X pins σ H s:=by
 obtain⟨s',T,T',I,ha,hT,_,⟨h',rfl⟩,F,U⟩:=R.ex
 refine I.shift (as:=[a,T]) U.1 U.2 (λb m=>?_)
 rcases List.mem_cons.mp m with z | z
 ·subst z;exact ha
 ·rw[zms.mp z];exact hT
theorem Ready.apart (R:Ready X pins σ H a C s):zkF X pins H a:=by
 obtain⟨s',T,T',I,ha,hT,_,⟨h',rfl⟩,F,U⟩:=R.ex
 exact ha
theorem Ready.obj (R:Ready X pins σ H a C s):∃ oe vs,s.heap.get? a=some oe/\(oe.cls=C/\oe.dict=none)/\oe.data=.fields vs:=by
 obtain⟨s',T,T',I,ha,hT,_,_,F,U⟩:=R.ex
 obtain⟨oe,vs,oT,ts,h1,h2,h3,h4,_⟩:=F
 exact⟨oe,vs,h1,⟨h2,h3⟩,h4⟩
theorem Ready.objN (R:Ready X pins σ H a C s):∃ oe vs,s.heap.get? a=some oe/\(oe.cls=C/\oe.dict=none)/\oe.data=.fields vs/\vs[2]?=some .none:=by
 obtain⟨s',T,T',I,ha,hT,_,_,F,U⟩:=R.ex
 obtain⟨oe,vs,oT,ts,h1,h2,h3,h4,_,_,_,_,_,h5⟩:=F
 exact⟨oe,vs,h1,⟨h2,h3⟩,h4,h5⟩
theorem Ready.again {M:Model}{A:Around}{E:Value->Shared->Prop}{Q:Unit->Shared->Prop}(R:Ready X pins σ H a C s)(k:∀ s2,Ready X pins σ H a C s2->Q () s2):wpAny M A (setFlight (.ref a) none) Q E s:=by
 obtain⟨s',T,T',I,ha,hT,n,⟨h',rfl⟩,F,U⟩:=R.ex
 refine zfQ (fr:=frs X.stack) F λh2 F2 U2=>k _ ⟨s',T,T',I,ha,hT,n,⟨h2,rfl⟩,F2,⟨λb o e m1 m2=>U2.1 b o (U.1 b o e m1 m2) m1 (λz=>by rw[zms.mp z,n] at e;cases e),λb o e m1 m2=>?_⟩⟩
 obtain⟨sl,e1⟩:=U.2 b o e m1 m2
 obtain⟨sl2,e2⟩:=U2.up e1 (λz=>by rw[zms.mp z,n] at e;cases e)
 exact⟨sl2,e2⟩
theorem zju {E:XK}{E':Value->Shared->Prop}{e:Value}{Q:Shared->Prop}(hex:X.ex=[])(hst:X.stack=X.env::X.outer)(hf:X.env.frame=some X.env.locals)(h:XP X pins σ E e s)
  (k:∀ a C H' s3,e=.ref a->Ready X pins σ H' a C s3->E C none H'->Q s3) :
  wpAny (model X.prog X.w) X.A (noteFrame e X.env) (λ_ s2=>wpAny (model X.prog X.w) X.A (setFlight e none) (λ_ s3=>Q s3) E' s2) E' s:=by
 obtain⟨a,C,H',s1,H1,rfl,I1,I',⟨T,F,hx,hT,hx0,hT0⟩,q⟩:=h
 have hfr:X.A.frames=some (X.env::X.outer):=by rw[<-hst];exact I'.ok.frames
 refine zka (outer:=X.outer) (base:=X.base) hfr (by rw[<-hst];exact I'.stack) hf F λh1 T1 n1 F1 U1=>?_
 rw[<-hst] at U1
 refine zfQ (fr:=frs X.stack) F1 λh2 F2 U2=>k a C H' _ rfl ⟨s,T,T1,I',zkc I1 hex hx0 hx,zkc I1 hex hT0 hT,n1,⟨h2,rfl⟩,F2,⟨λb o e m1 m2=>U2.1 b o (U1.1 b o e m1 m2) m1 (λz=>by rw[zms.mp z,n1] at e;cases e),λb o e m1 m2=>?_⟩⟩ q
 obtain⟨sl,e1⟩:=U1.2 b o e m1 m2
 obtain⟨sl2,e2⟩:=U2.up e1 (λz=>by rw[zms.mp z,n1] at e;cases e)
 exact⟨sl2,e2⟩
def XH (X:Cx)(a:Addr)(o:Obj):Cx:={X with A:=X.A.mark (some (.ref a)),calm:=false,pn:=(a,o)::X.pn,xe:=λ_ _=>False}
theorem Inv.held {o:Obj}(I:Inv X pins σ H s)(ho:s.heap.get? a=some o)(ap:zkF X pins H a)(nc:∀ v,o.data≠.cell v):Inv (XH X a o) pins σ H s:=by
 have ok:=I.ok
 refine⟨⟨ok.mod,ok.kind,ok.glob,ok.blt,ok.above,ok.inj,ok.has,ok.cab,(λz=>absurd z Bool.false_ne_true),ok.frames,ok.stk,ok.exf,ok.bs,ok.bsz,ok.noex,ok.exfs,ok.funs,ok.frf⟩,I.os,I.bare,I.base,I.loc,I.cell,I.free,I.freeC,λp hp=>?_,I.hok,I.len⟩
 have hp':p∈(a,o)::(X.pn++pins):=hp
 rcases List.mem_cons.mp hp' with z | z
 ·subst z
  refine⟨ho,ap.1,ap.2.2.1,λm=>?_,nc⟩
  obtain⟨_,o2,h2,_⟩:=ok.funs.mem m
  have:=ap.2.1
  rw[h2] at this;cases this
 ·exact I.pin p z
theorem Inv.unheld {o:Obj}(ok:X.Ok)(I:Inv (XH X a o) pins σ H s):Inv X pins σ H s:=
 ⟨ok,I.os,I.bare,I.base,I.loc,I.cell,I.free,I.freeC,λp hp=>I.pin p (List.mem_cons_of_mem _ hp),I.hok,I.len⟩
end
def PH (X:Cx)(hs:List ExceptHandler)(t:Value->Addr->TS):Prop:=
 ∀ (pins:List (Addr × Obj)) (s:Shared) (σ:St) (H:Hp) (D:Ends) (a:Addr) (C:Value),Ready X pins σ H a C s->t C a D σ H->wpAny (model X.prog X.w) X.A (handleBy (.ref a) X.env hs) (SP X pins D) X.xe s
def tHand (K:Fg)(D:Addr)(th tr:Value->Addr->TS):Value->Addr->TS:=λC a E σ H=>∃ Cc anc,C=.ref Cc/\Err K Cc anc/\if (Value.ref Cc::anc).contains (.ref D)=true then th C a E σ H else tr C a E σ H
def tAs (i:Nat)(t:Value->Addr->TS):Value->Addr->TS:=λC a D σ H=>t C a {nx:=λσ' H'=>D.nx (σ'.set i none) H',rt:=D.rt,bk:=λσ' H'=>D.bk (σ'.set i none) H',ct:=λσ' H'=>D.ct (σ'.set i none) H'} (σ.set i (some (.ref a))) H
section
variable {X:Cx}{x:Str}{np pos:Pos}{b0:Stmt}{suite:List Stmt}{rest:List ExceptHandler}{D:Addr}{anc:List Value}{tb tr:Value->Addr->TS}
theorem zqa:PH X [] (λ_ _=>zpg):=λ_ _ _ _ _ _ _ _ h=>h.elim
theorem zeR {M:Model}{A:Around}{E:Value->Shared->Prop}{pins:List (Addr × Obj)}{σ:St}{H:Hp}{s:Shared}{i:Nat}{n:Str}{pos:Pos}{Q:Unit->Shared->Prop}(I:Inv X pins σ H s)(hN:X.N.Nodup)(hi:X.N[i]?=some n)(hl:X.env.scope.names.lookup n=some .local)
  (k:∀ s',Inv X pins (σ.set i none) H s'->Q () s'):wpAny M A (do bindName X.env n .none;unbindBehindTheSuite X.env n pos) Q E s:=by
 refine wpAny_bind (wpAny_bindName (zeb I hN hi (.inl hl) (v:=.non) (u:=.none) rfl (λs1 I1=>?_) (.inr hl)))
 have hiσ:i<σ.length:=by rw[I.len];exact (zge.mp hi).1
 obtain⟨m,hn,hv⟩:=id I1.loc
 obtain⟨u,_,lk⟩:=hv i n .non hi (by rw[List.getElem?_set_self hiσ]) (.inl hl)
 have hv':m n=some u:=by
  rcases lk with ⟨_,z⟩ | ⟨z,_⟩
  ·exact z
  ·have hl':X.env.kindOf n=some .local:=hl
   rw[hl'] at z
   rcases z with z | z <;> cases z
 unfold unbindBehindTheSuite
 refine wpAny_onRaise (wpAny_unbindName_local hl hn hv' (by rw[I.ok.kind];rfl) λh' u' hn' hs=>k _ ?_)
 obtain⟨oL,_,_,hoL,_⟩:=id hn
 have neL:∀ b o,X.s₀.heap.get? b=some o->b≠X.env.locals:=λb o e=>Nat.ne_of_lt (Nat.lt_of_lt_of_le (Heap.lt_size e) I.ok.above)
 refine⟨I.ok,I1.os,I1.bare,⟨λb o e n hb hx=>?_,λb o e n hb hx=>?_,I1.base.free,λb o e hx=>?_,I1.base.tups,I1.base.frzs,I1.base.tbls⟩,⟨_,hn',λj y v' e1 e2 e3=>?_⟩,λy c e=>?_,I1.free,I1.freeC,λp hp=>?_,λb ob e=>?_,by rw[List.length_set];exact I.len⟩
 ·exact (hs.2 b (neL b o e)).trans (I1.base.keep b o e n hb hx)
 ·obtain⟨sl,e1⟩:=I1.base.slot b o e n hb hx
  exact⟨sl,(hs.2 b (neL b o e)).trans e1⟩
 ·obtain⟨o',e1⟩:=I1.base.there b o e hx
  exact⟨o',(hs.2 b (neL b o e)).trans e1⟩
 ·by_cases hj:j=i
  ·subst hj
   rw[List.getElem?_set_self hiσ] at e2
   cases e2
  ·rw[List.getElem?_set_ne (Ne.symm hj)] at e2
   obtain⟨u2,r,q⟩:=hv j y v' e1 (by rw[List.getElem?_set_ne (Ne.symm hj)];exact e2) e3
   refine⟨u2,r,?_⟩
   rcases q with ⟨k,e⟩ | ⟨k,c,e,z⟩
   ·refine .inl ⟨k,?_⟩
    have:y≠n:=λe=>hj (zhz hN e1 (e ▸ hi))
    simp[this,e]
   ·exact .inr ⟨k,c,e,z.sameBut hs (I1.cne y c e)⟩
 ·obtain⟨w',z⟩:=I1.cell y c e
  exact⟨w',z.sameBut hs (I1.cne y c e)⟩
 ·obtain⟨e,n,ne,nf,d⟩:=I1.pin p hp
  exact⟨(hs.2 p.1 ne).trans e,n,ne,nf,d⟩
 ·refine (I1.hok b ob e).stay (λc w' hc q=>(hs.2 c ?_).trans q) (λ_ q=>q) λ_ _ q=>q
  rintro rfl
  rcases hc with rfl | hc
  ·rw[I1.free] at e;cases e
  ·rw[I1.free] at hc;cases hc
theorem ph_as {i:Nat}{n:Str}(eD:Err X.K D anc)(hg:Gl X x)(hm:X.mg x=some (.ref D))(hN:X.N.Nodup)(hi:X.N[i]?=some n)(hl:X.env.scope.names.lookup n=some .local)(hb:∀ a o,o.dict=none->NoC o->PSs (XH X a o) (b0::suite) (tb o.cls a))(hr:PH X rest tr)(hd:(x == ("__debug__" : Str))=false:=by decide) :
  PH X (.ExceptHandler (some (.Name x np)) (some n) (b0::suite) pos::rest) (tHand X.K D (tAs i tb) tr):=by
 intro pins s σ H E a C R h
 obtain⟨Cc,ancC,rfl,eC,h⟩:=h
 have I:=R.inv
 obtain⟨oe,vs,ho,⟨hc,_⟩,hdt⟩:=R.obj
 obtain⟨nm,q,N,bs,hdct,sn,sub,ab,col,dd,k0,k1,k2,k3,k5,mN,hC,_,_,TC⟩:=eC.obj I.kIn
 obtain⟨nm',q',N',bs',hdct',sn',sub',ab',col',dd',l0,l1,l2,l3,l5,mN',hD,_,_,TD⟩:=eD.obj I.kIn
 refine wpAny_handleBy_cons (codeAny_handlers_test (zew (X:=XH X a oe) (I.held ho R.apart (λv z=>by rw[hdt] at z;cases z)) hg hm ?_ hd)) (by intro q;cases q)
 obtain⟨hp,g,d,tk,os⟩:=s
 refine zgQ hC hD ho hc (TD.hasType PySem.F.excBase_ValueError.hasBase) ?_
 by_cases b:(Value.ref Cc::ancC).contains (.ref D)=true
 ·rw[if_pos b] at h
  rw[b]
  show codeAny _ _ _ _ _
  refine codeAny_handlers_suite_as (R.again λs2 R2=>?_)
  obtain⟨o2,vs2,ho2,⟨hc2,hi2⟩,hd2,hn2⟩:=R2.objN
  rw[<-hc2] at h
  have IH:=R2.inv.held ho2 R2.apart (λv z=>by rw[hd2] at z;cases z)
  refine zeb (X:=XH X a o2) IH hN hi (.inl hl) (v:=.ref a) (u:=.ref a) rfl (λs3 I3=>?_) (.inr hl)
  refine nxm (hb a o2 hi2 ⟨vs2,hd2,hn2⟩ pins s3 _ H _ I3 h) λf s4 q=>?_
  show wpAny _ _ _ _ _ _
  cases f with
  | next=>
   obtain⟨σ',H',I4,q⟩:=q
   exact zeR (I4.unheld I.ok) hN hi hl λs5 I5=>⟨_,H',I5,q⟩
  | brk=>
   obtain⟨σ',H',I4,q⟩:=q
   exact zeR (I4.unheld I.ok) hN hi hl λs5 I5=>⟨_,H',I5,q⟩
  | cont=>
   obtain⟨σ',H',I4,q⟩:=q
   exact zeR (I4.unheld I.ok) hN hi hl λs5 I5=>⟨_,H',I5,q⟩
  | ret u=>
   obtain⟨v,σ',H',I4,r,q⟩:=q
   exact zeR (I4.unheld I.ok) hN hi hl λs5 I5=>⟨v,_,H',I5,r,q⟩
 ·rw[if_neg b] at h
  rw[Bool.not_eq_true] at b
  rw[b]
  exact hr pins _ σ H E a _ R h
def tTry (tb:XK->TS)(th:Value->Addr->TS):TS:=λD σ H=>tb (λC _ H'=>∀ a,th C a D σ H') D σ H
theorem zqb {body:List Stmt}{h0:ExceptHandler}{hs:List ExceptHandler}{tx:XK->TS}{th:Value->Addr->TS}(hex:X.ex=[])(hst:X.stack=X.env::X.outer)(hf:X.env.frame=some X.env.locals)(hb:PSxs X body tx)(hh:PH X (h0::hs) th):PS X (.Try body (h0::hs) [] [] pos) (tTry tx th):=by
 intro pins s σ H D I h
 refine wpAny_Try_except (wpAny_mono (hb pins s σ H D _ I h) (λf s1 q=>?_) λe s1 q=>?_)
 ·cases f with
  | next=>exact wpAny_execs_nil q
  | ret v=>exact q
  | brk=>exact q
  | cont=>exact q
 ·exact zju hex hst hf q λa C H' s3 ee R q2=>by
   subst ee
   exact hh pins s3 σ H' D a C R (q2 a)
end
def Pin (X:Cx)(a:Addr)(C:Value):Prop:=∃ o,(a,o)∈X.pn/\o.cls=C/\o.dict=none/\NoC o
theorem Err.cls {K:Fg}{C:Addr}{anc:List Value}(e:Err K C anc):∃ cd,clsIn K C=some cd/\cd.mro=.ref C::anc/\typeIn K (.ref C)=some (.type "type"):=by
 obtain⟨⟨nm,q,N,bs,hdct,sn,sub,ab,col,dd,k0,k1,k2,k3,k5,l⟩,x⟩:=e
 refine⟨_,by unfold clsIn;rw[l],rfl,?_⟩
 show (K.lookup C).map (·.cls)=_
 rw[l];rfl
theorem zoN {K:Fg}{C D:Addr}{anc ancD:List Value}(e:Err K C anc)(d:Err K D ancD):kitOne K (.ref C) (.ref D)=some ((Value.ref C::anc).contains (.ref D)):=by
 obtain⟨cC,c1,c2,c3⟩:=e.cls
 obtain⟨cD,d1,d2,d3⟩:=d.cls
 unfold kitOne
 by_cases z:(Value.ref C == Value.ref D)=true
 ·rw[if_pos z]
  have:Value.ref C=Value.ref D:=eq_of_beq z
  rw[<-this]
  simp
 ·rw[if_neg z]
  unfold kitCls
  simp only[d1,d3]
  unfold subIn mroIn
  simp only[c1,c2]
  simp
  rw[c2]
  simp
end L2

namespace L2
open PySem PySem.Spec PyProof.Rows PySem.W
def zbv:Nat:=10 ^ 30
theorem ziE {i:Int}(h:i.natAbs<zbv):i.natAbs.log2<1920:=by
 by_cases z:i.natAbs=0
 ·rw[z];decide
 ·refine (Nat.log2_lt z).mpr (Nat.lt_of_lt_of_le h ?_)
  unfold zbv
  exact Nat.le_trans (by decide:10 ^ 30<=2 ^ 100) (Nat.pow_le_pow_right (n:=2) (by decide) (by decide:100<=1920))
section
variable {X:Cx}{pins:List (Addr × Obj)}{σ:St}{H:Hp}{s:Shared}
end
theorem zgk {i:Int}(h:i.natAbs<zbv):(Str.ofString (toString i)).length<=32:=by
 have e:=int_text_length_le10 (k:=30) (by decide) h
 rw[PySem.ofString_length];omega
end L2

namespace L2
open PySem PySem.Spec PyProof.Rows PySem.W
section
variable {prog:Program}{w:World}{A:Around}{E:Value->Shared->Prop}
end
section
variable {X:Cx}{pos:Pos}
end
end L2

namespace L2
open PySem PySem.Spec PyProof.Rows PySem.W
theorem zah.append {H:Hp} : ∀ {ds1:List D}{vs1:List V}{f1:List Addr}{ds2:List D}{vs2:List V}{f2:List Addr},zah H ds1 vs1 f1->zah H ds2 vs2 f2->zah H (ds1++ds2) (vs1++vs2) (f1++f2)
 | [],_,_,_,_,_,h1,h2=>by
  unfold zah at h1
  obtain⟨rfl,rfl⟩:=h1
  exact h2
 | d::ds,_,_,_,_,_,h1,h2=>by
  unfold zah at h1
  obtain⟨v,r,f,g,rfl,rfl,q1,q2⟩:=h1
  rw[List.append_assoc]
  exact zah.cany q1 (zah.append q2 h2)
theorem zah.cut {H:Hp} : ∀ (i:Nat) {ds:List D}{vs:List V}{fp:List Addr},zah H ds vs fp->∃ f1 f2,fp=f1++f2/\zah H (ds.take i) (vs.take i) f1/\zah H (ds.drop i) (vs.drop i) f2
 | 0,ds,vs,fp,h=>⟨[],fp,rfl,zah.nil,h⟩
 | i+1,[],_,_,h=>by
  unfold zah at h
  obtain⟨rfl,rfl⟩:=h
  exact⟨[],[],rfl,zah.nil,zah.nil⟩
 | i+1,d::ds,_,_,h=>by
  unfold zah at h
  obtain⟨v,r,f,g,rfl,rfl,q1,q2⟩:=h
  obtain⟨f1,f2,rfl,h1,h2⟩:=zah.cut i q2
  exact⟨f++f1,f2,(List.append_assoc _ _ _).symm,zah.cany q1 h1,h2⟩
theorem New.acc {H H':Hp}{ds:List D}{v:V}(h:New H H' (.lst ds) v):∃ a vs,v=.ref a/\H a=none/\Acc H a H' ds vs:=by
 obtain⟨a,vs,fp,e1,e2,e3,e4,e5,e7,e6⟩:=New.lso h
 exact⟨a,vs,e1,e2,fp,e3,e4,e5,e7,e6⟩
theorem Acc.get {H H2:Hp}{da:Addr}{ds:List D}{vs:List V}(a:Acc H da H2 ds vs):H2 da=some (.lst vs):=by obtain⟨fp,h,_⟩:=a;exact h
theorem Acc.len {H H2:Hp}{da:Addr}{ds:List D}{vs:List V}(a:Acc H da H2 ds vs):ds.length=vs.length:=by obtain⟨fp,_,h,_⟩:=a;exact h.length
end L2

namespace L2
open PySem PySem.Spec PyProof.Rows PySem.W
section
variable {X:Cx}{es:List Expr}{pos:Pos}{te:TE}{t:TA}
theorem zaa {x:Str}(h:PE X (.Name x pos) te)(r:PA X es t):PA X (.Name x pos::es) (zc6 te t):=za0 h r rfl
theorem zaj {c:Const}{k:Nat}(h:PE X (.Constant c k pos) te)(r:PA X es t):PA X (.Constant c k pos::es) (zc6 te t):=za0 h r rfl
theorem zhO {o:UnaryOp}{a:Expr}(h:PE X (.UnaryOp o a pos) te)(r:PA X es t):PA X (.UnaryOp o a pos::es) (zc6 te t):=za0 h r rfl
theorem zcy {a:Expr}{g:List Comprehension}{sc:Scope}(h:PE X (.ListComp a g sc pos) te)(r:PA X es t):PA X (.ListComp a g sc pos::es) (zc6 te t):=za0 h r rfl
theorem zqc {a:Expr}{o:List CmpOp}{b:List Expr}(h:PE X (.Compare a o b pos) te)(r:PA X es t):PA X (.Compare a o b pos::es) (zc6 te t):=za0 h r rfl
theorem zaK {a b:Expr}(h:PE X (.Subscript a b pos) te)(r:PA X es t):PA X (.Subscript a b pos::es) (zc6 te t):=za0 h r rfl
theorem zbR {a:List Expr}(h:PE X (.List a pos) te)(r:PA X es t):PA X (.List a pos::es) (zc6 te t):=za0 h r rfl
theorem zn3 {a:List Expr}{k:Nat}(h:PE X (.Tuple a k pos) te)(r:PA X es t):PA X (.Tuple a k pos::es) (zc6 te t):=za0 h r rfl
theorem zaP {a b:Expr}{o:Operator}(h:PE X (.BinOp a o b pos) te)(r:PA X es t):PA X (.BinOp a o b pos::es) (zc6 te t):=za0 h r rfl
theorem zay {f:Expr}{a:List Expr}{k:List Keyword}(h:PE X (.Call f a k pos) te)(r:PA X es t):PA X (.Call f a k pos::es) (zc6 te t):=za0 h r rfl
theorem zaO {a:Expr}{x:Str}(h:PE X (.Attribute a x pos) te)(r:PA X es t):PA X (.Attribute a x pos::es) (zc6 te t):=za0 h r rfl
end
structure QE (X:Cx)(e:Expr)(t:TE):Prop where
 run:PE X e t
structure QA (X:Cx)(es:List Expr)(t:TA):Prop where
 run:PA X es t
structure QS (X:Cx)(st:Stmt)(t:TS):Prop where
 run:PS X st t
structure QSs (X:Cx)(st:List Stmt)(t:TS):Prop where
 run:PSs X st t
section
variable {X:Cx}{e a b:Expr}{es:List Expr}{pos:Pos}{te ta tb:TE}{t:TA}{r:R2}
theorem zhP (h:QA X es t):QE X (.List es pos) (tLst t):=⟨zaE h.run⟩
theorem q_op {op:Operator}(ho:OpR X (binaryOp op) r)(ha:QE X a ta)(hb:QE X b tb):QE X (.BinOp a op b pos) (tOp r ta tb):=⟨zat ho ha.run hb.run⟩
theorem q_ix (hr:IxR X r)(ha:QE X a ta)(hb:QE X b tb)(hs:zlw b):QE X (.Subscript a b pos) (tOp r ta tb):=⟨zaH hr ha.run hb.run hs⟩
theorem zeS:QA X [] tNil:=⟨zab⟩
theorem zfT {c:Const}{k:Nat}(h:QE X (.Constant c k pos) te)(r:QA X es t):QA X (.Constant c k pos::es) (zc6 te t):=⟨za0 h.run r.run rfl⟩
theorem zhj (h:QE X (.Subscript a b pos) te)(r:QA X es t):QA X (.Subscript a b pos::es) (zc6 te t):=⟨za0 h.run r.run rfl⟩
theorem zn4 {l:List Expr}(h:QE X (.List l pos) te)(r:QA X es t):QA X (.List l pos::es) (zc6 te t):=⟨za0 h.run r.run rfl⟩
theorem ziF {o:Operator}(h:QE X (.BinOp a o b pos) te)(r:QA X es t):QA X (.BinOp a o b pos::es) (zc6 te t):=⟨za0 h.run r.run rfl⟩
end
section
variable {X:Cx}{e:Expr}{st:Stmt}{rest a b:List Stmt}{pos:Pos}{te:TE}{t u:TS}{tc:TT}
theorem zn5 (h:QE X e te):QS X (.Return (some e) pos) (tRet te):=⟨zan h.run⟩
theorem zqd {c:Expr}(hc:PT X c tc)(ha:QSs X a t)(hb:QSs X b u):QS X (.If c a b pos) (tIfS tc t u):=⟨za2 hc ha.run hb.run⟩
theorem zl0:QSs X [] zmO:=⟨zav⟩
theorem zjv (h:QS X st t):QSs X [st] t:=⟨zai h.run⟩
theorem zkd (h:QS X st t)(k:QSs X rest u):QSs X (st::rest) (tSeq t u):=⟨zae h.run k.run⟩
end
theorem zem {t u:TS}{D:Ends}{σ:St}{H:Hp}(M:St->Hp->Prop)(h:∀ NX:St->Hp->Prop,(∀ σ H,M σ H->NX σ H)->t {D with nx:=NX} σ H)(tail:∀ σ H,M σ H->u D σ H):tSeq t u D σ H:=h _ tail
theorem zcz {c:TT}{t u:TS}{D:Ends}{σ:St}{H:Hp}(h:∀ Q:Bool->Hp->Prop,Q false H->c σ H Q)(k:u D σ H):tSeq (tIfS c t zmO) u D σ H:=h _ (iteF k)
theorem ziG {c:TT}{t e u:TS}{D:Ends}{σ:St}{H:Hp}(h:∀ Q:Bool->Hp->Prop,Q true H->c σ H Q)(k:∀ NX:St->Hp->Prop,t {D with nx:=NX} σ H):tSeq (tIfS c t e) u D σ H:=h _ (iteT (k _))
theorem zl1 {a:Addr} : decide (V.ref a=V.non)=false:=decide_eq_false (by intro z;cases z)
theorem zoO:decide (V.non=V.non)=true:=decide_eq_true rfl
theorem i_slL {K:Fg}{H:Hp}{Q:VK}{a:Addr}{xs:List V}{lo hi:Option Int}(h:SqL K H a xs)(q:∀ p,H p=none->Q (.ref p) (upd H p (.lst (cutV xs lo hi)))):rSl K (.ref a) lo hi H Q:=.inl ⟨a,xs,rfl,h,q⟩
theorem cut_take {xs:List V}{k:Nat}(h:k<=xs.length):cutV xs none (some (k:Int))=xs.take k:=by
 unfold cutV
 rw[HT.sIx_none,HT.sIx_nat,List.drop_zero,Nat.sub_zero,Nat.min_eq_left h]
theorem znm {xs:List V}{k:Nat}(h:k<=xs.length):cutV xs (some (k:Int)) none=xs.drop k:=by
 unfold cutV
 rw[HT.sIx_none,HT.sIx_nat,Nat.min_eq_left h,List.take_of_length_le (by rw[List.length_drop];exact Nat.le_refl _)]
theorem Same.put {H0 H:Hp}{w:Addr}{o:HO}(s:Same H0 H)(h:H0 w=none):Same H0 (upd H w o):=λb u e=>by rw[zam (zax e h)];exact s _ _ e
def Ls (H:Hp)(ka:Addr)(ls:List (List Int)):Prop:=∃ as:List Addr,H ka=some (.lst (as.map V.ref))/\as.length=ls.length/\∀ (i:Nat) a l,as[i]?=some a->ls[i]?=some l->H a=some (.lst (l.map V.int))
theorem znn {H:Hp}{a:Addr}{l:List Int}{as:List Addr}(h1:H a=some (.lst (l.map V.int)))(h2:H a=some (.lst (as.map V.ref))):l=[]:=by
 rw[h1] at h2
 cases l with
 | nil=>rfl
 | cons i l=>
  cases as with
  | nil=>simp at h2
  | cons b as=>simp at h2
theorem Ls.same {H H':Hp}{ka:Addr}{ls:List (List Int)}(e:Same H H')(h:Ls H ka ls):Ls H' ka ls:=by
 obtain⟨as,h1,h2,h3⟩:=h
 exact⟨as,e _ _ h1,h2,λi a l e1 e2=>e _ _ (h3 i a l e1 e2)⟩
theorem Ls.len {H:Hp}{ka:Addr}{ls:List (List Int)}(h:Ls H ka ls):∃ xs,H ka=some (.lst xs)/\xs.length=ls.length:=by
 obtain⟨as,h1,h2,h3⟩:=h
 exact⟨_,h1,by rw[zlm];exact h2⟩
theorem Ls.out {K:Fg}{H:Hp}{ka:Addr}{ls:List (List Int)}(h:Ls H ka ls):∃ xs,H ka=some (.lst xs)/\xs.length=ls.length/\Reps K H (ls.map nums) xs:=by
 obtain⟨as,h1,h2,h3⟩:=h
 refine⟨_,h1,by rw[zlm];exact h2,Reps.of (by simp[h2]) λi d v e1 e2=>?_⟩
 rw[zgm] at e1 e2
 obtain⟨l,hl,rfl⟩:=zme.mp e1
 obtain⟨a,ha,rfl⟩:=zme.mp e2
 exact za3.mpr ⟨a,rfl,SqL.of (h3 i a l ha hl)⟩
theorem Ls.rep {K:Fg}{H:Hp}{ka:Addr}{ls:List (List Int)}(h:Ls H ka ls):Rep K H (.lst (ls.map nums)) (.ref ka):=by
 obtain⟨xs,h1,_,h2⟩:=h.out (K:=K)
 unfold Rep
 exact⟨ka,xs,rfl,SqL.of h1,h2⟩
theorem Ls.item {H:Hp}{ka:Addr}{ls:List (List Int)}{xs:List V}{i:Nat}{x:V}(h:Ls H ka ls)(e:H ka=some (.lst xs))(hx:xs[i]?=some x):∃ a l,x=.ref a/\ls[i]?=some l/\H a=some (.lst (l.map V.int)):=by
 obtain⟨as,h1,h2,h3⟩:=h
 rw[h1] at e;cases e
 rw[zgm] at hx
 obtain⟨a,ha,rfl⟩:=zme.mp hx
 have hi:=(zge.mp ha).1
 refine⟨a,ls[i]'(by omega),rfl,by simp,h3 i a _ ha (by simp)⟩
theorem New.ls {H H':Hp}{ls:List (List Int)}{v:V}(h:New H H' (.lst (ls.map nums)) v):∃ ka,v=.ref ka/\H ka=none/\Ls H' ka ls:=by
 obtain⟨a,vs,fp,rfl,ha,h1,h2,_⟩:=New.lso h
 obtain⟨e1,e2,e3⟩:=zah.lines h2
 subst e1
 refine⟨a,rfl,ha,fp,h1,e2,λi b l q1 q2=>?_⟩
 obtain⟨l',z1,z2⟩:=e3 i b q1
 rw[q2] at z1;cases z1
 exact z2
theorem New.cat {H H1 H2:Hp}{a b p:Addr}{ds1 ds2:List D}{xs ys:List V}(n1:New H H1 (.lst ds1) (.ref a))(e1:Same H H1)(s:Same H1 H2)(n2:New H1 H2 (.lst ds2) (.ref b))(h1:H2 a=some (.lst xs))(h2:H2 b=some (.lst ys))(hp:H2 p=none):New H (upd H2 p (.lst (xs++ys))) (.lst (ds1++ds2)) (.ref p):=by
 obtain⟨a',vs,fp,ea,ha,g1,g2,g3,g4,g5⟩:=New.lso n1
 cases ea
 obtain⟨b',vs',fq,eb,hb,k1,k2,k3,k4,k5⟩:=New.lso n2
 cases eb
 have ev:xs=vs:=by rw[s _ _ g1] at h1;injection h1 with h1;injection h1 with h1;exact h1.symm
 have ev':ys=vs':=by rw[k1] at h2;injection h2 with h2;injection h2 with h2;exact h2.symm
 subst ev;subst ev'
 have sp:=zag hp (.lst (xs++ys))
 have hf:∀ b∈fp,∃ o,H1 b=some o:=zah.has _ g2
 refine New.lst ((zah.sq (s.trans sp).sq _ g2).append (zah.sq sp.sq _ k2)) (List.nodup_append.mpr ⟨g3,k3,λx hx y hy z=>?_⟩) (λc hc=>?_) ((e1.trans s).free hp) (λm=>?_) zad
 ·subst z
  obtain⟨o,ho⟩:=hf x hx
  have:=k5 x hy
  rw[ho] at this;cases this
 ·rcases zma.mp hc with hc | hc
  ·exact g5 c hc
  ·exact e1.free (k5 c hc)
 ·rcases zma.mp m with m | m
  ·obtain⟨o,ho⟩:=hf p m
   rw[s _ _ ho] at hp;cases hp
  ·obtain⟨o,ho⟩:=zah.has _ k2 p m
   rw[ho] at hp;cases hp
theorem New.item {H H':Hp}{ds:List D}{a:Addr}{xs:List V}{i:Nat}{d:D}{x:V}(n:New H H' (.lst ds) (.ref a))(e:H' a=some (.lst xs))(hd:ds[i]?=some d)(hx:xs[i]?=some x):New H H' d x:=by
 obtain⟨a',vs,fp,ea,ha,g1,g2,g3,g4,g5⟩:=New.lso n
 cases ea
 rw[g1] at e;cases e
 obtain⟨f1,f2,rfl,r1,r2⟩:=zah.cut i g2
 have hi:=(zge.mp hd).1
 have hj:=(zge.mp hx).1
 rw[List.drop_eq_getElem_cons hi,List.drop_eq_getElem_cons hj] at r2
 unfold zah at r2
 obtain⟨v,r,f,g,e1,rfl,q1,q2⟩:=r2
 cases e1
 rw[List.getElem?_eq_getElem hi] at hd;cases hd
 rw[List.getElem?_eq_getElem hj] at hx;cases hx
 have n2:=(List.nodup_append.mp g3).2.1
 exact⟨f,q1,(List.nodup_append.mp n2).1,λb hb=>g5 b (List.mem_append_right _ (List.mem_append_left _ hb))⟩
theorem New.pairT {H H1:Hp}{w:Int}{ws:List Int}{a t:Addr}(n:New H H1 (nums ws) (.ref a))(ht:H1 t=none):New H (upd H1 t (.tup [.int w,.ref a])) (.tup [.int w,nums ws]) (.ref t):=by
 obtain⟨a',e,h1,h2⟩:=New.iif.mp n
 cases e
 have s:=zag ht (.tup [.int w,.ref a])
 refine New.tup (fp:=[a]) (zah.cint (zah.cany (f:=[a]) (fp:=[]) (RepF.line (s _ _ h2)) zah.nil)) (by simp) (λb hb=>?_) zad
 rw[zms.mp hb];exact h1
section
variable {H0 H:Hp}{ga ka wa:Addr}{goal:List Int}{known:List (List Int)}{ws:List Int}{m n:Nat}
end
end L2

namespace L2
open PySem PySem.Spec PyProof.Rows PySem.W
theorem zoP {J:It}{H1:Hp}{n:Nat}{P:Nat->V->Hp->Prop}{g:TG}{te:TE}{σ0:St}{Q:VK}(wk:Goes J H1 n P)(ls:List (List Int))(hn:ls.length=n)(hz:n<=sizeLine)(h9:∀ l∈ls,l.length=9)
  (step:∀ i x l H' (R:VK),i<n->ls[i]?=some l->Same H1 H'->P i x H'->(∀ a H3,Same H' H3->H3 a=some (.lst (l.map V.int))->R (.ref a) H3)->g x σ0 H' λσ2 H2=>te σ2 H2 R)
  (fin:∀ a H',Same H1 H'->H1 a=none->Ls H' a ls->Q (.ref a) H'):ziy J g zoz te σ0 H1 Q:=by
 intro Da hD
 refine⟨λi m ys H=>m=n - i/\i<=n/\Same H1 H/\H Da=some (.lst ys)/\Ls H Da (ls.take i),⟨n,rfl,Nat.zero_le _,zag hD _,zad,[],zad,rfl,λi a l e _=>by simp at e⟩,?_⟩
 rintro i m ys H ⟨rfl,hi,hs,hH,hL⟩
 refine⟨hH,?_⟩
 obtain⟨as,h1,h2,h3⟩:=hL
 have ey:ys=as.map V.ref:=by rw[hH] at h1;injection h1 with h1;injection h1
 subst ey
 rw[List.length_take] at h2
 by_cases hlt:i<n
 ·refine .inr ⟨wk.go i H hlt hs,by rw[zlm];omega,λys' H'=>(n - (i+1)<n - i/\i+1<=n/\Same H1 H'/\H' Da=some (.lst ys')/\Ls H' Da (ls.take (i+1))),λys' H' ⟨q1,q2,q3,q4,q5⟩=>⟨n - (i+1),q1,rfl,q2,q3,q4,q5⟩,λx H' hy=>?_⟩
  obtain⟨s1,hp⟩:=wk.yld i H x H' hlt hs hy
  have hi':i<ls.length:=by omega
  refine step i x ls[i] H' _ hlt (by simp) (hs.trans s1) hp λa H3 s3 ha=>?_
  have hD3:H3 Da=some (.lst (as.map V.ref)):=s3 _ _ (s1 _ _ hH)
  refine⟨hD3,by omega,hlt,λb o e=>?_,zad,as++[a],by rw[zad,List.map_append];rfl,by rw[List.length_append,List.length_take];simp;omega,λj b l e1 e2=>?_⟩
  ·rw[zam (zax e hD)]
   exact s3 _ _ (s1 _ _ (hs _ _ e))
  ·have key:H3 b=some (.lst (l.map V.int))/\l.length=9:=by
    refine⟨?_,h9 l (List.mem_of_mem_take (zmg e2))⟩
    rw[List.getElem?_append] at e1
    split at e1
    ·rename_i hj
     have hji:j<i:=by omega
     refine s3 _ _ (s1 _ _ (h3 j b l e1 ?_))
     rw[List.getElem?_take] at e2 ⊢
     rw[if_pos (by omega)] at e2
     rw[if_pos hji];exact e2
    ·rename_i hj
     have hj0:j - as.length=0:=by
      have:=(zge.mp e1).1
      simp at this;omega
     have hji:j=i:=by omega
     rw[hj0] at e1
     simp at e1
     subst e1
     rw[List.getElem?_take,if_pos (by omega),hji,List.getElem?_eq_getElem hi'] at e2
     cases e2
     exact ha
   rw[zam (λz=>by
    have q:=key.1
    rw[z] at q
    have:=znn q hD3
    rw[this] at key;exact absurd key.2 (by decide))]
   exact key.1
 ·have e:i=n:=by omega
  subst e
  refine .inl ⟨wk.stop H hs,fin _ _ hs hD ⟨as,hH,by omega,λj a l e1 e2=>h3 j a l e1 ?_⟩⟩
  rw[List.take_of_length_le (by omega)];exact e2
theorem hr_u {k:Nat}{A:Around}(hr:Room k A):A.units+1<cLine:=by have:=hr.units;omega
section
variable {σ:St}{H:Hp}{Q:VK}{td ty tx tv:TE}{D:Ends}
theorem zoQ (h:td σ H λx H1=>∃ a,x=.ref a/\IsD H1 a/\ty σ H1 λy H2=>tx σ H2 λz H3=>∃ o,DGet H3 a y o/\Q (o.getD z) H3):znU td ty tx σ H Q:=h
theorem zqe (h:td σ H λx H1=>ty σ H1 λy H2=>∃ a v,x=.ref a/\DGet H2 a y (some v)/\Q v H2):zpF td ty σ H Q:=h
theorem i_din (h:ty σ H λy H1=>td σ H1 λx H2=>∃ a o,x=.ref a/\DGet H2 a y o/\Q (.bl o.isSome) H2):tDIn ty td σ H Q:=h
theorem zno (h:ty σ H λy H1=>td σ H1 λx H2=>∃ a o,x=.ref a/\DGet H2 a y o/\Q (.bl (!o.isSome)) H2):zlC ty td σ H Q:=h
theorem zqf (h:tv σ H λv H1=>td σ H1 λx H2=>ty σ H2 λy H3=>∃ a H4,x=.ref a/\DPut H3 a y v H4/\D.nx σ H4):zpG td ty tv D σ H:=h
theorem zhk {trs:List (TE × TE)}(h:∀ p,H p=none->zf7 trs σ (upd H p (.dK [])) λps H2=>H2 p=some (.dK [])/\∃ kvs:List (Key × V),ps=kvs.map (λkv=>(kV kv.1,kv.2))/\kvs.length<=15/\Q (.ref p) (upd H2 p (.dK (zbB [] kvs)))):zpH trs σ H Q:=h
theorem znp {R:List (V × V)->Hp->Prop}(h:R [] H):zf7 [] σ H R:=h
theorem zoR {tk:TE}{r:List (TE × TE)}{R:List (V × V)->Hp->Prop}(h:tk σ H λx H1=>tv σ H1 λy H2=>zf7 r σ H2 λps H3=>R ((x,y)::ps) H3):zf7 ((tk,tv)::r) σ H R:=h
end
end L2
namespace L2
open PySem PySem.Spec PyProof.Rows PySem.W
theorem Ls.more {H:Hp}{na p:Addr}{ls ms:List (List Int)}{xs:List V}{bs:List Addr}(h:Ls H na ls)(e:H na=some (.lst xs))(hl:bs.length=ms.length)(hb:∀ (i:Nat) a l,bs[i]?=some a->ms[i]?=some l->H a=some (.lst (l.map V.int)))(hp:H p=none):Ls (L2.upd H p (.lst (xs++bs.map V.ref))) p (ls++ms):=by
 obtain⟨as,h1,h2,h3⟩:=h
 rw[h1] at e;cases e
 refine⟨as++bs,by rw[zad,List.map_append],by simp[h2,hl],λi a l e1 e2=>zag hp _ _ _ ?_⟩
 rw[List.getElem?_append] at e1 e2
 rw[<-h2] at e2
 split at e1
 ·rename_i z;rw[if_pos z] at e2;exact h3 i a l e1 e2
 ·rename_i z;rw[if_neg z] at e2;exact hb _ a l e1 e2
theorem zeT {H:Hp}{a:Addr}{l:List Int}(h:H a=some (.lst (l.map V.int))):∀ (i:Nat) b m,[a][i]?=some b->[l][i]?=some m->H b=some (.lst (m.map V.int)):=λi b m e1 e2=>by
 cases i with
 | zero=>simp at e1 e2;subst e1;subst e2;exact h
 | succ i=>simp at e1
theorem zcA {H:Hp}{a c:Addr}{l k:List Int}(h:H a=some (.lst (l.map V.int)))(h':H c=some (.lst (k.map V.int))):∀ (i:Nat) b m,[a,c][i]?=some b->[l,k][i]?=some m->H b=some (.lst (m.map V.int)):=λi b m e1 e2=>by
 cases i with
 | zero=>simp at e1 e2;subst e1;subst e2;exact h
 | succ i=>
  cases i with
  | zero=>simp at e1 e2;subst e1;subst e2;exact h'
  | succ i=>simp at e1
theorem zcb {K:Fg}{H:Hp}{a:Addr}{bs:List Addr}{ms:List (List Int)}(e:H a=some (.lst (bs.map V.ref)))(hl:bs.length=ms.length)(hb:∀ (i:Nat) b l,bs[i]?=some b->ms[i]?=some l->H b=some (.lst (l.map V.int))):Rep K H (.lst (ms.map nums)) (.ref a):=(show Ls H a ms from ⟨bs,e,hl,hb⟩).rep
end L2

namespace L2
open PySem PySem.Spec PyProof.Rows PySem.W
def tFs (te:TE):TE:=λσ H Q=>te σ H λx H1=>∃ i:Int,x=.int i/\i.natAbs<zbv/\∀ z,Q (.str z) H1
section
variable {X:Cx}{e:Expr}{te:TE}{a b:Str}{k1 k2:Nat}{p1 p2 p3 pos:Pos}
theorem zqg (he:PE X e te)(ha:a.length<=400)(hb:b.length<=400):PE X (.JoinedStr [.Constant (.str a) k1 p1,.FormattedValue e (-1) none p2,.Constant (.str b) k2 p3] pos) (tFs te):=by
 intro pins s σ H Q I h
 have e0:(Str.empty++a).length=a.length:=by rw[strLen_append];show 0+a.length=_;omega
 refine PySem.wpAny_JoinedStr ?_
 show Joins _ _ _ [eval (.Constant (.str a) k1 p1) X.env,eval (.FormattedValue e (-1) none p2) X.env,eval (.Constant (.str b) k2 p3) X.env] _ _ _
 refine Calls.Constant_str ⟨a,_,rfl,by rw[e0];exact zal (by omega),?_⟩
 refine PySem.wpAny_FormattedValue_plain (thn (he pins _ σ H _ (I.tok _) h) λv s1 ⟨x,H1,I1,rx,i,ex,hi,q⟩=>?_)
 subst ex
 obtain⟨t,rfl⟩:=rx
 have l2:=zgk hi
 have e1:((Str.empty++a)++Str.ofString (toString i)).length=a.length+(Str.ofString (toString i)).length:=by rw[strLen_append,e0]
 have e2:(((Str.empty++a)++Str.ofString (toString i))++b).length=a.length+(Str.ofString (toString i)).length+b.length:=by rw[strLen_append,e1]
 refine PySem.wpAny_formatField_int (ziE hi) ⟨_,_,rfl,by rw[show ((Str.empty++a)++_).length=_ from e1];exact zal (by omega),?_⟩
 refine Calls.Constant_str ⟨b,_,rfl,by rw[show (((Str.empty++a)++_)++b).length=_ from e2];exact zal (by omega),?_⟩
 exact⟨by rw[show (((Str.empty++a)++_)++b).length=_ from e2];exact zal (by omega),.str _,H1,(((I1.tok _).tok _).tok _).tok _,⟨_,rfl⟩,q _⟩
theorem i_fs {σ:St}{H:Hp}{Q:VK}(h:te σ H λx H1=>∃ i:Int,x=.int i/\i.natAbs<zbv/\∀ z,Q (.str z) H1):tFs te σ H Q:=h
end
theorem zn6 {P:Program}{w:World}{X:Cx} : zcM (CX1 P w) X E0:=λ_ _ _ _ _ _ _ h=>by
 obtain⟨_,_,_,_,_,_,_,_,_,h⟩:=h
 exact h.elim
theorem zoS {sp:Sp}{t:TA}{E:XK}{σ:St}{H:Hp}{Q:VK}(h:t σ H λvs H1=>sp vs H1 Q E):zik sp [] E t σ H Q:=by
 have e:(λ(vs:List V) (H1:Hp)=>sp (vs++[]) H1 Q E)=λvs H1=>sp vs H1 Q E:=by funext vs H1;rw[List.append_nil]
 show t σ H λvs H1=>sp (vs++[]) H1 Q E
 rw[e];exact h
theorem zoT {C:Value}{E:XK}{t:TA}{D:Ends}{σ:St}{H:Hp}(h:t σ H λvs H1=>vs.length<=sizeLine/\E C none H1):zn2 C E t D σ H:=h
end L2
namespace L2
open PySem PySem.Spec PyProof.Rows PySem.W
theorem Acc.ext {H H2 H3:Hp}{da b:Addr}{ds ds2:List D}{vs zs:List V}(a:Acc H da H2 ds vs)(f:Free H H2)(s:Same H2 H3)(n:New H2 H3 (.lst ds2) (.ref b))(hb:H3 b=some (.lst zs)):Acc H da (upd H3 da (.lst (vs++zs))) (ds++ds2) (vs++zs):=by
 obtain⟨fp,h1,h2,h3,h4,h5⟩:=a
 obtain⟨b',zs',fq,e,b0,g1,g2,g3,g4,g5⟩:=New.lso n
 cases e
 have ez:zs'=zs:=by rw[g1] at hb;injection hb with hb;injection hb
 subst ez
 have hd3:=s _ _ h1
 have tk:=zcn (o:=.lst (vs++zs')) hd3
 have ndq:da∉fq:=λm=>by have:=g5 da m;rw[h1] at this;cases this
 have k1:∀ c∈fp,(upd H3 da (.lst (vs++zs'))) c=H2 c:=λc hc=>by
  obtain⟨o,ho⟩:=zah.has ds h2 c hc
  rw[zam (show c≠da from λz=>h4 (by rw[<-z];exact hc)),ho]
  exact s _ _ ho
 have k2:∀ c∈fq,(upd H3 da (.lst (vs++zs'))) c=H3 c:=λc hc=>by rw[zam (show c≠da from λz=>ndq (by rw[<-z];exact hc))]
 refine⟨fp++fq,zad,(zah.frame (s.tups.trans tk) ds k1 h2).append (zah.frame tk ds2 k2 g2),List.nodup_append.mpr ⟨h3,g3,λx hx y hy z=>?_⟩,λm=>(zma.mp m).elim h4 ndq,λc m=>?_⟩
 ·subst z
  obtain⟨o,ho⟩:=zah.has ds h2 x hx
  have:=g5 x hy
  rw[ho] at this;cases this
 ·rcases zma.mp m with m | m
  ·exact h5 c m
  ·exact f c (g5 c m)
end L2
namespace L2
open PySem PySem.Spec PyProof.Rows PySem.W
theorem i_try {tb:XK->TS}{th:Value->Addr->TS}{D:Ends}{σ:St}{H:Hp}(h:tb (λC _ H'=>∀ a,th C a D σ H') D σ H):tTry tb th D σ H:=h
end L2

namespace L2
open PySem PySem.Spec PyProof.Rows PySem.W PySem.Calls
theorem zjw:∀ {ns:List Int}{us:List Value},ns.length=us.length->(∀ (j:Nat) (u:Value),us[j]?=some u->∃ (i:Int) (t:Tok),ns[j]?=some i/\u=Value.int i t)->Vals (ns.map V.int) us
 | [],[],_,_=>.nil
 | [],_::_,e,_=>by simp at e
 | _::_,[],e,_=>by simp at e
 | n::ns,u::us,e,h=>by
  obtain⟨i,t,e1,e2⟩:=h 0 u rfl
  have e1:n=i:=by simpa using e1
  subst e1
  exact .cons ⟨t,e2⟩ (zjw (by simpa using e) λj v hv=>by
   obtain⟨i,t,q1,q2⟩:=h (j+1) v (by simpa using hv)
   exact⟨i,t,by simpa using q1,q2⟩)
def zn7:List V->Hp->VK->Prop:=λxs H Q=>∃ (a:Addr) (kvs:List (Key × V)) (ns:List Int),xs=[.ref a]/\H a=some (.dK kvs)/\kvs.map (·.1)=ns.map Sum.inl/\ns.length<64/\∀ (l:Addr) (ns':List Int),H l=none->ns'.Perm ns->ns'.Pairwise (·<=·)->Q (.ref l) (upd H l (.lst (ns'.map V.int)))
theorem zcc {X:Cx}(hc:X.calm=true):zbC X (.builtin "sorted") zn7:=by
 intro pins s σ H xs us Q I r h
 obtain⟨a,kvs,ns,rfl,ha,hk,h64,q⟩:=h
 obtain⟨u,rfl,rx⟩:=zhB r
 cases rx
 obtain⟨z,hd,vs,rel,dd⟩:=zjn I.hok ha
 obtain⟨ep,hat⟩:=dd.dictAt
 have hl:=rel.length
 have lk:kvs.length=ns.length:=by
  have:=congrArg List.length hk
  simpa using this
 refine call_function_entry kind_sorted plain_sorted entry_sorted (args_sorted1 _) ?_
 unfold Builtin.«sorted»
 refine wpAny_bind (m:=checkCount "sorted" 1 1 _) (wpAny_pure ?_)
 refine wpAny_bind (kdu_collect (A:=X.A.in1) (kdl_dict (knd:=za9 X.prog X.w) (kvs:=vs) (ep:=ep) hd) (show X.A.in1.handled=none from I.ok.hd hc) hat (by rw[<-hl];exact z) λh' tk acc hk' hacc=>?_)
 have hla:acc.toList.length=vs.length:=by rw[Array.length_toList];exact hacc.1
 have vl:Vals (ns.map V.int) acc.toList:=zjw (by omega) λj u hu=>by
  obtain⟨k,x,hx,hk2⟩:=hacc.2 j u (by rw[<-Array.getElem?_toList];exact hu)
  have e:(vs.map (·.1))[j]?=some k:=by rw[zgm,hx];rfl
  rw[<-rel.keys,hk,zgm] at e
  obtain⟨i,hi,rfl⟩:=zme.mp e
  rcases za7 (show zif (Sum.inl i) u=true from hk2) with ⟨i',t,e,rfl⟩ | ⟨x',t,e,rfl⟩
  ·cases e;exact⟨i,t,hi,rfl⟩
  ·cases e
 refine wpAny_bind (wpAny_newList ?_ (by rw[hla,<-hl];exact z))
 have hoL:(h'.push {cls:=.type "list",data:=.seq acc.toList.toArray}).get? h'.objs.size=some (seqObj "list" acc.toList.toArray 0):=Heap.get?_push_size _ rfl
 have I1:Inv X pins σ H {s with heap:=h',toks:=tk}:=I.kept hk'
 refine wpAny_bind (wpAny_holding (wpAny_call_entry slot_list_sort ⟨_,hoL,rfl⟩ entry_list_sort (list_sort_tree hoL (zkx vl) (by omega) λout ns' a1 a2 a3=>⟨_,rfl,?_⟩) (args_list_sort _)))
 refine wpAny_pure ⟨_,rfl,?_⟩
 obtain⟨e,he⟩:=sortedHeap_at (out:=out) hoL
 have zn:(ns'.map V.int).length<=sizeLine:=by rw[zlm,a2.length_eq];exact zal (by omega)
 refine⟨.ref h'.objs.size,_,I1.laid (a:=h'.objs.size) (t':=tk) (λb u hu=>?_) (Nat.le_refl _) (show zbD X.prog X.w _ _ _ (.lst (ns'.map V.int)) from ⟨zn,out.toList,e,zf9 a1,by rw[Array.toArray_toList];exact he⟩),rfl,q _ _ I1.fresh a2 a3⟩
 have hu:h'.get? b=some u:=hu
 have hlt:=Heap.lt_size hu
 show (sortedHeap (h'.push {cls:=.type "list",data:=.seq acc.toList.toArray}) h'.objs.size acc.toList out).get? b=some u
 rw[sortedHeap_old (Nat.ne_of_lt hlt) (by rw[size_push'];exact Nat.lt_succ_of_lt hlt)]
 exact Heap.get?_push_of_some _ hu
def zn8:List V->Hp->VK->Prop:=λxs H Q=>∃ (a:Addr) (kvs:List (Key × V)) (ns:List Int),xs=[.ref a]/\H a=some (.dK kvs)/\kvs.map (·.1)=ns.map Sum.inl/\∀ (l:Addr),H l=none->Q (.ref l) (upd H l (.lst (ns.map V.int)))
theorem zkG {X:Cx}(hc:X.calm=true):zbC X (.type "list") zn8:=by
 intro pins s σ H xs us Q I r h
 obtain⟨a,kvs,ns,rfl,ha,hk,q⟩:=h
 obtain⟨u,rfl,rx⟩:=zhB r
 cases rx
 obtain⟨z,hd,vs,rel,dd⟩:=zjn I.hok ha
 obtain⟨ep,hat⟩:=dd.dictAt
 have hl:=rel.length
 have lk:kvs.length=ns.length:=by
  have:=congrArg List.length hk
  simpa using this
 refine kdl_call (kdl_dict (knd:=za9 X.prog X.w) (kvs:=vs) (ep:=ep) hd) (I.ok.hd hc) hat (by rw[<-hl];exact z) λh' tk acc c' hk' hS' hacc=>?_
 have hla:acc.toList.length=vs.length:=by rw[Array.length_toList];exact hacc.1
 have vl:Vals (ns.map V.int) acc.toList:=zjw (by omega) λj u hu=>by
  obtain⟨k,x,hx,hk2⟩:=hacc.2 j u (by rw[<-Array.getElem?_toList];exact hu)
  have e:(vs.map (·.1))[j]?=some k:=by rw[zgm,hx];rfl
  rw[<-rel.keys,hk,zgm] at e
  obtain⟨i,hi,rfl⟩:=zme.mp e
  rcases za7 (show zif (Sum.inl i) u=true from hk2) with ⟨i',t,e,rfl⟩ | ⟨x',t,e,rfl⟩
  ·cases e;exact⟨i,t,hi,rfl⟩
  ·cases e
 exact⟨.ref s.heap.objs.size,_,I.laid (t':=tk) hk' (Nat.le_refl _) (show zbD X.prog X.w _ _ _ (.lst (ns.map V.int)) from ⟨by rw[zlm];omega,acc.toList,c',vl,by rw[Array.toArray_toList];exact hS'⟩),rfl,q _ I.fresh⟩
theorem zoU {H:Hp}{Q:VK}{a:Addr}{kvs:List (Key × V)}{ns:List Int}(h:H a=some (.dK kvs))(e:kvs.map (·.1)=ns.map Sum.inl)(q:∀ (l:Addr),H l=none->Q (.ref l) (upd H l (.lst (ns.map V.int)))):zn8 [.ref a] H Q:=⟨a,kvs,ns,rfl,h,e,q⟩
theorem zcB:bootBuiltins "sorted"=some (.builtin "sorted"):=by decide +kernel
theorem zoV {H:Hp}{Q:VK}{a:Addr}{kvs:List (Key × V)}{ns:List Int}(h:H a=some (.dK kvs))(e:kvs.map (·.1)=ns.map Sum.inl)(l:ns.length<64)(q:∀ (l:Addr) (ns':List Int),H l=none->ns'.Perm ns->ns'.Pairwise (·<=·)->Q (.ref l) (upd H l (.lst (ns'.map V.int)))):zn7 [.ref a] H Q:=⟨a,kvs,ns,rfl,h,e,l,q⟩
theorem zcC:∀ {a b:List Int},a.Perm b->a.Pairwise (·<=·)->b.Pairwise (·<=·)->a=b
 | [],b,p,_,_=>by rw[List.nil_perm.mp p]
 | x::a,[],p,_,_=>by have:=p.length_eq;simp at this
 | x::a,y::b,p,h1,h2=>by
  have e:x=y:=by
   have m1:x∈y::b:=p.mem_iff.mp List.mem_cons_self
   have m2:y∈x::a:=p.mem_iff.mpr List.mem_cons_self
   rcases List.mem_cons.mp m1 with z | z
   ·exact z
   rcases List.mem_cons.mp m2 with w | w
   ·exact w.symm
   have u1:=(List.pairwise_cons.mp h2).1 x z
   have u2:=(List.pairwise_cons.mp h1).1 y w
   omega
  subst e
  rw[zcC (List.perm_cons x |>.mp p) (List.pairwise_cons.mp h1).2 (List.pairwise_cons.mp h2).2]
theorem zqh {σ:St}{H:Hp}{Q:VK}{td ty:TE}(h:td σ H λx H1=>∃ a,x=.ref a/\IsD H1 a/\ty σ H1 λy H2=>∃ kvs k v,H2 a=some (.dK kvs)/\y=kV k/\valV kvs k=some v/\Q v (upd H2 a (.dK (zbZ kvs k)))):znV td ty σ H Q:=h
theorem zqi {σ:St}{H:Hp}{Q:VK}(h:∀ p,H p=none->Q (.ref p) (upd H p (.dK []))):znT σ H Q:=h
theorem ziH {κ:Type}[DecidableEq κ](k j:κ):∀ kvs:List (κ × V),valV (zbZ kvs k) j=if j=k then none else valV kvs j
 | []=>by simp[zbZ,valV]
 | p::r=>by
  have ih:=ziH k j r
  by_cases e:p.1=k
  ·rw[zlJ e,ih]
   by_cases z:j=k
   ·rw[if_pos z,if_pos z]
   ·rw[if_neg z,if_neg z,zbp (λw=>z (w.symm.trans e))]
  ·rw[zlK e]
   by_cases w:p.1=j
   ·rw[zbx w,zbx w,if_neg (λz=>e (w.trans z))]
   ·rw[zbp w,zbp w,ih]
section
variable {X:Cx}{e:Expr}{te:TE}{a:Str}{k1:Nat}{p1 p2 pos:Pos}
theorem zn9 (he:PE X e te)(ha:a.length<=400):PE X (.JoinedStr [.Constant (.str a) k1 p1,.FormattedValue e (-1) none p2] pos) (tFs te):=by
 intro pins s σ H Q I h
 have e0:(Str.empty++a).length=a.length:=by rw[strLen_append];show 0+a.length=_;omega
 refine PySem.wpAny_JoinedStr ?_
 show Joins _ _ _ [eval (.Constant (.str a) k1 p1) X.env,eval (.FormattedValue e (-1) none p2) X.env] _ _ _
 refine Calls.Constant_str ⟨a,_,rfl,by rw[e0];exact zal (by omega),?_⟩
 refine PySem.wpAny_FormattedValue_plain (thn (he pins _ σ H _ (I.tok _) h) λv s1 ⟨x,H1,I1,rx,i,ex,hi,q⟩=>?_)
 subst ex
 obtain⟨t,rfl⟩:=rx
 have l2:=zgk hi
 have e1:((Str.empty++a)++Str.ofString (toString i)).length=a.length+(Str.ofString (toString i)).length:=by rw[strLen_append,e0]
 refine PySem.wpAny_formatField_int (ziE hi) ⟨_,_,rfl,by rw[show ((Str.empty++a)++_).length=_ from e1];exact zal (by omega),?_⟩
 exact⟨by rw[show ((Str.empty++a)++_).length=_ from e1];exact zal (by omega),.str _,H1,((I1.tok _).tok _).tok _,⟨_,rfl⟩,q _⟩
end
section
variable {X:Cx}{k j:Nat}{C:Addr}{ps:List Str}{sp:Sp}{x:Str}{p pos:Pos}
theorem zqj (G:Mkr X.prog X.w X.K X.mg X.base x C ps j sp)(hr:Room k X.A)(hg:Gl X x)(hj:j+1<=k:=by decide)(hdb:(x == ("__debug__" : Str))=false:=by decide):PE X (.Call (.Name x p) [] [] pos) (zlp C sp [] E0 tNil):=by
 obtain⟨f,fd,M,F,hb,hm⟩:=G.ex
 exact zmY M F (hr.mono hj) hg hm hb .nil zff hdb
end
theorem zqk {C:Addr}{m:Str}{sp:Sp}{E:XK}{ta:TE}{t:TA}{σ:St}{H:Hp}{Q:VK}(h:ta σ H λx H1=>MethI C m x H1 (t σ H1 λvs H2=>sp (x::vs) H2 Q E)):zku C m sp [] E ta t σ H Q:=by
 have e:(λ(x:V) (vs:List V) (H2:Hp)=>sp (x::(vs++[])) H2 Q E)=λx vs H2=>sp (x::vs) H2 Q E:=by funext x vs H2;rw[List.append_nil]
 show ta σ H λx H1=>MethI C m x H1 (t σ H1 λvs H2=>(λ(x:V) (vs:List V) (H2:Hp)=>sp (x::(vs++[])) H2 Q E) x vs H2)
 rw[e];exact h
theorem zoW {σ:St}{H:Hp}{Q:VK}{td ty tx:TE}(h:td σ H λx H1=>∃ a,x=.ref a/\IsD H1 a/\ty σ H1 λy H2=>tx σ H2 λz H3=>∃ kvs k,H3 a=some (.dK kvs)/\y=kV k/\(∀ v,valV kvs k=some v->Q v (upd H3 a (.dK (zbZ kvs k))))/\(valV kvs k=none->Q z H3)):znW td ty tx σ H Q:=h
end L2

namespace L2
open PySem PySem.Spec PyProof.Rows PySem.SeqAt
theorem ndS {N:List Str}(h:N.Nodup:=by decide +kernel):N.Nodup:=h
theorem COk.m {sc0:Scope}{N:List Str}{scope:Scope}{N':List Str}{ms:List Bool}(kind:scope.kind=.function:=by rfl)(nocell:∀ y∈scope.names,y.2≠.cell:=by decide +kernel)
  (nm:∀ y∈scope.names,y.2=.local->scope.names.lookup y.1=some .local:=by decide +kernel) (fr:∀ y∈scope.names,y.2=.free->sc0.names.lookup y.1=some .cell\/sc0.names.lookup y.1=some .free:=by decide +kernel)
  (len:ms.length=N'.length:=by rfl) (sl:zgd N scope N' ms (N.map some)=true:=by decide +kernel):COk sc0 N scope N' ms:=COk.mk' kind nocell nm fr len sl
section
variable {X:Cx}{k:Nat}{pins:List (Addr × Obj)}{σ:St}{H:Hp}{s:Shared}
end
theorem i_pop {H:Hp}{Q:VK}{a:Addr}{xs:List V}{y:V}(h:H a=some (.lst xs))(e:xs[xs.length - 1]?=some y)(q:Q y (upd H a (.lst xs.dropLast))):rPop (.ref a) [] H Q:=⟨a,xs,y,rfl,rfl,h,e,q⟩
mutual
theorem RepF.hasL {H:Hp} : ∀ (d:D) {v:V}{fp:List Addr},RepF H d v fp->∀ a∈fp,∃ xs,H a=some (.lst xs)
 | .non,_,_,h,a,m=>by unfold RepF at h;rw[h.2] at m;cases m
 | .bl _,_,_,h,a,m=>by unfold RepF at h;rw[h.2] at m;cases m
 | .int _,_,_,h,a,m=>by unfold RepF at h;rw[h.2] at m;cases m
 | .str _,_,_,h,a,m=>by unfold RepF at h;rw[h.2] at m;cases m
 | .lst ds,_,_,h,b,m=>by
  unfold RepF at h
  obtain⟨a,xs,r,h1,h0,h2,h3⟩:=h
  subst h0
  rcases List.mem_cons.mp m with rfl | m
  ·exact⟨_,h2⟩
  ·exact zah.hasL ds h3 b m
 | .tup ds,_,_,h,b,m=>by
  unfold RepF at h
  obtain⟨a,xs,h1,h2,h3⟩:=h
  exact zah.hasL ds h3 b m
theorem zah.hasL {H:Hp} : ∀ (ds:List D) {vs:List V}{fp:List Addr},zah H ds vs fp->∀ a∈fp,∃ xs,H a=some (.lst xs)
 | [],_,_,h,a,m=>by unfold zah at h;rw[h.2] at m;cases m
 | d::ds,_,_,h,b,m=>by
  unfold zah at h
  obtain⟨v,r,f,g,h1,h0,h2,h3⟩:=h
  subst h0
  rcases zma.mp m with m | m
  ·exact RepF.hasL d h2 b m
  ·exact zah.hasL ds h3 b m
end
end L2

namespace L2
open PySem PySem.Spec PySem.Calls PyProof.Rows PySem.W
theorem znq {K:Fg}{x t c:Value}{H:Heap->Prop}(ty:∀ (M:Model) (h:Heap),K.In h->H h->Looks M h (typeOf x) t)(e:kitOne K t c=some true):Answers (λs=>K.In s.heap/\H s.heap) x c true:=by
 intro dep tk prog w A R s hs
 obtain⟨h0,g,d,tt,os⟩:=s
 obtain⟨⟨X,p⟩,hq⟩:=hs
 have LT:=ty (model prog w) h0 X p
 unfold kitOne at e
 unfold Builtin.«isinstance.nested»
 refine wpAny_bind (LT.at ?_)
 by_cases q:(t == c)=true
 ·rw[if_pos q]
  first
   | ((repeat lk);exact hq tt)
   | exact wpAny_bind (wpAny_rule (hq tt))
   | exact wpAny_bind (wpAny_rule (wpAny_pure (hq tt)))
 ·rw[if_neg q] at e
  rw[if_neg q]
  obtain⟨hty,his,hsub⟩:=kit_cls (M:=model prog w) X e
  have LI:Looks (model prog w) h0 (isInstance x c) true:=LT.andThen hsub
  refine wpAny_bind (hty.at ?_)
  rw[if_pos (by decide)]
  k_delta "plainIsInstance"
  refine wpAny_bind (wpAny_bind (his.at ?_))
  simp only[Bool.not_true,Bool.false_eq_true,if_false]
  refine wpAny_bind (LI.at ?_)
  first
   | exact wpAny_pure (wpAny_pure (hq tt))
   | (simp only[if_true];first | exact wpAny_pure (wpAny_pure (hq tt)) | exact wpAny_pure (hq tt) | exact wpAny_bind (wpAny_pure (wpAny_pure (hq tt))))
structure Kn (u:TS)(D:Ends)(NX:St->Hp->Prop):Prop where
 on:∀ σ H,u D σ H->NX σ H
theorem zoa {t u:TS}{D:Ends}{σ:St}{H:Hp}(h:∀ NX:St->Hp->Prop,Kn u D NX->t {D with nx:=NX} σ H):tSeq t u D σ H:=h _ ⟨λ_ _ q=>q⟩
theorem goOn {u:TS}{D:Ends}{NX:St->Hp->Prop}{σ:St}{H:Hp}(k:Kn u D NX)(h:u D σ H):NX σ H:=k.on _ _ h
theorem zql {c:TT}{t u:TS}{D:Ends}{σ:St}{H:Hp}(h:∀ T:St->Hp->Prop,Kn t D T->∀ U:St->Hp->Prop,Kn u D U->c σ H λb H1=>if b=true then T σ H1 else U σ H1):tIfS c t u D σ H:=h _ ⟨λ_ _ q=>q⟩ _ ⟨λ_ _ q=>q⟩
end L2

namespace L2
open PySem PySem.Spec PySem.Calls PyProof.Rows PySem.W
theorem zqm {K:Fg}{a:Addr}{n q:Str}{ps:Arguments}{b:List Stmt}{sc:Scope}(h:zaN K a=some (zod n q ps b sc))(hc:zao K a q=true) :
  ∃ oc od sl kV dc pm an cd ct,K.lookup a=some ⟨oc,od,.func (fnOf n q ps b sc .none kV dc pm an cd ct),sl⟩/\codeIn K cd q=true/\keepIn K (.ref a)=true:=by
 unfold zaN at h
 unfold zao at hc
 split at h
 ·rename_i oc od f sl e
  rw[e] at hc
  simp only[Bool.and_eq_true] at hc
  obtain⟨c1,c2⟩:=hc
  obtain⟨f1,f2,f3,f4,f5,f6,f7,f8,f9,f10,f11,f12,f13,f14,f15⟩:=f
  have h:=Option.some.inj h
  unfold zod at h
  simp only[Prod.mk.injEq] at h
  obtain⟨rfl,rfl,rfl,rfl,rfl,rfl,rfl,rfl,rfl⟩:=h
  exact⟨oc,od,sl,_,_,_,_,_,_,e,c1,c2⟩
 ·cases h
theorem zhl {K:Fg}{C:Addr}{bm:List Value}{newId:String}(h:zfw K C bm newId=true) :
  ∃ nm q N bs hdct sn sub ab col dd k0 k1 k2 k3 k5,K.lookup C=some (excClassObj nm q C N bs bm hdct sn sub ab col dd k0 k1 k2 k3 k5 newId):=by
 unfold zfw at h
 split at h
 ·rename_i cl dd c sl e
  simp only[Bool.and_eq_true] at h
  obtain⟨⟨⟨h1,h2⟩,h3⟩,h4⟩:=h
  obtain⟨c1,c2,c3,c4,c5,c6,c7,c8,c9,c10,c11⟩:=c
  have h1:=eq_of_beq h1
  have h2:c3=.ref C::bm:=eq_of_beq h2
  have h30:c11=false:=by cases c11 <;> first | rfl | cases h3
  subst h1 h2 h30
  split at h4
  ·rename_i k0 k1 k2 k3 v k5 es
   have h4:=eq_of_beq h4
   subst h4
   have es:sl=#[k0,k1,k2,k3,some (.builtin newId),k5]:=by rw[<-Array.toArray_toList (xs:=sl),es]
   subst es
   exact⟨_,_,_,_,_,_,_,_,_,_,_,_,_,_,_,e⟩
  ·cases h4
 ·cases h
theorem zke {K:Fg}{a:Addr}{vs:List Value}(h:zg6 K a vs=true):∃ dd n ss,K.lookup a=some ⟨.type "tuple",dd,.seq vs.toArray n,ss⟩:=by
 unfold zg6 at h
 split at h
 ·rename_i cl dd xs n ss e
  simp only[Bool.and_eq_true] at h
  obtain⟨h1,h2⟩:=h
  have h1:=eq_of_beq h1
  have h2:xs.toList=vs:=eq_of_beq h2
  subst h1 h2
  exact⟨dd,n,ss,by rw[Array.toArray_toList];exact e⟩
 ·cases h
theorem walk_ofE {l:PySem.W.OpenLaw}{n k:Nat}{q:Program}{loose:List Str}{XP:(Str->Option Value)->Heap->Prop}{YP:World->Heap->Prop}{d:DefRec}{S:Fg->Prop}{CX:CXT}{sp:Fg->Sp}{x:Str}
  (hn:l.most=some n) (hn2:n<=sizeLine) (hdf:d.params.defaults=[]) (hr:Room k callerA)
  (hY:∀ (w:World) (h:Heap),YP w h->∃ K:Fg,K.In h/\S K)
  (F:∀ (w:World) (K:Fg) (mg:Str->Option Value) (fa:Addr) (h:Heap),S K->K.In h->h.Ns mainGlobals mg->mg d.name=some (.ref fa)->
   ∃ fd:FuncData,(∀ (s:Shared) (u:Value),BindsTo s fd ⟨[u],[]⟩ [(x,u)])/\
    ∀ base:Heap,K.In base->base.Ns mainGlobals mg->FnOk l.prog w K mg base CX k fa fd [x] (sp K))
  (hsp:∀ (K:Fg) (H:Hp) (a:Addr) (ns:List Int),ns.length<=n->Only H->SqL K H a (ns.map V.int)->sp K [.ref a] H (λv _=>v=.bl true) λ_ _ _=>False)
  (hCX:∀ (H:Hp) (s:Shared) (e:Value) (s':Shared),CX [] H s (λ_ _ _=>False) e s'->False) :
  PySem.W.WalkO q loose XP YP l.row.toRowW d [] (λf vs=>PySem.call f vs):=by
 refine Att.attach_call hn hdf λw s₀ s₁ mg mb fa o pm cd doc a vs ns G Y ho hd hcd hmg hobj hints hlen hg=>?_
 obtain⟨K,KX,hS⟩:=hY w _ Y
 obtain⟨fd,hb,hF⟩:=F w K mg fa _ hS KX G.T.g hmg
 exact zm3 KX G.T.g G.T.b G.T.builtins G.T.nolimit hg hobj hints (Nat.le_trans hlen hn2) hr hF hb (λH hO hS=>hsp K H a ns hlen hO hS) λH e s'=>hCX H s₁ e s'
end L2

set_option maxHeartbeats 0
namespace L2
open PySem PySem.Spec PySem.Calls PyProof.Rows
section
variable {prog:Program}{w:World}{A:Around}{E:Value->Shared->Prop}{h:Heap}{g:Array GenState}{d:Drawn}{t:Nat}{os:OsState}{a:Addr}{o:Obj}
end
section
variable {prog:Program}{w:World}{A:Around}{E:Value->Shared->Prop}{h:Heap}{g:Array GenState}{d:Drawn}{t:Nat}{os:OsState}{a:Addr}{o:Obj}{its:Array Value}{n:Nat}
end
end L2

namespace L2
open PySem PySem.Spec PySem.Calls PyProof.Rows
section
variable {prog:Program}{w:World}{K:Type} [DecidableEq K] {knd:KeyKind prog w K}{A:Around}
end
end L2

namespace L2
open PySem PySem.Spec PySem.Calls PyProof.Rows
section
variable {prog:Program}{w:World}{K:Type} [DecidableEq K] {knd:KeyKind prog w K}{A:Around}{E:Value->Shared->Prop}{s:Shared}
end
end L2

namespace L2
open PySem PySem.Spec PySem.Calls PyProof.Rows PySem.W
theorem zl2:bootBuiltins "dict"=some (.type "dict"):=by decide +kernel
end L2

namespace L2
open PySem PySem.Spec PySem.Calls PyProof.Rows PySem.W
section
variable {prog:Program}{w:World}{A:Around}{E:Value->Shared->Prop}{s:Shared}{R:Result->Shared->Prop}
end
end L2

namespace L2
open PySem PySem.Spec PySem.Calls PyProof.Rows PySem.W
section
variable {prog:Program}{w:World}{A:Around}{E:Value->Shared->Prop}{s:Shared}{K:Fg}{x C D:Addr}{ox:Obj}{od:Obj}{odo:Option Obj}{name:Str}
theorem znr {Q:Option Value->Shared->Prop}(X:K.In s.heap)(I:InstAt s.heap x ox D odo)(hga:findIn K (.ref D) "__getattribute__"=some (some (.builtin "BaseException.__getattribute__")))(hk:findIn K (.ref D) "__getattr__"=some none)(hb:mroIn K D (.type "BaseException")=some true)
  (hf:findObj K D odo "__class__"=some (.bind (.builtin "getset_descriptor.__get__") (.builtin "object.__class__"))) (hm:mroIn K D (.type "object")=some true)
  (h:Q (some (.ref D)) {s with toks:=s.toks+1}) :
  wpAny (model prog w) A (getAttr? (.ref x) "__class__") Q E s:=by
 obtain⟨hh,g,d,t,os⟩:=s
 have L0:=I.type (M:=model prog w)
 have L1:=looks_findIn (M:=model prog w) X hga
 have L2:=looks_findIn (M:=model prog w) X hk
 unfold getAttr? getAttrBy? getAttrBy
 refine wpAny_bind (wpAny_mkText (wpAny_bind (wpAny_attempt (wpAny_holding (wpAny_bind (L0.at (wpAny_bind (L1.at ?_))))))))
 show wpAny _ _ (getAttrByItsOwn _ _ _ _ _ _) _ _ _
 unfold getAttrByItsOwn hookBefore
 rw[show (if onTheHeap (Value.ref D)=true then typeLookup (.ref D) "__getattr__" else pure none)=typeLookup (.ref D) "__getattr__" from rfl]
 refine wpAny_bind (L2.at (wpAny_bind (wpAny_attempt (wpAny_holding ?_))))
 show wpAny _ _ (boundAndCalled _ _ _) _ _ _
 unfold boundAndCalled
 have f3:=PySem.F.excAttr_ValueError.ga.bind (.ref x)
 rw[f3]
 refine wpAny_bind (wpAny_pure ?_)
 have L3:=looks_mroIn (M:=model prog w) X hb
 refine wpAny_call (codeAny_call_builtin PySem.F.excAttr_ValueError.ga.plain F.entry_bexc_ga ?_)
 have hkd:builtinKind "BaseException.__getattribute__"=some .slot:=by decide +kernel
 have hsplit:splitId "BaseException.__getattribute__"=some ("BaseException","__getattribute__"):=by decide +kernel
 have ha:=F.args_bexc_ga (.ref x) (.str "__class__" t)
 have L4:=looks_find (M:=model prog w) X I hf
 simp only[checkBuiltinCall,hkd,hsplit,List.cons_append,List.nil_append]
 unfold isInstance
 repeat lk
 refine wpAny_run (class_get (s:=⟨hh,g,d,t+1,os⟩) (ox:=ox) (od:=odo) X I hm ?_)
 refine wpAny_pure (wpAny_pure ?_)
 exact handed_on rfl (wpAny_pure h)
end
structure ErrIs2 (K:Fg)(C:Addr):Prop where
 ga:findIn K (.ref C) "__getattribute__"=some (some (.builtin "BaseException.__getattribute__"))
 gk:findIn K (.ref C) "__getattr__"=some none
 ha:findIn K (.ref C) "__class__"=some (some (.builtin "object.__class__"))
 hn:specialIn K (.builtin "object.__class__") "__get__"=some (some (.builtin "getset_descriptor.__get__"))
 htk:takesIn K (.builtin "object.__class__")=some true
 hm:mroIn K C (.type "object")=some true
 hb:mroIn K C (.type "BaseException")=some true
theorem ziI {K:Fg}{a C:Addr}{o:Obj}{anc:List Value}(e:Err K C anc)(i:ErrIs2 K C)(hc:o.cls=.ref C)(hd:o.dict=none)(hn:NoC o):KitX K (.ref a) (.ref C) (λh=>h.get? a=some o):=by
 have hn:=hn.ncls
 obtain⟨cC,c1,c2,c3⟩:=e.cls
 have inst:∀ h:Heap,h.get? a=some o->InstAt h a o C none:=λh ho=>⟨ho,hc,by unfold notCls;split <;> simp_all,by rw[hd];trivial⟩
 refine⟨λM h _ ho=>(inst h ho).type,λM h X ho=>?_,λh tp dd its n sl X htp=>?_,λ{prog w A E Q s} X ho k=>?_⟩
 ·unfold clsIn at c1
  split at c1
  ·rename_i c' d' cd' sl' hl
   intro A' Q' E' s' k q
   unfold isType loadHead
   exact wpAny_bind (wpAny_loadPart (k _ _ (X _ _ hl)) (wpAny_pure q))
  ·cases c1
 ·refine Bool.eq_false_iff.mpr λq=>?_
  have e:C=tp:=Value.ref.inj (beq_iff_eq.mp q)
  subst e
  unfold clsIn at c1
  split at c1
  ·rename_i c' d' cd' sl' hl
   have z:=(X _ _ hl).symm.trans htp
   cases z
  ·cases c1
 ·have hf:findObj K C none "__class__"=some (.bind (.builtin "getset_descriptor.__get__") (.builtin "object.__class__")):=by
   unfold findObj
   rw[c1,Option.bind_some,i.ha,Option.bind_some]
   simp[i.hn,i.htk]
  exact znr X (inst _ ho) i.ga i.gk i.hb hf i.hm k
theorem zl3 {X:Cx} : zbC X (.builtin "isinstance") (λxs H Q=>∃ a C D anc ancD,xs=[.ref a,.ref D]/\Pin X a (.ref C)/\Err X.K C anc/\ErrIs2 X.K C/\Err X.K D ancD/\Q (.bl ((Value.ref C::anc).contains (.ref D))) H):=by
 intro pins s σ H xs us Q I r h
 obtain⟨a,C,D,anc,ancD,rfl,⟨o,hp,hc,hd,hn⟩,eC,iC,eD,q⟩:=h
 obtain⟨u,v,rfl,ru,rv⟩:=zkp r
 cases ru;cases rv
 exact kia_one (ziI eC iC hc hd hn) I.kIn (I.pin (a,o) (List.mem_append_left _ hp)).1 (zoN eC eD) (λz=>nomatch z) λtk=>⟨.bl _,H,I.tok tk,rfl,q⟩
end L2

namespace L2
open PySem PySem.Spec PySem.Calls PyProof.Rows PySem.W
structure RoomH (k:Nat)(A:Around):Prop where
 dp:A.depth+3 * k+5<recursionLimit
 un:A.units+16 * k+200<cLine
 gd:A.guards=some []
theorem Room.h {k:Nat}{A:Around}(r:Room k A)(v:Option Value):RoomH k (A.mark v):=⟨r.dp,r.un,r.gd⟩
theorem RoomH.deeper {k:Nat}{A:Around}(r:RoomH (k+1) A)(env:Env):RoomH k (A.deeper env):=
 ⟨by have:=r.dp;show A.depth+1+3 * k+5<_;omega,by have:=r.un;show A.units+3+16 * k+200<_;omega,r.gd⟩
theorem RoomH.depth {k:Nat}{A:Around}(r:RoomH k A):A.depth<recursionLimit:=by have:=r.dp;omega
def cxH (CX:CXT)(P:Program)(w:World)(K:Fg)(mg:Str->Option Value)(base:Heap)(N:List Str)(qual:Str)(scope:Scope)(f:Addr)(cd:Value)(A:Around)(outer:List Env)(s:Shared)(H:Hp)(E:XK)(x0:Addr)(o0:Obj):Cx:=
 {cxOf CX P w K mg base N qual scope f cd A outer s H E with calm:=false,pn:=[(x0,o0)]}
structure HeldIn (X:Cx)(x0:Addr)(o0:Obj):Prop where
 hd:X.A.handled=some (.ref x0)
 pn:(x0,o0)∈X.pn
 nc:NoC o0
structure FnOkH (P:Program)(w:World)(K:Fg)(mg:Str->Option Value)(base:Heap)(CX:CXT)(k:Nat)(f:Addr)(fd:FuncData)(ps:List Str)(sp:Value->Addr->Sp):Prop where
 len:∀ c x vs H Q E,sp c x vs H Q E->vs.length=ps.length
 run:∀ (A:Around) (outer:List Env) (s:Shared) (H:Hp) (args:Args) (us:List Value) (vs:List V) (Q:VK) (E:XK) (x0:Addr) (o0:Obj),RoomH k A->A.handled=some (.ref x0)->Env0 P w K mg base A outer s H->s.heap.get? x0=some o0->H x0=none->x0∉frs outer->(∀ v,o0.data≠.cell v)->o0.dict=none->NoC o0->BindsTo s fd args (ps.zip us)->Vals vs us->sp o0.cls x0 vs H Q E->
  codeAny (model P w) A (.call (.ref f) args) (CR CX outer P w H s Q E) s
theorem zkH {CX:CXT}{P:Program}{w:World}{K:Fg}{mg:Str->Option Value}{base:Heap}{N ps:List Str}{qual:Str}{scope:Scope}{f:Addr}{cd:Value}{A:Around}{outer:List Env}{s s1:Shared}{H:Hp}{E:XK}{us:List Value}{vs:List V}
  (S:FSc N ps scope) {x0:Addr}{o0:Obj}(ho:s.heap.get? x0=some o0) (hH:H x0=none) (hF:x0∉frs outer) (hC:∀ v,o0.data≠.cell v) (e0:Env0 P w K mg base A outer s H) (hl:vs.length=ps.length) (r:Vals vs us)
  (x:InCallC s s.heap.objs.size (bindL (envOfC qual scope s.heap.objs.size f cd).kindOf (ps.zip us) λ_=>none) (cellsFrom (s.heap.objs.size+1) scope.names []) (bindC (envOfC qual scope s.heap.objs.size f cd).kindOf (ps.zip us) λ_=>none) s1) :
  Inv (cxH CX P w K mg base N qual scope f cd A outer s H E x0 o0) [] (start N vs) H s1:=by
 have hpl:ps.length<=N.length:=by have:=congrArg List.length S.pre;rw[List.length_take] at this;omega
 obtain⟨h1,tk,rfl,hk⟩:=x.done
 have noA:∀ b:Addr,b∉(cxH CX P w K mg base N qual scope f cd A outer s H E x0 o0).ex:=λb z=>absurd (show b∈([]:List Addr) from z) (by simp)
 refine⟨⟨e0.mod,S.kind,rfl,rfl,Nat.le_refl _,λy z c h1 h2=>?_,λy hy=>?_,λy c _ h=>?_,(λz=>absurd z Bool.false_ne_true),Around.frames_deeper e0.frames,.inr ⟨rfl,rfl⟩,λb z=>absurd z (noA b),e0.bs,e0.bsz,λb _ _=>noA b,λb z=>absurd z (noA b),e0.funs,e0.frf⟩,
  rfl,e0.bare,Un.kept hk,⟨_,x.toInCall.ns,λi y v h1 h2 h3=>?_⟩,λy c h=>⟨_,x.cell y c h⟩,e0.hok.fresh (Nat.le_refl _),λy c h=>?_,λp hp=>?_,e0.hok.kept hk,?_⟩
 ·exact name_of_addr x.apart (PySem.mem_of_lookup h1) (PySem.mem_of_lookup h2)
 ·have hy:scope.names.lookup y=some .cell\/scope.names.lookup y=some .free:=hy
  rcases hy with hy | hy
  ·exact zfM hy
  ·exact absurd rfl (S.nofree _ (PySem.mem_of_lookup hy))
 ·exact Nat.le_of_lt (x.above y c (PySem.mem_of_lookup h))
 ·have hi:i<vs.length:=by
   unfold start at h2
   by_cases hi:i<vs.length
   ·exact hi
   ·rw[List.getElem?_append_right (by simpa using hi)] at h2
    rw[List.getElem?_replicate] at h2
    split at h2 <;> cases h2
  have ha:vs[i]?=some v:=by
   unfold start at h2
   rw[List.getElem?_append_left (by simpa using hi),zgm] at h2
   cases e:vs[i]? with
   | none=>rw[e] at h2;cases h2
   | some a=>rw[e] at h2;cases h2;rfl
  obtain⟨u,hu,rv⟩:=r.get ha
  have hp:ps[i]?=some y:=by
   rw[<-S.pre,List.getElem?_take_of_lt (by omega)];exact h1
  have ndP:ps.Nodup:=by rw[<-S.pre];exact S.nd.sublist (List.take_sublist _ _)
  refine⟨u,rv,?_⟩
  rcases S.par y (zmg hp) with k | k
  ·exact .inl ⟨k,zf1 ndP hp hu k⟩
  ·obtain⟨c,e⟩:=zfM (n:=s.heap.objs.size+1) k
   refine .inr ⟨.inl k,c,e,?_⟩
   have q:=x.cell y c e
   rw[zf2 ndP hp hu (by show scope.names.lookup y≠_;rw[k];decide)] at q
   exact q
 ·exact e0.hok.fresh (Nat.le_of_lt (x.above y c (PySem.mem_of_lookup h)))
 ·have hp:p∈[(x0,o0)]:=hp
  rw[zms.mp hp]
  exact⟨hk _ _ ho,hH,Nat.ne_of_lt (Heap.lt_size ho),hF,hC⟩
 ·unfold start
  show _=N.length
  rw[List.length_append,zlm,List.length_replicate]
  omega
theorem zqn {CX:CXT}{P:Program}{w:World}{K:Fg}{mg:Str->Option Value}{base:Heap}{k:Nat}{f:Addr}{name qual:Str}{params:Arguments}{body:List Stmt}{scope:Scope}{dV kV doc pm cdv ct oc:Value}{an od:Option Addr}
  {osl:Array (Option Value)}{N ps:List Str}{sp:Value->Addr->Sp}(lk:K.lookup f=some ⟨oc,od,.func (PySem.W.fnOf name qual params body scope dV kV doc pm an cdv ct),osl⟩) (hcd:PySem.W.codeIn K cdv qual=true) (S:FSc N ps scope)
  (len:∀ c x vs H Q E,sp c x vs H Q E->vs.length=ps.length)
  (hbody:∀ (A:Around) (outer:List Env) (s:Shared) (H:Hp) (vs:List V) (Q:VK) (E:XK) (x0:Addr) (o0:Obj),RoomH k (A.deeper (envOfC qual scope s.heap.objs.size f cdv))->o0.dict=none->NoC o0->HeldIn (cxH CX P w K mg base N qual scope f cdv A outer s H E x0 o0) x0 o0->sp o0.cls x0 vs H Q E->
   ∃ t,PSs (cxH CX P w K mg base N qual scope f cdv A outer s H E x0 o0) body t/\t {nx:=λ_ H'=>Q .non H',rt:=Q} (start N vs) H) :
  FnOkH P w K mg base CX (k+1) f (PySem.W.fnOf name qual params body scope dV kV doc pm an cdv ct) ps sp:=by
 refine⟨len,λA outer s H args us vs Q E x0 o0 hr hh e0 ho hH hF hC hd hn hb r hsp=>?_⟩
 have hl:=len _ _ _ _ _ _ hsp
 have KX:K.In s.heap:=e0.mod.kin.keeps λb o e=>(e0.bs b o e).1
 have lim:s.heap.NoLimit:=e0.mod.nolimit.keeps λb o e=>(e0.bs b o e).1
 have hkind:∀ y∈ps.zip us,scope.names.lookup y.1=some .local\/(scope.names.lookup y.1=some .cell/\((cellsFrom (s.heap.objs.size+1) scope.names []).lookup y.1).isSome=true):=λ⟨n,v⟩ hy=>by
  rcases S.par n (List.of_mem_zip hy).1 with q | q
  ·exact .inl q
  ·exact .inr ⟨q,PySem.W.cellsFrom_some _ _ _ (.inl q)⟩
 refine codeAny_call_function hr.depth (KX _ _ lk) rfl S.co S.gen rfl (PySem.W.codeRec_of KX hcd) (hb _ _ _ _ ?_)
 refine wpAny_newFunctionEnv_cells S.kind hkind λenv he s1 x=>?_
 subst he
 refine⟨lim.keeps x.toInCall.keep,codeAny_func ?_⟩
 obtain⟨t,ht,hq⟩:=hbody A outer s H vs Q E x0 o0 (hr.deeper _) hd hn ⟨hh,.head _,hn⟩ hsp
 have I:Inv (cxH CX P w K mg base N qual scope f cdv A outer s H E x0 o0) [] (start N vs) H s1:=zkH S ho hH hF hC e0 hl r x
 refine wpAny_mono (ht [] s1 (start N vs) H _ I hq) (λfl s' hs=>?_) λe s' hs=>hs
 have fin:∀ {σ':St}{H':Hp}{v:V}{u:Value},Inv (cxH CX P w K mg base N qual scope f cdv A outer s H E x0 o0) [] σ' H' s'->RelV v u->Q v H'->CE outer P w H s Q u s':=
  λ{σ' H' v u} J rv q=>⟨v,H',J.os,J.bare,J.base,J.hok,rv,q⟩
 cases fl with
 | ret u=>
  obtain⟨v,σ',H',J,rv,q⟩:=hs
  exact fin J rv q
 | next=>
  obtain⟨σ',H',J,q⟩:=hs
  exact fin (v:=V.non) (u:=Value.none) J rfl q
 | brk=>
  obtain⟨_,_,_,q⟩:=hs
  exact False.elim q
 | cont=>
  obtain⟨_,_,_,q⟩:=hs
  exact False.elim q
section
variable {X:Cx}{CX:CXT}{k:Nat}{f:Addr}{fd:FuncData}{ps:List Str}{sp:Value->Addr->Sp}{E:XK}{x:Str}{p pos:Pos}{e:Expr}{es:List Expr}{t:TA}{a:Addr}{o:Obj}
theorem zns (F:FnOkH X.prog X.w X.K X.mg X.base CX k f fd ps sp)(hr:Room k X.A)(hg:Gl X x)(hm:X.mg x=some (.ref f))(hk:PySem.W.keepIn X.K (.ref f)=true)(hb:zdQ X.K fd ps [])(hx:zcM CX (XH X a o) E)(hd:o.dict=none)(hn:NoC o)
  (ha:PA (XH X a o) (e::es) t) (hdb:(x == ("__debug__" : Str))=false:=by decide) (he:starEach (e::es) X.env=(false,eval e X.env)::starEach es X.env:=by rfl) (hpl:(backTo pos (starEach es X.env)).any (·.1)=false:=by rfl) :
  PE (XH X a o) (.Call (.Name x p) (e::es) [] pos) (zik (sp o.cls a) [] E t):=by
 intro pins s σ H Q I h
 refine wpAny_Call_Name_kw (zew I hg hm ?_ hdb)
 refine PySem.W.callWith_K (h₀:=X.base) I.ok.mod.kin hk (thn (ha pos pins s σ H _ I h) λus s1 ⟨vs,H1,I1,r,q⟩=>⟨I1.kIn,?_⟩) he hpl
 have q:sp o.cls a (vs++[]) H1 Q E:=q
 rw[List.append_nil] at q
 have hl:us.length=ps.length:=by rw[<-r.length];exact F.len _ _ _ _ _ _ q
 have pin:=I1.pin (a,o) (List.mem_append_left _ (.head _))
 have hF:a∉frs X.stack:=by
  rcases I1.ok.stk with z | ⟨z,zf⟩
  ·have z:X.stack=X.outer:=z
   rw[z];exact pin.2.2.2.1
  ·have z:X.stack=X.env::X.outer:=z
   have zf:X.env.frame=some X.env.locals:=zf
   rw[z]
   unfold frs
   rw[List.filterMap_cons,zf]
   exact λy=>by
    rcases List.mem_cons.mp y with w | w
    ·exact pin.2.2.1 w
    ·exact pin.2.2.2.1 w
 have hb':=hb s1 us I1.kIn (by rw[List.append_nil];exact hl)
 rw[List.append_nil] at hb'
 refine wpAny_call (codeAny_mono (F.run (XH X a o).A X.stack s1 H1 ⟨us,[]⟩ us vs Q E a o (hr.h _) rfl I1.env0 pin.1 pin.2.1 hF pin.2.2.2.2 hd hn hb' r q) λr s' hq=>?_)
 cases r with
 | error e=>exact hx pins σ H1 s1 e s' I1 hq
 | ok fl=>
  cases fl with
  | ret u=>exact I1.after hq
  | next=>exact False.elim hq
  | brk=>exact False.elim hq
  | cont=>exact False.elim hq
end
end L2

namespace L2
open PySem PySem.Spec PySem.Calls PyProof.Rows PySem.W PySem.SeqAt
variable {X:Cx}
end L2

namespace L2
open PySem PySem.Spec PySem.Calls PyProof.Rows PySem.W
theorem znt {K:Fg}{C:Addr}{anc:List Value}{c:String}(e:Err K C anc)(hc:kitMeta c=true):kitOne K (.ref C) (.type c)=some (anc.contains (.type c)):=by
 obtain⟨cC,c1,c2,c3⟩:=e.cls
 unfold kitOne
 rw[if_neg (by simp)]
 unfold kitCls
 simp only[hc,if_true]
 unfold subIn mroIn
 simp only[c1,c2]
 simp
 rw[c2]
 simp
theorem zl4 {X:Cx} : zbC X (.builtin "isinstance") (λxs H Q=>∃ a C anc c,xs=[.ref a,.ty c]/\kitMeta c=true/\Pin X a (.ref C)/\Err X.K C anc/\ErrIs2 X.K C/\Q (.bl (anc.contains (.type c))) H):=by
 intro pins s σ H xs us Q I r h
 obtain⟨a,C,anc,c,rfl,hm,⟨o,hp,hc,hd,hn⟩,eC,iC,q⟩:=h
 obtain⟨u,v,rfl,ru,rv⟩:=zkp r
 cases ru;cases rv
 exact kia_one (ziI eC iC hc hd hn) I.kIn (I.pin (a,o) (List.mem_append_left _ hp)).1 (znt eC hm) (λz=>nomatch z) λtk=>⟨.bl _,H,I.tok tk,rfl,q⟩
def rIsx2 (K:Fg)(a:Addr)(c:Value):List V->Hp->VK->Prop:=λxs H Q=>∃ C D anc ancD,xs=[.ref a,.ref D]/\c=.ref C/\Err K C anc/\ErrIs2 K C/\Err K D ancD/\Q (.bl ((Value.ref C::anc).contains (.ref D))) H
def rIsxT (K:Fg)(a:Addr)(c:Value):List V->Hp->VK->Prop:=λxs H Q=>∃ C anc n,xs=[.ref a,.ty n]/\kitMeta n=true/\c=.ref C/\Err K C anc/\ErrIs2 K C/\Q (.bl (anc.contains (.type n))) H
section
variable {CX:CXT}{P:Program}{w:World}{K:Fg}{mg:Str->Option Value}{base:Heap}{N:List Str}{qual:Str}{scope:Scope}{f:Addr}{cd:Value}{A:Around}{outer:List Env}{s:Shared}{H:Hp}{E:XK}{x0:Addr}{o0:Obj}
theorem zhm (hd:o0.dict=none)(hn:NoC o0):zbC (cxH CX P w K mg base N qual scope f cd A outer s H E x0 o0) (.builtin "isinstance") (rIsx2 K x0 o0.cls):=λpins s σ H xs us Q I r h=>by
 obtain⟨C,D,anc,ancD,rfl,hc,eC,iC,eD,q⟩:=h
 exact zl3 pins s σ H _ us Q I r ⟨x0,C,D,anc,ancD,rfl,⟨o0,.head _,hc,hd,hn⟩,eC,iC,eD,q⟩
theorem zqo (hd:o0.dict=none)(hn:NoC o0):zbC (cxH CX P w K mg base N qual scope f cd A outer s H E x0 o0) (.builtin "isinstance") (rIsxT K x0 o0.cls):=λpins s σ H xs us Q I r h=>by
 obtain⟨C,anc,n,rfl,hm,hc,eC,iC,q⟩:=h
 exact zl4 pins s σ H _ us Q I r ⟨x0,C,anc,n,rfl,hm,⟨o0,.head _,hc,hd,hn⟩,eC,iC,q⟩
end
theorem zgl:bootBuiltins "ValueError"=some (.type "ValueError"):=by decide +kernel
structure FnH (P:Program)(w:World)(K:Fg)(mg:Str->Option Value)(base:Heap)(x:Str)(ps:List Str)(k:Nat)(sp:Value->Addr->Sp):Prop where
 ex:∃ f fd,FnOkH P w K mg base CX0 k f fd ps sp/\zdQ K fd ps []/\PySem.W.keepIn K (.ref f)=true/\mg x=some (.ref f)
theorem FnH.of {P:Program}{w:World}{K:Fg}{mg:Str->Option Value}{base:Heap}{x:Str}{st:Stmt}{f:Addr}{fd:FuncData}{N ps:List Str}{k:Nat}{sp:Value->Addr->Sp}(F:Fun K x x st f fd)(S:FSc N ps (zaf st))(m:mg x=some (.ref f))
  (hb:∀ (kV doc pm:Value) (an:Option Addr) (cdv ct:Value) (us:List Value),us.length=ps.length->bindArgs (PySem.W.fnOf x x (zcU st) (zbO st) (zaf st) .none kV doc pm an cdv ct) ⟨us,[]⟩=pure (ps.zip us))
  (len:∀ c x vs H Q E,sp c x vs H Q E->vs.length=ps.length)
  (hbody:∀ (cdv:Value) (A:Around) (outer:List Env) (s:Shared) (H:Hp) (vs:List V) (Q:VK) (E:XK) (x0:Addr) (o0:Obj),RoomH k (A.deeper (envOfC x (zaf st) s.heap.objs.size f cdv))->o0.dict=none->NoC o0->HeldIn (cxH CX0 P w K mg base N x (zaf st) f cdv A outer s H E x0 o0) x0 o0->sp o0.cls x0 vs H Q E->
   ∃ t,PSs (cxH CX0 P w K mg base N x (zaf st) f cdv A outer s H E x0 o0) (zbO st) t/\t {nx:=λ_ H'=>Q .non H',rt:=Q} (start N vs) H):FnH P w K mg base x ps (k+1) sp:=by
 refine⟨f,fd,?_,F.binds hb,F.kp,m⟩
 obtain⟨oc,od,kV,doc,pm,an,cdv,ct,osl,rfl,lk,hcd⟩:=F.ex
 exact zqn lk hcd S len λA outer s H vs Q E x0 o0 hr hd hn hx hsp=>hbody cdv A outer s H vs Q E x0 o0 hr hd hn hx hsp
section
variable {X:Cx}{k j:Nat}{ps:List Str}{sp:Value->Addr->Sp}{x:Str}{p pos:Pos}{e:Expr}{es:List Expr}{t:TA}{a:Addr}{o:Obj}
theorem RoomH.le {j k:Nat}{A:Around}(r:RoomH k A)(h:j<=k):RoomH j A:=⟨by have:=r.dp;omega,by have:=r.un;omega,r.gd⟩
theorem FnOkH.mono {P:Program}{w:World}{K:Fg}{mg:Str->Option Value}{base:Heap}{CX:CXT}{f:Addr}{fd:FuncData}(F:FnOkH P w K mg base CX j f fd ps sp)(h:j<=k):FnOkH P w K mg base CX k f fd ps sp:=
 ⟨F.len,λA outer s H args us vs Q E x0 o0 hr=>F.run A outer s H args us vs Q E x0 o0 (hr.le h)⟩
theorem zqp (G:FnH X.prog X.w X.K X.mg X.base x ps j sp)(hr:Room k X.A)(hg:Gl X x)(hd:o.dict=none)(hn:NoC o)(ha:PA (XH X a o) (e::es) t)(hj:j<=k:=by decide)(hdb:(x == ("__debug__" : Str))=false:=by decide)
  (he:starEach (e::es) X.env=(false,eval e X.env)::starEach es X.env:=by rfl) (hpl:(backTo pos (starEach es X.env)).any (·.1)=false:=by rfl):PE (XH X a o) (.Call (.Name x p) (e::es) [] pos) (zik (sp o.cls a) [] E0 t):=by
 obtain⟨f,fd,F,hb,hk,hm⟩:=G.ex
 exact zns (F.mono hj) hr hg hm hk hb zff hd hn ha hdb he hpl
end
end L2

namespace L2
open PySem PySem.Spec PySem.Calls PyProof.Rows PySem.W
section
variable {X:Cx}{C:Addr}{ps:List Str}{j k:Nat}{sp:Sp}{x m:Str}{o e:Expr}{es:List Expr}{ta:TE}{t:TA}{p pos apos:Pos}{te:XK->TE}{st:Stmt}{tt uu:XK->TS}
end
end L2

namespace L2
open PySem PySem.Spec PySem.Calls PyProof.Rows PySem.W
end L2

namespace L2
open PySem PySem.Spec PySem.Calls PyProof.Rows PySem.W
theorem zhQ:entryFor table "proto.unchain"=some Builtin.«proto.unchain»:=entryFor_of_fast (by kernel_rfl)
def zhR (h:Heap)(x:Addr):Prop:=∃ o fs,h.get? x=some o/\o.data=.fields fs/\fs[2]?=some .none
theorem zhR.at {h h':Heap}{x:Addr}(n:zhR h x)(e:∀ o,h.get? x=some o->h'.get? x=some o):zhR h' x:=
 let ⟨o,fs,a,b,c⟩:=n;⟨o,fs,e o a,b,c⟩
section
variable {prog:Program}{w:World}{A:Around}{E:Value->Shared->Prop}{s:Shared}
theorem zkI {it:Addr}{T id:String}{b:Builtin}{Q:Option Value->Shared->Prop}(hT:s.TypeIs (.ref it) T)(sl:Slot T "__next__" id)(hb:entryFor table id=some b)(ha:argsOk id ⟨[.ref it],[]⟩)
  (hc:wpAny (model prog w) A.in1 (b ⟨[.ref it],[]⟩) (λ_ _=>False) (λe s'=>∃ a o,e=.ref a/\s'.heap.get? a=some o/\o.cls=.type "StopIteration" /\Q none s') s):wpAny (model prog w) A (pyNext (.ref it)) Q E s:=by
 unfold pyNext
 refine wpAny_bind (wpAny_attempt (wpAny_callSpecial?_slot (name:="__next__") hT sl (wpAny_call_entry sl hT hb (wpAny_mono hc (λ_ _ z=>z.elim) ?_) ha)))
 rintro e s' ⟨a,o,rfl,h1,h2,q⟩
 exact wpAny_bind (wpAny_isInstance (T:="StopIteration") (b:=true) ⟨o,h1,h2⟩ isSubtype_stop (wpAny_pure q))
theorem zjx {x a:Addr}{Q:Value->Shared->Prop}(n:zhR s.heap x)(h:Q .none s):wpAny (model prog w) A (runValue (.builtin "proto.unchain" ⟨[.ref a,.ref x,.ref x,.bool false],[]⟩)) Q E s:=by
 obtain⟨o,fs,h1,h2,h3⟩:=n
 refine wpAny_runValue (codeAny_builtin zhQ ?_)
 show wpAny _ _ (field (.ref x) 2 >>= _) _ _ s
 refine wpAny_bind (wpAny_field h1 h2 h3 ?_)
 rw[if_pos (show (Value.none == Value.none)=true from rfl)]
 exact wpAny_pure h
theorem zhS {α:Type}{x a:Addr}{oa:Obj}{vs:Array Value}{Q:α->Shared->Prop}(hh:A.handled=some (.ref x))(n:zhR s.heap x)(ne:x≠a)(ha:s.heap.get? a=some oa)(hd:oa.data=.fields vs)(hz:2<vs.size)
  (h:E (.ref a) {s with heap:=s.heap.update a (Obj.mapFields (·.setIfInBounds 2 (.ref x)))}):wpAny (model prog w) A (raiseNew (α:=α) (.ref a)) Q E s:=by
 simp only[raiseNew]
 refine wpAny_bind (wpAny_handled ?_)
 rw[hh]
 have hne:(Value.ref x != Value.ref a)=true:=by simp[ne]
 simp only[hne,if_true]
 refine wpAny_bind (wpAny_holding (zjx n ?_))
 refine wpAny_bind ?_
 simp only[updateField]
 refine wpAny_bind (wpAny_load ha ?_)
 rw[hd]
 show wpAny _ _ (if 2<vs.size then _ else _) _ _ _
 rw[if_pos hz]
 exact wpAny_update ha (wpAny_throw h)
theorem zl5 {α:Type}{Q:α->Shared->Prop}{x0:Addr}{h:Heap}{g:Array GenState}{d:Drawn}{t:Nat}{os:OsState}{o1 o2:Obj}{vs:Array Value}(hh:A.handled=some (.ref x0))(n:zhR h x0)(hc:o2.cls=.type "StopIteration")(hd:o2.data=.fields vs)(hz:2<vs.size)(hf:o2.isFreed=false)
  (hE:∀ a h' o,(∀ b o,h.get? b=some o->h'.get? b=some o)->h'.get? a=some o->o.cls=.type "StopIteration" ->E (.ref a) ⟨h',g,d,t,os⟩) :
  wpAny (model prog w) A (raiseNew (α:=α) (.ref (h.push o1).objs.size)) Q E ⟨(h.push o1).push o2,g,d,t,os⟩:=by
 have up:∀ (b:Addr) (o:Obj),h.get? b=some o->((h.push o1).push o2).get? b=some o:=λb o e=>Heap.get?_push_of_some _ (Heap.get?_push_of_some _ e)
 have lt:∀ (b:Addr) (o:Obj),h.get? b=some o->b≠(h.push o1).objs.size:=λb o e=>Nat.ne_of_lt (Heap.lt_size (Heap.get?_push_of_some _ e))
 obtain⟨ox,fx,k1,k2,k3⟩:=id n
 obtain⟨_,_,_,_⟩:=o2
 cases hc;cases hd
 refine zhS hh (n.at λo e=>up _ o e) (lt _ _ k1) (Heap.get?_push_size _ hf) rfl hz ?_
 refine hE _ _ _ (λb o e=>?_) (Heap.get?_update_self _ (Heap.get?_push_size _ hf) rfl) ?_
 ·rw[Heap.get?_update_other _ _ (lt _ _ e).symm]
  exact up _ _ e
 ·rfl
theorem zeD {it:Addr}{x left step:Int}{Q:Option Value->Shared->Prop}{x0:Addr}(hh:A.handled=some (.ref x0))(n:zhR s.heap x0)(hxi:x0≠it)(hit:IsRangeIter s.heap it x left step)(hleft:left<=0)
  (hQ:∀ h',Heap.ExtBut it s.heap h'->Q none {s with heap:=h'}):wpAny (model prog w) A (pyNext (.ref it)) Q E s:=by
 refine zkI (T:="range_iterator") ⟨_,hit,rfl⟩ F.slot_range_iterator_next F.entry_range_iterator_next (F.args_range_iterator_next_1 _) ?_
 unfold IsRangeIter at hit
 repeat wp_step
 exact zl5 (show A.in1.handled=_ from hh) n rfl rfl (by simp;omega) rfl λa h' o k1 k2 k3=>⟨a,o,rfl,k2,k3,hQ h' λb o _ e=>k1 b o e⟩
end
end L2

namespace L2
open PySem PySem.Spec PySem.Calls PyProof.Rows PySem.W
structure TurnH (P:Program)(w:World)(K:Fg)(tg:Expr)(J:It)(fp:List Addr)(it:Addr)(tn:Nat->Heap->Prop):Prop where
 tu:Turn P w K tg J fp it tn
 itemH:∀ (X:Cx),X.prog=P->X.w=w->X.K=K->∀ (i:Nat) (pins:List (Addr × Obj)) (s:Shared) (σ:St) (H:Hp) (E:Value->Shared->Prop),Inv X pins σ H s->(∀ b∈fp,FpOk X pins H b)->tn i s.heap->J.go i H->
  wpAny (model P w) X.A (pyNext (.ref it)) (λr s1=>∃ u,r=some u/\
   wpAny (model P w) X.A (letOwnedTupleGo tg (.ref it) u) (λ_ s2=>∃ x H',Inv X pins σ H' s2/\RelV x u/\J.yld i H x H'/\tn (i+1) s2.heap/\∀ b∈fp,H' b=none) E s1) E s
 doneH:∀ (X:Cx),X.prog=P->X.w=w->X.K=K->∀ (i:Nat) (pins:List (Addr × Obj)) (s:Shared) (σ:St) (H:Hp) (E:Value->Shared->Prop) (x0:Addr),X.A.handled=some (.ref x0)->zhR s.heap x0->x0∉fp->Inv X pins σ H s->(∀ b∈fp,FpOk X pins H b)->tn i s.heap->J.stop i H->
  wpAny (model P w) X.A (pyNext (.ref it)) (λr s1=>r=none/\Inv X pins σ H s1) E s
theorem zjy {P:Program}{w:World}{K:Fg}{tg:Expr}(it:Addr)(lo:Int)(n:Nat):TurnH P w K tg (Itr lo n) [it] it (λi h=>IsRangeIter h it (lo+(i:Nat) * 1) ((n:Int) - (i:Nat)) 1) where
 tu:=zg9 it lo n
 itemH:=by
  intro X hP hw hK i pins s σ H E I hf st hg
  subst hP hw hK
  obtain⟨f0,f1,f2,f3,f4,f5⟩:=hf it (by simp)
  refine wpAny_pyNext_range_item st (by have:i<n:=hg;omega) λh' hit' hs'=>?_
  have st':IsRangeIter h' it (lo+((i+1:Nat):Int) * 1) ((n:Int) - ((i+1:Nat):Int)) 1:=by
   rw[show lo+((i+1:Nat):Int) * 1=lo+(i:Int) * 1+1 by omega,show (n:Int) - ((i+1:Nat):Int)=(n:Int) - (i:Int) - 1 by omega];exact hit'
  refine⟨_,rfl,zmQ (n:="range_iterator") st' rfl rfl (by decide) ⟨.int (lo+i),H,I.turned (λb o hb e=>hs'.extBut b o hb e) f0 f1 f3 f4 f5,⟨s.toks,?_⟩,⟨rfl,rfl⟩,st',λb hb=>(hf b hb).1⟩⟩
  rw[Int.mul_one]
 doneH:=by
  intro X hP hw hK i pins s σ H E x0 hh nc hxf I hf st hg
  subst hP hw hK
  obtain⟨f0,f1,f2,f3,f4,f5⟩:=hf it (by simp)
  exact zeD hh nc (λz=>hxf (by simp[z])) st (by have:n<=i:=hg;omega) λh' eb=>⟨rfl,I.turned (t':=s.toks) (λb o hb e=>eb b o hb e) f0 f1 f3 f4 f5⟩
def PIEH (X:Cx)(pins:List (Addr × Obj))(σ:St)(tg:Expr)(R:It->Hp->Prop)(itv:Value)(s2:Shared):Prop:=
 ∃ (it:Addr) (fp:List Addr) (tn:Nat->Heap->Prop) (J:It) (H':Hp),itv=.ref it/\Inv X pins σ H' s2/\TurnH X.prog X.w X.K tg J fp it tn/\tn 0 s2.heap/\(∀ b∈fp,FpOk X pins H' b)/\R J H'
def PIH (X:Cx)(tg iter:Expr)(wi:TI):Prop:=
 ∀ (pins:List (Addr × Obj)) (s:Shared) (σ:St) (H:Hp) (R:It->Hp->Prop),Inv X pins σ H s->wi σ H R->
  wpAny (model X.prog X.w) X.A (eval iter X.env) (λv s1=>wpAny (model X.prog X.w) X.A (pyIter v) (PIEH X pins σ tg R) X.xe s1) X.xe s
section
variable {X:Cx}{tg:Expr}
theorem zl6 {pins:List (Addr × Obj)}{σ:St}{H:Hp}{s:Shared}{R:It->Hp->Prop}{E:Value->Shared->Prop}{lo hi:Int}{t u v:Tok}{tk:Nat}(I:Inv X pins σ H s)(h1:-(2 ^ 62)<=lo)(h2:lo<2 ^ 62)(h3:-(2 ^ 62)<=hi)(h4:hi<2 ^ 62)
  (q:R (Itr lo (hi - lo).toNat) H):wpAny (model X.prog X.w) X.A (pyIter (.ref s.heap.objs.size)) (PIEH X pins σ tg R) E {s with heap:=s.heap.push {cls:=.type "range",data:=.fields #[.int lo t,.int hi u,.int 1 v]},toks:=tk}:=by
 refine wpAny_pyIter_range (IsRange.new ..) (small_one h1 h2 h3 h4) ?_
 have I1:Inv X pins σ H {s with heap:=s.heap.push {cls:=.type "range",data:=.fields #[.int lo t,.int hi u,.int 1 v]},toks:=tk}:=I.kept λb o e=>Heap.get?_push_of_some _ e
 refine⟨(s.heap.push {cls:=.type "range",data:=.fields #[.int lo t,.int hi u,.int 1 v]}).objs.size,[(s.heap.push {cls:=.type "range",data:=.fields #[.int lo t,.int hi u,.int 1 v]}).objs.size],_,_,H,rfl,
  I1.kept (t':=tk) λb o e=>Heap.get?_push_of_some _ e,zjy _ lo (hi - lo).toNat,?_,λb hb=>?_,q⟩
 ·have e1:lo+((0:Nat):Int) * 1=lo:=by simp
  have e2:(((hi - lo).toNat:Nat):Int) - ((0:Nat):Int)=Builtin.Range.rangeSize lo hi 1:=by rw[rangeSize_one];split <;> omega
  show IsRangeIter _ _ (lo+((0:Nat):Int) * 1) ((((hi - lo).toNat:Nat):Int) - ((0:Nat):Int)) 1
  rw[e1,e2]
  exact Heap.get?_push_size _ rfl
 ·have e:b=(s.heap.push {cls:=.type "range",data:=.fields #[.int lo t,.int hi u,.int 1 v]}).objs.size:=by simpa using hb
  subst e
  exact I1.fpOk (Nat.le_refl _) (I1.hok.fresh (Nat.le_refl _))
theorem zkJ {a:Expr}{ta:TA}{p pos:Pos}(hg:Gl X "range")(hm:X.mg "range"=none)(ha:PA X [a] ta)(hs:starEach [a] X.env=[(false,eval a X.env)]:=by rfl):PIH X tg (.Call (.Name "range" p) [a] [] pos) (zoi ta):=by
 intro pins s σ H R I h
 refine Call_ (zg7 I hg hm boot_range (PyProof.Rows.callWith_type1 (thn (ha pos pins s σ H _ I h) λus s1 ⟨vs,H1,I1,r1,q1⟩=>?_) hs rfl))
 obtain⟨j,e,q1,q2,q⟩:=q1
 subst e
 cases r1 with
 | cons r rr=>
  cases rr
  obtain⟨t,rfl⟩:=r
  exact call_range_1 (zl6 I1 (by omega) (by omega) q1 q2 (by simpa using q))
end
section
variable {X:Cx}{tg iter elt:Expr}{ifs:List Expr}{scope:Scope}{pos:Pos}{N':List Str}{ms:List Bool}{wi:TI}{g:TG}{tt:TT}{te:TE}
set_option maxHeartbeats 4000000 in
theorem zkK {pins:List (Addr × Obj)}{s:Shared}{σ:St}{H:Hp}{Q:VK}{RR:Value->Addr->Result->Shared->Prop}{x0:Addr}{o0:Obj}(hc:HeldIn X x0 o0)(ok:COk X.env.scope X.N scope N' ms)(hi:PIH X tg iter wi)
  (hg:∀ cl C fp s3 H3,PG (zaW X N' scope cl C fp s3 H3) tg g) (ht:∀ cl C fp s3 H3,PIfs (zaW X N' scope cl C fp s3 H3) ifs tt) (he:∀ cl C fp s3 H3,PE (zaW X N' scope cl C fp s3 H3) elt te)
  (I:Inv X pins σ H s) (h:zkB ms wi g tt te σ H Q)
  (hRR:∀ D C H' s' m,s'.heap.Ns C m->Inv X pins σ H' s'->FpOk X pins H' C->Q (.ref D) H'->RR (.ref D) C (.ok .next) s') :
  wpAny (model X.prog X.w) X.A (eval iter X.env) (λx s1=>wpAny (model X.prog X.w) X.A (pyIter x) (λit s2=>wpAny (model X.prog X.w) X.A (newList []) (λacc s3=>
   wpAny (model X.prog X.w) X.A (newFunctionEnv scope X.env.globals (zby X.env scope.names []) [] X.env.qual none .none (some X.env)) (λcenv s4=>
    codeAny (model X.prog X.w) X.A (.compStart (.ListComp elt [⟨tg,iter,ifs,0⟩] scope pos) 0 it acc {cenv with scope:=relabel scope X.env}) (RR acc cenv.locals) s4) X.xe s3) X.xe s2) X.xe s1) X.xe s:=by
 refine thn (hi pins s σ H _ I h) λv s1 h1=>thn h1 λitv s2 h2=>?_
 obtain⟨it,fp,tn,J,H2,e,I2,TH,st2,f2,h2⟩:=h2
 have T:=TH.tu
 subst e
 obtain⟨W,⟨m0,w0⟩,turn⟩:=h2 s2.heap.objs.size I2.fresh
 refine wpAny_newObj_type ?_
 have I3:=I2.lnew (ys:=[]) (its:=[]) (t':=s2.toks) .nil (Nat.zero_le _)
 generalize hs3:({s2 with heap:=s2.heap.push {cls:=.type "list",data:=.seq ([]:List Value).toArray},toks:=s2.toks} : Shared)=s3 at I3
 refine wpAny_newFunctionEnv ok.nocell (by intro y hy;simp at hy) (λh4 hn4 hs4=>?_) ok.kind
 have sz:s3.heap.objs.size=s2.heap.objs.size+1:=by rw[<-hs3];exact Heap.size_push ..
 have old2:∀ b o,s2.heap.get? b=some o->s3.heap.get? b=some o:=λb o e=>by rw[<-hs3];exact Heap.get?_push_of_some _ e
 have old:∀ b o,s3.heap.get? b=some o->h4.get? b=some o:=λb o e=>hs4.extBut b o (Nat.ne_of_lt (Heap.lt_size e)) (Heap.get?_push_of_some _ e)
 have fp2:∀ b∈fp,b<s2.heap.objs.size:=λb hb=>by
  obtain⟨o,ho,_⟩:=T.obj 0 _ st2 b hb
  exact Heap.lt_size ho
 have nD:∀ b∈fp,b≠s2.heap.objs.size:=λb hb=>Nat.ne_of_lt (fp2 b hb)
 have f3:∀ b∈fp,FpOk X pins (upd H2 s2.heap.objs.size (.lst [])) b/\b<s3.heap.objs.size:=λb hb=>by
  refine⟨⟨?_,(f2 b hb).2⟩,by rw[sz];exact Nat.lt_succ_of_lt (fp2 b hb)⟩
  rw[zam (nD b hb)];exact (f2 b hb).1
 have J4:Inv (zaW X N' scope (zby X.env scope.names []) s3.heap.objs.size fp s3 (upd H2 s2.heap.objs.size (.lst []))) [] (zcv ms σ) (upd H2 s2.heap.objs.size (.lst [])) {s3 with heap:=h4,toks:=s3.toks+0}:=
  zhg ok I3 f3 hn4 old
 have stat:∀ {H':Hp},(∀ b∈fp,H' b=none)->∀ b∈fp,FpOk (zaW X N' scope (zby X.env scope.names []) s3.heap.objs.size fp s3 (upd H2 s2.heap.objs.size (.lst []))) [] H' b:=λhn b hb=>
  ⟨hn b hb,(J4.ok.exf b hb).1,J4.ok.exfs b hb,.inl hb,(J4.ok.exf b hb).2,λp hp=>absurd (show p∈([]:List (Addr × Obj)) from hp) (by simp)⟩
 have px:=I2.pin (x0,o0) (List.mem_append_left _ hc.pn)
 have xfp:x0∉fp:=λz=>(f2 x0 z).2.2.2.2.2 (x0,o0) (List.mem_append_left _ hc.pn) rfl
 have x3:=old2 x0 o0 px.1
 have xst:x0∉frs X.stack:=by
  rcases I2.ok.stk with e | ⟨e,hf⟩
  ·rw[e];exact px.2.2.2.1
  ·rw[e]
   intro z
   unfold frs at z
   rw[List.filterMap_cons,hf] at z
   rcases List.mem_cons.mp z with z | z
   ·exact px.2.2.1 z
   ·exact px.2.2.2.1 z
 have noc:∀ {pp σ5 H5 s5},Inv (zaW X N' scope (zby X.env scope.names []) s3.heap.objs.size fp s3 (upd H2 s2.heap.objs.size (.lst []))) pp σ5 H5 s5->zhR s5.heap x0:=λJ=>by
  obtain⟨fs,n1,n2⟩:=hc.nc
  refine⟨o0,fs,J.base.keep x0 o0 x3 ?_ xst xfp,n1,n2⟩
  show (upd H2 s2.heap.objs.size (.lst [])) x0=none
  rw[zam (Nat.ne_of_lt (Heap.lt_size px.1))]
  exact px.2.1
 have loop:codeAny (model X.prog X.w) X.A (.compLoop (.ListComp elt [⟨tg,iter,ifs,0⟩] scope pos) 0 (.ref it) (.ref s2.heap.objs.size) (compEnvC scope (zby X.env scope.names []) s3.heap.objs.size X.env))
   (RR (.ref s2.heap.objs.size) s3.heap.objs.size) {s3 with heap:=h4,toks:=s3.toks+0}:=by
  refine ziv (λn s'=>∃ i H' ys,Inv (zaW X N' scope (zby X.env scope.names []) s3.heap.objs.size fp s3 (upd H2 s2.heap.objs.size (.lst []))) [] (zcv ms σ) H' s'/\tn i s'.heap/\(∀ b∈fp,H' b=none)/\W i n ys H') ?_ m0
   ⟨0,_,[],J4,T.keep 0 _ _ st2 λb hb o e=>old b o (old2 b o e),λb hb=>(f3 b hb).1.1,w0⟩
  rintro n s5 E ⟨i,H5,ys,J5,st5,fr5,w5⟩
  obtain⟨hD,alt⟩:=turn i n ys H5 w5
  rcases alt with ⟨stop,q⟩ | ⟨go,hz,N,hN,step⟩
  ·refine thn (TH.doneH (zaW X N' scope (zby X.env scope.names []) s3.heap.objs.size fp s3 (upd H2 s2.heap.objs.size (.lst []))) rfl rfl rfl i [] s5 _ H5 E x0 hc.hd (noc J5) xfp J5 (stat fr5) st5 stop) λr s6 ⟨hr,J6⟩=>?_
   subst hr
   obtain⟨m,hn,_⟩:=id J6.loc
   have I6:=zgf I3 f3 J6
   refine hRR _ _ H5 s6 m hn I6 ?_ q
   have hC:H5 s3.heap.objs.size=none:=J6.free
   obtain⟨g0,g1,g2,g3,g4,g5⟩:=I3.fpOk (b:=s3.heap.objs.size) (H':=H5) (Nat.le_refl _) hC
   exact⟨g0,g1,g2,g3,g4,g5⟩
  ·refine thn (TH.itemH (zaW X N' scope (zby X.env scope.names []) s3.heap.objs.size fp s3 (upd H2 s2.heap.objs.size (.lst []))) rfl rfl rfl i [] s5 _ H5 E J5 (stat fr5) st5 go) λr s6 ⟨u,hr,h6⟩=>?_
   subst hr
   refine thn h6 λ_ s7 ⟨x,H7,J7,r7,y7,st7,fr7⟩=>?_
   have J7':=J7.pinned (stat fr7) (T.obj _ _ st7)
   have again:∀ {σ8:St}{H8:Hp}{s8:Shared}{zs:List V},Inv (zaW X N' scope (zby X.env scope.names []) s3.heap.objs.size fp s3 (upd H2 s2.heap.objs.size (.lst []))) ([]++zha fp s7.heap) σ8 H8 s8->N zs H8->
     ∃ m,m<n/\∃ i H' ys,Inv (zaW X N' scope (zby X.env scope.names []) s3.heap.objs.size fp s3 (upd H2 s2.heap.objs.size (.lst []))) [] (zcv ms σ) H' s8/\tn i s8.heap/\(∀ b∈fp,H' b=none)/\W i m ys H':=λ{σ8 H8 s8 zs} J8 n8=>by
    obtain⟨m',hm,w8⟩:=hN zs H8 n8
    refine⟨m',hm,i+1,H8,zs,zhh ok I3 f3 J8,T.keep _ _ _ st7 λb hb o e=>(J8.pin (b,o) (List.mem_append_right _ (List.mem_append_right _ (zcq hb e)))).1,λb hb=>?_,w8⟩
    obtain⟨o,e,d⟩:=T.obj _ _ st7 b hb
    exact (J8.pin (b,o) (List.mem_append_right _ (List.mem_append_right _ (zcq hb e)))).2.1
   refine wpAny_mono (hg _ _ _ _ _ _ s7 _ H7 x u _ J7' r7 (step x H7 y7)) (λ_ s8 ⟨σ8,H8,J8,q8⟩=>?_) λ_ _ z=>False.elim z
   refine wpAny_mono (ht _ _ _ _ _ _ s8 σ8 H8 _ J8 q8) (λb s9 ⟨H9,J9,q9⟩=>?_) λ_ _ z=>False.elim z
   cases b with
   | false=>exact again J9 q9
   | true=>
    refine wpAny_mono (he _ _ _ _ _ _ s9 σ8 H9 _ J9 q9) (λv s10 ⟨y,H10,J10,r10,hD10,q10⟩=>?_) λ_ _ z=>False.elim z
    refine wpAny_mono (zcu (X:=(zaW X N' scope (zby X.env scope.names []) s3.heap.objs.size fp s3 (upd H2 s2.heap.objs.size (.lst [])))) _ s10 σ8 H10 (.ref s2.heap.objs.size) [y] (.ref s2.heap.objs.size) [v] (λ_ H'=>H'=upd H10 s2.heap.objs.size (.lst (ys++[y]))) J10 rfl (.cons r10 .nil) ⟨_,ys,y,rfl,rfl,hD10,hz,rfl⟩)
     (λ_ s11 ⟨_,H11,J11,_,e11⟩=>?_) λ_ _ z=>False.elim z
    subst e11
    exact again J11 q10
 exact codeAny_compStart_list loop (T.self _ 0 _ _ _ (T.keep 0 _ _ st2 λb hb o e=>old b o (old2 b o e)) loop)
theorem znu {x0:Addr}{o0:Obj}(hc:HeldIn X x0 o0)(ok:COk X.env.scope X.N scope N' ms)(hi:PIH X tg iter wi)
  (hg:∀ cl C fp s3 H3,PG (zaW X N' scope cl C fp s3 H3) tg g) (ht:∀ cl C fp s3 H3,PIfs (zaW X N' scope cl C fp s3 H3) ifs tt) (he:∀ cl C fp s3 H3,PE (zaW X N' scope cl C fp s3 H3) elt te)
  (hs:∀ x,foldedSetIterable iter X.env x=pure x:=by intro _;rfl):PE X (.ListComp elt [⟨tg,iter,ifs,0⟩] scope pos) (zkB ms wi g tt te):=by
 intro pins s σ H Q I h
 rw[eval_ListComp]
 refine wpAny_comprehension_free (use:=none) rfl hs (zjq (ok.cells I.ok)) ok.kind ok.nm ?_
 refine zkK (RR:=λacc C=>compPost (model X.prog X.w) X.A X.xe none (EP X pins σ Q) acc C) hc ok hi hg ht he I h λD C H' s' m hn I' ⟨g0,g1,g2,g3,g4,g5⟩ q=>?_
 refine⟨m,hn,λh' sb=>⟨.ref D,H',?_,rfl,q⟩⟩
 exact I'.turned (t':=s'.toks) (λb o hb e=>sb.extBut b o hb e) g0 g1 g3 g4 g5
end
end L2

namespace L2
open PySem PySem.Spec PySem.Calls PyProof.Rows PySem.W
variable {X:Cx}{x0:Addr}{o0:Obj}
theorem dspL {α:Type}{F:Addr->Hp->α->Prop}{k:Addr->α}{H:Hp}{xs:List V}(h:∀ p H',Same H H'->H' p=some (.lst xs)->F p H' (k p))(hl:xs.length<=sizeLine:=by exact zal (by simp)):xs.length<=sizeLine/\∀ p,H p=none->F p (upd H p (.lst xs)) (k p):=⟨hl,λp hp=>h p _ (zag hp _) zad⟩
end L2

namespace L2
open PySem PySem.Spec PySem.Calls PyProof.Rows PySem.W
section
variable {X:Cx}{k:Nat}
theorem k_eqH (K:Fg)(hr:RoomH k X.A)(hK:X.K=K:=by rfl):OpR X (compareOp .Eq) (rEqA K):=by
 subst hK
 refine zoj.or λpins s σ H x y v u Q I rx ry h=>?_
 obtain⟨a,b,d,e,rfl,rfl,hd,he,hn,q⟩:=h
 cases rx;cases ry
 exact (zlN I (A:=X.A) hn (by have:=hr.un;omega) hd he).1 X.prog X.w X.xe _ ⟨.bl _,H,I,rfl,q⟩
def rIsc:List V->Hp->VK->Prop:=λxs H Q=>∃ a C dx fs,xs=[.ref a,.ref C]/\H a=some (.ins C dx fs)/\Q (.bl true) H
theorem znv:zbC X (.builtin "isinstance") rIsc:=by
 intro pins s σ H xs us Q I r h
 obtain⟨a,C,dx,fs,rfl,hH,q⟩:=h
 obtain⟨u,v,rfl,ru,rv⟩:=zkp r
 cases ru;cases rv
 obtain⟨mA,O,_⟩:=zf0 I.hok hH
 obtain⟨od,J,_⟩:=O.look
 have e:kitOne X.K (.ref C) (.ref C)=some true:=by unfold kitOne;rw[if_pos (by simp)]
 have J':Looks (model X.prog X.w) s.heap (typeOf (.ref a)) (.ref C):=J.type
 exact call_isinstance (S:=λ_ R s=>(X.K.In s.heap/\PySem.W.InstAt s.heap a _ C (some od))/\∀ tk,R (.ok (.ret (.bool true))) {s with toks:=tk})
  (λprog w A R s hs=>isinstance_outer (znq (H:=λh=>PySem.W.InstAt h a _ C (some od)) (λM h _ J=>J.type) e 0 _ prog w A R s hs) (λz=>nomatch z)) ⟨⟨I.kIn,J⟩,λtk=>⟨.bl _,H,I.tok tk,rfl,q⟩⟩
end
theorem zl7 {J:It}{H1:Hp}{n:Nat}{P:Nat->V->Hp->Prop}{g:TG}{tt:TT}{te:TE}{σ0:St}{Q:VK}(wk:Goes J H1 n P)(hz:n<=sizeLine)(R:V->Prop)
  (step:∀ i x H' (R1:VK) (R2:Hp->Prop),i<n->Same H1 H'->P i x H'->(∀ y H3,Same H' H3->R y->R1 y H3)->(∀ H3,Same H' H3->R2 H3)->
   g x σ0 H' λσ2 H2=>tt σ2 H2 λb H3=>if b=true then te σ2 H3 R1 else R2 H3)
  (fin:∀ l ys H',Same H1 H'->H1 l=none->H' l=some (.lst ys)->ys.length<=n->(∀ y∈ys,R y)->Q (.ref l) H'):ziy J g tt te σ0 H1 Q:=by
 intro Da hD
 refine⟨λi m ys H=>m=n - i/\i<=n/\Same H1 H/\H Da=some (.lst ys)/\ys.length<=i/\∀ y∈ys,R y,⟨n,rfl,Nat.zero_le _,zag hD _,zad,Nat.le_refl _,λy hy=>by cases hy⟩,?_⟩
 rintro i m ys H ⟨rfl,hi,hs,hH,hl,hR⟩
 refine⟨hH,?_⟩
 by_cases hlt:i<n
 ·refine .inr ⟨wk.go i H hlt hs,by omega,λys' H'=>(n - (i+1)<n - i/\i+1<=n/\Same H1 H'/\H' Da=some (.lst ys')/\ys'.length<=i+1/\∀ y∈ys',R y),λys' H' ⟨q1,q2,q3,q4,q5,q6⟩=>⟨n - (i+1),q1,rfl,q2,q3,q4,q5,q6⟩,λx H' hy=>?_⟩
  obtain⟨s1,hp⟩:=wk.yld i H x H' hlt hs hy
  refine step i x H' _ _ hlt (hs.trans s1) hp (λy H3 s3 hy=>?_) (λH3 s3=>?_)
  ·refine⟨s3 _ _ (s1 _ _ hH),by omega,hlt,λb o e=>?_,zad,by rw[List.length_append,List.length_singleton];omega,λz hz=>?_⟩
   ·rw[zam (zax e hD)]
    exact s3 _ _ (s1 _ _ (hs _ _ e))
   ·rcases zma.mp hz with w | w
    ·exact hR z w
    ·rw[zms.mp w];exact hy
  ·exact⟨by omega,hlt,hs.trans (s1.trans s3),s3 _ _ (s1 _ _ hH),by omega,hR⟩
 ·have e:i=n:=by omega
  subst e
  exact .inl ⟨wk.stop H hs,fin Da ys H hs hD hH hl hR⟩
end L2

namespace My
def mix (c k m:Int):Int:=(c % 2147483647+12345) * (48271+6 * k) % 1000000007 / 7 % m
def znw (i:Int):Int:=if i=0 then 1000000000 else if i=1 then -1000000000 else if i=2 then 999999999 else -999999999
def number (c k:Int):Int:=
 if mix c k 9=0 then c % 2000000001 - 1000000000
 else if mix c k 9=1 then znw (mix c (k+1) 4)
 else mix c (k+2) 9 - 4
theorem zba {c k m:Int}(h:0<m):0<=mix c k m:=Int.emod_nonneg _ (by omega)
theorem zda {c k m:Int}(h:0<m):mix c k m<m:=Int.emod_lt_of_pos _ h
theorem znx (i:Int):-1000000000<=znw i/\znw i<=1000000000:=by
 unfold znw
 split
 ·omega
 ·split
  ·omega
  ·split <;> omega
theorem zgn (c k:Int):-1000000000<=number c k/\number c k<=1000000000:=by
 unfold number
 split
 ·have h1:=Int.emod_nonneg c (show (2000000001:Int)≠0 by decide)
  have h2:=Int.emod_lt_of_pos c (show (0:Int)<2000000001 by decide)
  omega
 ·split
  ·exact znx _
  ·have h1:=zba (c:=c) (k:=k+2) (m:=9) (by decide)
   have h2:=zda (c:=c) (k:=k+2) (m:=9) (by decide)
   omega
def cell (ns:List Int)(k:Int):Int:=ns.getD k.toNat 0
end My

namespace My
def zaC (i:Int):List Int:=0::(List.range 8).map λ(k:Nat)=>if (0+(k:Int))=i then 1 else 0
def addW (w:Int)(t l:List Int):List Int:=List.zipWith (λs n=>s+n * w) t l
def ziJ (ps:List (List Int × Int))(t:List Int):List Int:=ps.foldl (λt p=>addW p.2 t p.1) t
def zb3 (ls:List (List Int))(ws:List Int):List Int:=ziJ (ls.zip ws) (List.replicate 9 0)
def zjz (c:Int):List Int->List Int
 | []=>[]
 | x::r=>(x+c)::r
def zaR (line:List Int)(eight:List (List Int)):List Int:=zjz (line.headD 0) (zb3 eight line.tail)
theorem zgo {w:Int}{t l:List Int}(h1:t.length=9)(h2:l.length=9):(addW w t l).length=9:=by
 unfold addW;rw[List.length_zipWith,h1,h2];rfl
theorem zdZ:∀ (ps:List (List Int × Int)) (t:List Int),t.length=9->(∀ p∈ps,p.1.length=9)->(ziJ ps t).length=9
 | [],t,h,_=>h
 | p::ps,t,h,hp=>zdZ ps _ (zgo h (hp p List.mem_cons_self)) λq hq=>hp q (List.mem_cons_of_mem _ hq)
theorem zl8 {ls:List (List Int)}{ws:List Int}(h:∀ l∈ls,l.length=9):∀ p∈ls.zip ws,p.1.length=9:=λp hp=>h p.1 (List.of_mem_zip hp).1
theorem zaZ {ls:List (List Int)}{ws:List Int}(h:∀ l∈ls,l.length=9):(zb3 ls ws).length=9:=zdZ _ _ (by simp) (zl8 h)
theorem zkL (ps:List (List Int × Int))(p:List Int × Int)(t:List Int):ziJ (ps++[p]) t=addW p.2 (ziJ ps t) p.1:=by
 unfold ziJ;rw[List.foldl_append];rfl
theorem zoX {ls:List (List Int)}{ws:List Int}{i:Nat}{l:List Int}{w:Int}(h1:ls[i]?=some l)(h2:ws[i]?=some w):(ls.zip ws)[i]?.toList=[(l,w)]:=by
 rw[(List.getElem?_zip_eq_some (z:=(l,w))).mpr ⟨h1,h2⟩];rfl
end My

namespace My
open PySem L2
def zeU (c:Int)(zero:List Int)(k:Nat):Bool:=inV (.int (0+(k:Int))) (zero.map V.int) || decide (mix c (60+(0+(k:Int))) 3=0)
def zbS (c:Int)(zero:List Int):List Int:=(List.range 9).map λj=>if decide (0<j) && zeU c zero (j - 1) then 0 else number c (5 * (0+(j:Int)))
def zd0 (c:Int)(zero:List Int)(i:Nat):List Int:=(List.range 9).map λj=>if decide (0<j) && decide (j - 1<i) && zeU c zero (j - 1) then 0 else number c (5 * (0+(j:Int)))
theorem zl9 {f:Nat->Int}{n p:Nat}{v:Int}(hp:p<n):((List.range n).map f).set p v=(List.range n).map λj=>if j=p then v else f j:=by
 refine List.ext_getElem? λi=>?_
 by_cases hi:i<n
 ·by_cases e:i=p
  ·subst e
   rw[List.getElem?_set_self (by simpa using hi),zgm,List.getElem?_range hi]
   simp
  ·rw[List.getElem?_set_ne (Ne.symm e),zgm,zgm,List.getElem?_range hi]
   simp[e]
 ·rw[List.getElem?_eq_none (by simp;omega),List.getElem?_eq_none (by simp;omega)]
theorem zdt {f g:Nat->Int}{n:Nat}(h:∀ j,j<n->f j=g j):(List.range n).map f=(List.range n).map g:=
 List.map_congr_left λj hj=>h j (List.mem_range.mp hj)
theorem zmb {c:Int}{zero:List Int}{i:Nat}(hi:i<8)(h:zeU c zero i=true):(zd0 c zero i).set (i+1) 0=zd0 c zero (i+1):=by
 unfold zd0
 rw[zl9 (by omega)]
 refine zdt λj hj=>?_
 by_cases e:j=i+1
 ·subst e;simp[h]
 ·rw[if_neg e]
  have:decide (j - 1<i)=decide (j - 1<i+1)\/j=0:=by
   by_cases h0:j=0
   ·exact .inr h0
   ·refine .inl (decide_eq_decide.mpr ⟨λz=>by omega,λz=>by omega⟩)
  rcases this with z | z
  ·rw[z]
  ·subst z;simp
theorem zkM {c:Int}{zero:List Int}{i:Nat}(h:zeU c zero i=false):zd0 c zero i=zd0 c zero (i+1):=by
 unfold zd0
 refine zdt λj hj=>?_
 by_cases e:j=i+1
 ·subst e;simp[h]
 ·have:decide (j - 1<i)=decide (j - 1<i+1)\/j=0:=by
   by_cases h0:j=0
   ·exact .inr h0
   ·refine .inl (decide_eq_decide.mpr ⟨λz=>by omega,λz=>by omega⟩)
  rcases this with z | z
  ·rw[z]
  ·subst z;simp
theorem zkN (c:Int)(zero:List Int):zd0 c zero 0=(List.range 9).map λ(j:Nat)=>number c (5 * (0+(j:Int))):=by
 unfold zd0;refine zdt λj hj=>?_;simp
theorem zmd (c:Int)(zero:List Int):zd0 c zero 8=zbS c zero:=by
 unfold zd0 zbS
 refine zdt λj hj=>?_
 have:decide (j - 1<8)=true:=decide_eq_true (by omega)
 rw[this,Bool.and_true]
theorem zbT (c:Int)(zero:List Int):(zbS c zero).length=9:=by simp[zbS]
theorem ziK (c:Int)(zero:List Int)(i:Nat):(zd0 c zero i).length=9:=by simp[zd0]
theorem zmf {c:Int}{zero:List Int} : ∀ f∈zbS c zero,-1000000000<=f/\f<=1000000000:=λf h=>by
 obtain⟨k,_,rfl⟩:=zmm.mp h
 split
 ·omega
 ·exact zgn _ _
theorem zjA {c:Int}{zero:List Int}{k:Nat}(hk:k<8)(h:(k:Int)∈zero):(zbS c zero).getD (k+1) 0=0:=by
 unfold zbS
 rw[List.getD_eq_getElem?_getD,zgm,List.getElem?_range (by omega)]
 have:zeU c zero k=true:=by
  unfold zeU inV
  rw[Bool.or_eq_true]
  refine .inl ?_
  rw[List.any_map,List.any_eq_true]
  exact⟨(k:Int),h,by simp[eqV]⟩
 simp[this]
def zcd (c:Int)(zero:List Int):List (List Int):=(List.range (mix c 20 3).toNat).map λ(k:Nat)=>zbS (c+77 * (0+(k:Int))) zero
theorem zkO {c:Int}{zero:List Int}{l:List Int}(h:l∈zcd c zero):∃ c',l=zbS c' zero:=by
 obtain⟨k,_,rfl⟩:=zmm.mp h
 exact⟨_,rfl⟩
theorem zmh (c:Int)(zero:List Int):(zcd c zero).length<=2:=by
 have h1:=zba (c:=c) (k:=20) (m:=3) (by decide)
 have h2:=zda (c:=c) (k:=20) (m:=3) (by decide)
 simp[zcd];omega
def byOf (c:Int):Int:=if mix c 6 4=0 then 1 else if mix c 6 4=1 then 1000 else if mix c 6 4=2 then 1+mix c 5 1000 else 2
def zkP (c:Int):Int:=number (c / 13) 7
def zhn (c:Int):Int:=if number (c / 17) 8>zkP c then number (c / 17) 8 else zkP c
def zmi (c count:Int):D:=
 if mix c 4 6=0 then .tup [.str "set",.int (mix c 3 4),nums (zbS (c / 11) [6,7])]
 else if mix c 4 6=1 then .tup [.str "part",.int (mix c 3 4),nums (zbS (c / 11) [6,7]),.int (byOf c)]
 else if mix c 4 6=2 then .tup [.str "draw",.int (mix c 3 4),.int (zkP c),.int (zhn c)]
 else if mix c 4 6=3 then .tup [.str "turn",nums (zbS (c / 11) [6,7]),.int (mix c 9 (count+1))]
 else if mix c 4 6=4 then .tup [.str "hold",nums (zbS (c / 11) [6,7])]
 else .tup [.str "call",.int (mix c 12 100),.tup [.int (mix c 10 4),.int (mix c 11 4)],.tup [.int (mix c 3 4),.int ((mix c 3 4+1+mix c 13 3) % 4)]]
def zgp (ns:List Int)(start:Int):List (List Int):=zcd (cell ns start) [0,1,2,3,6,7]
def zfj (ns:List Int)(start:Int):List (List Int):=zcd (cell ns (start+1)) [0,1,2,3]
def zho (ns:List Int)(start count:Int):List D:=(List.range count.toNat).map λ(k:Nat)=>zmi (cell ns (start+2+(0+(k:Int)))) count
def zd1 (ns:List Int)(start count:Int):List (List (List Int)):=(List.range count.toNat).map λ(k:Nat)=>zcd (cell ns (start+2+(0+(k:Int))) / 19) [6,7]
def zaq (ls:List (List Int)):D:=.lst (ls.map nums)
def zmj (ns:List Int)(start count:Int):D:=.lst [zaq (zgp ns start),zaq (zfj ns start),.lst (zho ns start count),.lst ((zd1 ns start count).map zaq)]
end My
namespace My
open PySem L2
def zkf:List Int:=[0,1,2,3,4,5,0,1]
def zdb:List (List Int):=zkf.map zaC
def dueL (leaves:List (List Int))(notes:List (List (List Int)))(place:Int):List (List Int):=if place=(notes.length:Int) then leaves.map λl=>zaR l zdb else notes.getD place.toNat []
theorem zmk {i:Int} : ∀ n∈zaC i,n=0\/n=1:=λn h=>by
 rcases List.mem_cons.mp h with h | h
 ·exact .inl h
 ·obtain⟨k,_,rfl⟩:=zmm.mp h
  split
  ·exact .inr rfl
  ·exact .inl rfl
theorem zkQ:∀ l∈zdb,l.length=9:=λl h=>by
 obtain⟨i,_,rfl⟩:=zmm.mp h
 simp[zaC]
theorem zkR:∀ l∈zdb,∀ n∈l,n=0\/n=1:=λl h n hn=>by
 obtain⟨i,_,rfl⟩:=zmm.mp h
 exact zmk n hn
end My
namespace My
open PySem L2
end My

namespace My
open PySem L2
inductive Dd where
 | set (hand:Int) (line:List Int) | part (hand:Int) (line:List Int) (by':Int) | draw (hand low high:Int)
 | turn (line:List Int) (place:Int) | hold (line:List Int) | call (number g0 g1 t0 t1:Int)
def toD:Dd->D
 | .set h l=>.tup [.str "set",.int h,nums l]
 | .part h l b=>.tup [.str "part",.int h,nums l,.int b]
 | .draw h lo hi=>.tup [.str "draw",.int h,.int lo,.int hi]
 | .turn l p=>.tup [.str "turn",nums l,.int p]
 | .hold l=>.tup [.str "hold",nums l]
 | .call n g0 g1 t0 t1=>.tup [.str "call",.int n,.tup [.int g0,.int g1],.tup [.int t0,.int t1]]
def zgR:Dd->Prop
 | .set _ l=>l.length=9
 | .part _ l _=>l.length=9
 | .turn l _=>l.length=9
 | .hold l=>l.length=9
 | _=>True
def btw (a b c:Int):Bool:=decide (a<=b) && decide (b<=c)
def zd2 (n:Int):Bool:=btw (-1000000000) n 1000000000
def zdG (spots:List Nat)(l:List Int):Bool:=(l.map zd2).all id && (spots.map λs=>decide (l.getD s 0=0)).all id
def zc1 (spots:List Nat)(ls:List (List Int)):Bool:=decide ((ls.length:Int)<=2) && (ls.map (zdG spots)).all id
def zb4 (h:Int):Bool:=btw 0 h 3
def zbM (n:Int):Dd->Bool
 | .set h l=>zb4 h && zdG [7,8] l
 | .part h l b=>zb4 h && (zdG [7,8] l && btw 1 b 1000)
 | .draw h lo hi=>zb4 h && (zd2 lo && (zd2 hi && decide (lo<=hi)))
 | .turn l p=>zdG [7,8] l && btw 0 p n
 | .hold l=>zdG [7,8] l
 | .call m g0 g1 t0 t1=>([zb4 g0,zb4 g1].all id && [zb4 t0,zb4 t1].all id) && (btw 0 m 99 && !decide (t0=t1))
def zhp (needs leaves:List (List Int)):Bool:=zc1 [1,2,3,4,7,8] needs && zc1 [1,2,3,4] leaves
def zfk (deeds:List Dd):Bool:=btw 1 (deeds.length:Int) 8 && (deeds.map (zbM (deeds.length:Int))).all id
def zgq (deeds:List Dd)(notes:List (List (List Int))):Bool:=decide ((notes.length:Int)=(deeds.length:Int)) && (notes.map (zc1 [7,8])).all id
def zdH (needs leaves:List (List Int))(deeds:List Dd)(notes:List (List (List Int))):Bool:=zhp needs leaves && (zfk deeds && zgq deeds notes)
end My

namespace My
open PySem L2
def zjB (c count:Int):Dd:=
 if mix c 4 6=0 then .set (mix c 3 4) (zbS (c / 11) [6,7])
 else if mix c 4 6=1 then .part (mix c 3 4) (zbS (c / 11) [6,7]) (byOf c)
 else if mix c 4 6=2 then .draw (mix c 3 4) (zkP c) (zhn c)
 else if mix c 4 6=3 then .turn (zbS (c / 11) [6,7]) (mix c 9 (count+1))
 else if mix c 4 6=4 then .hold (zbS (c / 11) [6,7])
 else .call (mix c 12 100) (mix c 10 4) (mix c 11 4) (mix c 3 4) ((mix c 3 4+1+mix c 13 3) % 4)
theorem zml (c count:Int):toD (zjB c count)=zmi c count:=by
 unfold zjB zmi
 split
 ·rfl
 split
 ·rfl
 split
 ·rfl
 split
 ·rfl
 split <;> rfl
theorem zjC (c count:Int):zgR (zjB c count):=by
 unfold zjB
 split
 ·exact zbT _ _
 split
 ·exact zbT _ _
 split
 ·trivial
 split
 ·exact zbT _ _
 split
 ·exact zbT _ _
 ·trivial
theorem zdc {α:Type}{l:List α}{f:α->Bool}(h:∀ x∈l,f x=true):(l.map f).all id=true:=by
 rw[List.all_map]
 exact List.all_eq_true.mpr λx m=>h x m
theorem zbz {a b c:Int}(h1:a<=b)(h2:b<=c):btw a b c=true:=by unfold btw;rw[decide_eq_true h1,decide_eq_true h2];rfl
theorem zd3 {c:Int}{zero:List Int}{spots:List Nat}(h:∀ s∈spots,∃ k:Nat,s=k+1/\k<8/\(k:Int)∈zero):zdG spots (zbS c zero)=true:=by
 unfold zdG
 rw[zdc λx m=>?_,zdc λs m=>?_]
 ·rfl
 ·obtain⟨k,rfl,hk,hz⟩:=h s m
  exact decide_eq_true (zjA hk hz)
 ·obtain⟨h1,h2⟩:=zmf x m
  exact zbz h1 h2
theorem ziL:∀ s∈([7,8]:List Nat),∃ k:Nat,s=k+1/\k<8/\(k:Int)∈([6,7]:List Int):=λs m=>by
 rcases List.mem_cons.mp m with z | m
 ·exact⟨6,z,by decide,by decide⟩
 ·exact⟨7,zms.mp m,by decide,by decide⟩
theorem zqq:∀ s∈([1,2,3,4]:List Nat),∃ k:Nat,s=k+1/\k<8/\(k:Int)∈([0,1,2,3]:List Int):=λs m=>by
 have:s=1\/s=2\/s=3\/s=4:=by simpa using m
 rcases this with z | z | z | z
 ·exact⟨0,z,by decide,by decide⟩
 ·exact⟨1,z,by decide,by decide⟩
 ·exact⟨2,z,by decide,by decide⟩
 ·exact⟨3,z,by decide,by decide⟩
theorem zqr:∀ s∈([1,2,3,4,7,8]:List Nat),∃ k:Nat,s=k+1/\k<8/\(k:Int)∈([0,1,2,3,6,7]:List Int):=λs m=>by
 have:s=1\/s=2\/s=3\/s=4\/s=7\/s=8:=by simpa using m
 rcases this with z | z | z | z | z | z
 ·exact⟨0,z,by decide,by decide⟩
 ·exact⟨1,z,by decide,by decide⟩
 ·exact⟨2,z,by decide,by decide⟩
 ·exact⟨3,z,by decide,by decide⟩
 ·exact⟨6,z,by decide,by decide⟩
 ·exact⟨7,z,by decide,by decide⟩
theorem zfl {c:Int}{zero:List Int}{spots:List Nat}(h:∀ s∈spots,∃ k:Nat,s=k+1/\k<8/\(k:Int)∈zero):zc1 spots (zcd c zero)=true:=by
 unfold zc1
 have:=zmh c zero
 rw[decide_eq_true (by omega),zdc λl m=>?_]
 ·rfl
 ·obtain⟨c',rfl⟩:=zkO m
  exact zd3 h
theorem zfU (c k:Int):zb4 (mix c k 4)=true:=by
 have h1:=zba (c:=c) (k:=k) (m:=4) (by decide)
 have h2:=zda (c:=c) (k:=k) (m:=4) (by decide)
 exact zbz h1 (by omega)
theorem zny {c count:Int}(hc:0<=count):zbM count (zjB c count)=true:=by
 unfold zjB
 split
 ·simp only[zbM];rw[zfU,zd3 ziL];rfl
 split
 ·simp only[zbM];rw[zfU,zd3 ziL,Bool.true_and,Bool.true_and]
  unfold byOf
  have h1:=zba (c:=c) (k:=5) (m:=1000) (by decide)
  have h2:=zda (c:=c) (k:=5) (m:=1000) (by decide)
  split
  ·exact zbz (by decide) (by decide)
  split
  ·exact zbz (by decide) (by decide)
  split
  ·exact zbz (by omega) (by omega)
  ·exact zbz (by decide) (by decide)
 split
 ·simp only[zbM]
  obtain⟨h1,h2⟩:=zgn (c / 13) 7
  obtain⟨h3,h4⟩:=zgn (c / 17) 8
  have e1:zd2 (zkP c)=true:=zbz h1 h2
  have e2:zd2 (zhn c)=true:=by
   unfold zhn
   split
   ·exact zbz h3 h4
   ·exact zbz h1 h2
  have e3:zkP c<=zhn c:=by
   unfold zhn
   split
   ·omega
   ·omega
  rw[zfU,e1,e2,decide_eq_true e3];rfl
 split
 ·simp only[zbM];rw[zd3 ziL,Bool.true_and]
  have h1:=zba (c:=c) (k:=9) (m:=count+1) (by omega)
  have h2:=zda (c:=c) (k:=9) (m:=count+1) (by omega)
  exact zbz h1 (by omega)
 split
 ·simp only[zbM];exact zd3 ziL
 ·simp only[zbM]
  have h1:=zba (c:=c) (k:=12) (m:=100) (by decide)
  have h2:=zda (c:=c) (k:=12) (m:=100) (by decide)
  have h3:=zba (c:=c) (k:=3) (m:=4) (by decide)
  have h4:=zda (c:=c) (k:=3) (m:=4) (by decide)
  have h5:=zba (c:=c) (k:=13) (m:=3) (by decide)
  have h6:=zda (c:=c) (k:=13) (m:=3) (by decide)
  have e1:zb4 ((mix c 3 4+1+mix c 13 3) % 4)=true:=zbz (by omega) (by omega)
  have e2:¬ mix c 3 4=(mix c 3 4+1+mix c 13 3) % 4:=by omega
  rw[zbz h1 (by omega),decide_eq_false e2]
  simp[zfU,e1]
def zeV (ns:List Int)(start count:Int):List Dd:=(List.range count.toNat).map λ(k:Nat)=>zjB (cell ns (start+2+(0+(k:Int)))) count
theorem zkS (ns:List Int)(start count:Int):(zeV ns start count).map toD=zho ns start count:=by
 unfold zeV zho
 rw[List.map_map]
 exact List.map_congr_left λk _=>zml _ _
theorem zkT {ns:List Int}{start count:Int}(h1:1<=count)(h8:count<=8):zdH (zgp ns start) (zfj ns start) (zeV ns start count) (zd1 ns start count)=true:=by
 have ld:((zeV ns start count).length:Int)=count:=by unfold zeV;simp;omega
 have ln:((zd1 ns start count).length:Int)=count:=by unfold zd1;simp;omega
 unfold zdH zhp zfk zgq zgp zfj
 rw[zfl zqr,zfl zqq,ld,ln,decide_eq_true rfl,zbz h1 h8,zdc λd m=>?_,zdc λls m=>?_]
 ·rfl
 ·obtain⟨k,_,rfl⟩:=zmm.mp m
  exact zfl ziL
 ·obtain⟨k,_,rfl⟩:=zmm.mp m
  exact zny (by omega)
end My

namespace My
def negs (ws:List Int):List Int:=ws.map λw=>-w
def zmn (goal:List Int)(hyps:List (List Int))(whole:Int)(ws:List Int):List Int:=zb3 (goal::hyps) (whole::negs ws)
def zqs (goal:List Int)(hyps:List (List Int))(whole:Int)(ws:List Int):Bool:=decide (-whole<(zmn goal hyps whole ws).headD 0) && decide ((zmn goal hyps whole ws).tail=List.replicate 8 0)
def rowB (hyps:List (List Int))(whole:Int)(ws:List Int):Bool:=decide (1<=whole) && (decide (ws.length=hyps.length) && ws.all λw=>decide (0<=w))
def zgr (goal:List Int)(hyps:List (List Int))(whole:Int)(ws:List Int):Bool:=rowB hyps whole ws && zqs goal hyps whole ws
def zej:Nat->List (List Int)
 | 0=>[[]]
 | n+1=>(zej n).map (λr=>r++[0])++(zej n).map λr=>r++[1]
theorem zdd:∀ (n:Nat) (r:List Int),r∈zej n->r.length=n/\∀ w∈r,w=0\/w=1
 | 0,r,h=>by
  unfold zej at h
  rw[zms] at h
  subst h
  exact⟨rfl,λw hw=>by cases hw⟩
 | n+1,r,h=>by
  unfold zej at h
  rcases zma.mp h with h | h
  ·obtain⟨q,hq,rfl⟩:=zmm.mp h
   obtain⟨a,b⟩:=zdd n q hq
   refine⟨by simp[a],λw hw=>?_⟩
   rcases zma.mp hw with hw | hw
   ·exact b w hw
   ·exact .inl (zms.mp hw)
  ·obtain⟨q,hq,rfl⟩:=zmm.mp h
   obtain⟨a,b⟩:=zdd n q hq
   refine⟨by simp[a],λw hw=>?_⟩
   rcases zma.mp hw with hw | hw
   ·exact b w hw
   ·exact .inr (zms.mp hw)
theorem zfB:∀ n:Nat,(zej n).length=2 ^ n
 | 0=>rfl
 | n+1=>by
  unfold zej
  rw[List.length_append,zlm,zlm,zfB n,Nat.pow_succ];omega
def ziM (goal:List Int)(hyps:List (List Int))(whole:Int)(ws:List Int):Option (Int × List Int):=if zgr goal hyps whole ws=true then some (whole,ws) else none
def zhT (goal:List Int)(hyps:List (List Int))(whole:Int):Option (Int × List Int):=(zej hyps.length).findSome? (ziM goal hyps whole)
def zb5 (goal:List Int)(hyps:List (List Int)):Option (Int × List Int):=[1,2,3,4].findSome? (zhT goal hyps)
theorem zhU {α β:Type} : ∀ {l:List α}{f:α->Option β}{i:Nat}{x:α}{y:β},(l.take i).findSome? f=none->l[i]?=some x->f x=some y->l.findSome? f=some y
 | [],f,i,x,y,_,e,_=>by simp at e
 | a::l,f,0,x,y,_,e,h=>by
  simp at e;subst e
  rw[List.findSome?_cons,h]
 | a::l,f,i+1,x,y,n,e,h=>by
  rw[List.take_succ_cons,List.findSome?_cons] at n
  cases hf:f a with
  | some z=>rw[hf] at n;cases n
  | none=>
   rw[hf] at n
   rw[List.findSome?_cons,hf]
   exact zhU n (by simpa using e) h
theorem zgs {α β:Type} : ∀ {l:List α}{f:α->Option β}{i:Nat}{x:α},(l.take i).findSome? f=none->l[i]?=some x->f x=none->(l.take (i+1)).findSome? f=none
 | [],f,i,x,_,e,_=>by simp at e
 | a::l,f,0,x,_,e,h=>by
  simp at e;subst e
  simp[h]
 | a::l,f,i+1,x,n,e,h=>by
  rw[List.take_succ_cons,List.findSome?_cons] at n
  cases hf:f a with
  | some z=>rw[hf] at n;cases n
  | none=>
   rw[hf] at n
   rw[List.take_succ_cons,List.findSome?_cons,hf]
   exact zgs n (by simpa using e) h
theorem zkg {α β:Type}{l:List α}{f:α->Option β}{n:Nat}(h:(l.take n).findSome? f=none)(hn:l.length<=n):l.findSome? f=none:=by
 rwa [List.take_of_length_le hn] at h
end My

namespace My
open PySem L2
section
variable {needs leaves:List (List Int)}{deeds:List Dd}{notes:List (List (List Int))}
end
end My

namespace My
def kL (n:Int):List Int:=n::List.replicate 8 0
def zgt (line:List Int):List Int:=zb3 [line,kL 1] [-1,-1]
def zeE (lo:Int):List Int:=zb3 [zaC 6,kL lo] [1,-1]
def zgu (hi:Int):List Int:=zb3 [kL hi,zaC 6] [1,-1]
def zdu (line:List Int)(b:Int):List Int:=zb3 [line,zaC 6] [1,-b]
def greatest (line:List Int)(b:Int):List Int:=zb3 [zaC 6,kL (b - 1),line] [b,1,-1]
theorem zbf (n:Int):(kL n).length=9:=by simp[kL]
theorem zap (i:Int):(zaC i).length=9:=by simp[zaC]
structure Good (needs leaves:List (List Int))(n:Nat)(notes:List (List (List Int))):Prop where
 dn:n=notes.length
 d:n<=100
 n:needs.length<=100
 l:leaves.length<=100
 n9:∀ l∈needs,l.length=9
 l9:∀ l∈leaves,l.length=9
 o:∀ ls∈notes,ls.length<=100/\∀ l∈ls,l.length=9
theorem Good.due {needs leaves:List (List Int)}{n:Nat}{notes:List (List (List Int))}(g:Good needs leaves n notes)(place:Int):(dueL leaves notes place).length<=100/\∀ l∈dueL leaves notes place,l.length=9:=by
 unfold dueL
 split
 ·refine⟨by rw[zlm];exact g.l,λl hl=>?_⟩
  obtain⟨m,hm,rfl⟩:=zmm.mp hl
  have h9:∀ l∈zdb,l.length=9:=λl hl=>by
   unfold zdb at hl
   obtain⟨i,_,rfl⟩:=zmm.mp hl
   exact zap i
  have hs:=zaZ (ws:=m.tail) h9
  unfold zaR
  cases e:zb3 zdb m.tail with
  | nil=>rw[e] at hs;simp at hs
  | cons x r=>rw[e] at hs;simpa [zjz] using hs
 ·rw[List.getD_eq_getElem?_getD]
  cases e:notes[place.toNat]? with
  | none=>simp
  | some ls=>exact g.o ls (zmg e)
end My

namespace My
open PySem L2 PyProof.Rows
def zkU (H:Hp):List D->List V->Prop
 | [],[]=>True
 | d::ds,x::xs=>Part H d x/\zkU H ds xs
 | _,_=>False
theorem ziN {H:Hp} : ∀ {ds:List D}{xs:List V},ds.length=xs.length->(∀ (i:Nat) dd x,ds[i]?=some dd->xs[i]?=some x->Part H dd x)->zkU H ds xs
 | [],[],_,_=>trivial
 | [],_::_,e,_=>by simp at e
 | _::_,[],e,_=>by simp at e
 | d::ds,x::xs,e,h=>⟨h 0 d x rfl rfl,ziN (by simpa using e) λi dd y e1 e2=>h (i+1) dd y (by simpa using e1) (by simpa using e2)⟩
theorem zce {H:Hp}{ds:List D}{v:V}(h:zc0 H (.tup ds) v):∃ t xs,v=.ref t/\H t=some (.tup xs)/\zkU H ds xs:=by
 obtain⟨t,xs,ds',e,rfl,h1,h2,_,h3⟩:=h
 cases e
 exact⟨t,xs,rfl,h1,ziN h2 h3⟩
theorem zaB {H:Hp}{d:D}{ds:List D}{xs:List V}(h:zkU H (d::ds) xs):∃ x r,xs=x::r/\Part H d x/\zkU H ds r:=by
 cases xs with
 | nil=>exact h.elim
 | cons x r=>exact⟨x,r,rfl,h.1,h.2⟩
theorem zde {H:Hp}{xs:List V}(h:zkU H [] xs):xs=[]:=by
 cases xs with
 | nil=>rfl
 | cons x r=>exact h.elim
theorem zdv {H:Hp}{s:Str}{x:V}(h:Part H (.str s) x):x=.str s:=by
 rcases h with ⟨i,e,_⟩ | ⟨z,e,rfl⟩ | ⟨b,l,e,_⟩ | ⟨b,i,j,e,_⟩ <;> cases e
 rfl
theorem zco {H:Hp}{s:Int}{x:V}(h:Part H (.int s) x):x=.int s:=by
 rcases h with ⟨i,e,rfl⟩ | ⟨z,e,_⟩ | ⟨b,l,e,_⟩ | ⟨b,i,j,e,_⟩ <;> cases e
 rfl
theorem zkh:∀ {l m:List Int},l.map D.int=m.map D.int->l=m
 | [],[],_=>rfl
 | [],_::_,e=>by simp at e
 | _::_,[],e=>by simp at e
 | a::l,b::m,e=>by
  rw[zmc,zmc] at e
  injection e with e1 e2
  injection e1 with e1
  rw[e1,zkh e2]
theorem zeW {H:Hp}{l:List Int}{x:V}(h:Part H (nums l) x):∃ b,x=.ref b/\H b=some (.lst (l.map V.int)):=by
 rcases h with ⟨i,e,_⟩ | ⟨z,e,_⟩ | ⟨b,m,e,h1,h2⟩ | ⟨b,i,j,e,_⟩
 ·cases e
 ·cases e
 ·injection e with e
  rw[zkh e]
  exact⟨b,h1,h2⟩
 ·cases e
theorem ziO {H:Hp}{i j:Int}{x:V}(h:Part H (.tup [.int i,.int j]) x):∃ b,x=.ref b/\H b=some (.tup [.int i,.int j]):=by
 rcases h with ⟨i',e,_⟩ | ⟨z,e,_⟩ | ⟨b,m,e,h1,h2⟩ | ⟨b,i',j',e,h1,h2⟩
 ·cases e
 ·cases e
 ·cases e
 ·cases e
  exact⟨b,h1,h2⟩
def R2 {α:Type}(P:α->V->Prop)(as:List α)(xs:List V):Prop:=as.length=xs.length/\∀ (i:Nat) a x,as[i]?=some a->xs[i]?=some x->P a x
theorem R2.nil {α:Type}{P:α->V->Prop} : R2 P [] []:=⟨rfl,λi a x e _=>by simp at e⟩
theorem R2.mono {α:Type}{P P':α->V->Prop}{as:List α}{xs:List V}(h:R2 P as xs)(m:∀ a x,P a x->P' a x):R2 P' as xs:=⟨h.1,λi a x e1 e2=>m a x (h.2 i a x e1 e2)⟩
theorem R2.get {α:Type}{P:α->V->Prop}{as:List α}{xs:List V}(h:R2 P as xs){i:Nat}(hi:i<as.length):∃ x,xs[i]?=some x/\P (as[i]) x:=by
 have hj:i<xs.length:=by rw[<-h.1];exact hi
 exact⟨xs[i],by simp,h.2 i _ _ (by simp) (by simp)⟩
def zd4 (H:Hp):List Dd->List V->Prop:=R2 λd x=>zc0 H (toD d) x
theorem zd4.same {H H':Hp}{ds:List Dd}{xs:List V}(e:Same H H')(h:zd4 H ds xs):zd4 H' ds xs:=R2.mono h λ_ _ z=>z.sq e.sq
def zcD:Dd->Str
 | .set _ _=>"set"
 | .part _ _ _=>"part"
 | .draw _ _ _=>"draw"
 | .turn _ _=>"turn"
 | .hold _=>"hold"
 | .call _ _ _ _ _=>"call"
theorem zmo {H:Hp}{d:Dd}{x:V}(h:zc0 H (toD d) x):∃ t xs,x=.ref t/\H t=some (.tup (.str (zcD d)::xs)):=by
 cases d <;> (obtain⟨t,xs,rfl,h1,px⟩:=zce h;obtain⟨x0,r,rfl,e0,px⟩:=zaB px;cases zdv e0;exact⟨t,r,rfl,h1⟩)
theorem zeX {d:Dd}(h:zgR d):Deed (toD d):=by
 cases d with
 | set hd l=>exact⟨_,rfl,by simp,λc hc=>by
   simp at hc
   rcases hc with rfl | rfl | rfl
   ·exact .inr (.inl ⟨_,rfl⟩)
   ·exact .inl ⟨_,rfl⟩
   ·exact .inr (.inr (.inl ⟨l,h,rfl⟩))⟩
 | part hd l b=>exact⟨_,rfl,by simp,λc hc=>by
   simp at hc
   rcases hc with rfl | rfl | rfl | rfl
   ·exact .inr (.inl ⟨_,rfl⟩)
   ·exact .inl ⟨_,rfl⟩
   ·exact .inr (.inr (.inl ⟨l,h,rfl⟩))
   ·exact .inl ⟨_,rfl⟩⟩
 | draw hd lo hi=>exact⟨_,rfl,by simp,λc hc=>by
   simp at hc
   rcases hc with rfl | rfl | rfl | rfl
   ·exact .inr (.inl ⟨_,rfl⟩)
   ·exact .inl ⟨_,rfl⟩
   ·exact .inl ⟨_,rfl⟩
   ·exact .inl ⟨_,rfl⟩⟩
 | turn l p=>exact⟨_,rfl,by simp,λc hc=>by
   simp at hc
   rcases hc with rfl | rfl | rfl
   ·exact .inr (.inl ⟨_,rfl⟩)
   ·exact .inr (.inr (.inl ⟨l,h,rfl⟩))
   ·exact .inl ⟨_,rfl⟩⟩
 | hold l=>exact⟨_,rfl,by simp,λc hc=>by
   simp at hc
   rcases hc with rfl | rfl
   ·exact .inr (.inl ⟨_,rfl⟩)
   ·exact .inr (.inr (.inl ⟨l,h,rfl⟩))⟩
 | call m g0 g1 t0 t1=>exact⟨_,rfl,by simp,λc hc=>by
   simp at hc
   rcases hc with rfl | rfl | rfl | rfl
   ·exact .inr (.inl ⟨_,rfl⟩)
   ·exact .inl ⟨_,rfl⟩
   ·exact .inr (.inr (.inr ⟨_,_,rfl⟩))
   ·exact .inr (.inr (.inr ⟨_,_,rfl⟩))⟩
end My

namespace My
theorem zeros9e:List.replicate 9 (0:Int)=[0,0,0,0,0,0,0,0,0]:=rfl
theorem kLe (n:Int):kL n=[n,0,0,0,0,0,0,0,0]:=rfl
end My

namespace My
open PySem L2 PyProof.Rows
abbrev Du:=List Int × List (List Int)
def duD (g:Du):D:=.tup [nums g.1,zaq g.2]
def zhq (H:Hp)(g:Du)(v:V):Prop:=∃ T ga na,v=.ref T/\H T=some (.tup [.ref ga,.ref na])/\H ga=some (.lst (g.1.map V.int))/\Ls H na g.2
theorem zhq.same {H H':Hp}{g:Du}{v:V}(e:Same H H')(h:zhq H g v):zhq H' g v:=by
 obtain⟨T,ga,na,rfl,h1,h2,h3⟩:=h
 exact⟨T,ga,na,rfl,e _ _ h1,e _ _ h2,h3.same e⟩
theorem RepF.duty {H:Hp}{g:Du}{v:V}{f:List Addr}(h:RepF H (duD g) v f):∃ (T ga na:Addr) (as:List Addr),v=.ref T/\H T=some (.tup [.ref ga,.ref na])/\H ga=some (.lst (g.1.map V.int))/\H na=some (.lst (as.map V.ref))/\as.length=g.2.length/\(∀ (i:Nat) a l,as[i]?=some a->g.2[i]?=some l->H a=some (.lst (l.map V.int)))/\ga∈f/\na∈f/\∀ b∈as,b∈f:=by
 unfold duD RepF at h
 obtain⟨T,xs,rfl,hT,hx⟩:=h
 unfold zah at hx
 obtain⟨x1,r1,f1,g1,rfl,rfl,h1,hx⟩:=hx
 unfold zah at hx
 obtain⟨x2,r2,f2,g2,rfl,rfl,h2,hx⟩:=hx
 unfold zah at hx
 obtain⟨rfl,rfl⟩:=hx
 unfold RepF at h1
 obtain⟨ga,ys,r3,rfl,rfl,hga,hy⟩:=h1
 obtain⟨rfl,rfl⟩:=zah.ints_eq hy
 unfold zaq RepF at h2
 obtain⟨na,zs,as,rfl,rfl,hna,hz⟩:=h2
 obtain⟨rfl,e2,e3⟩:=zah.lines hz
 refine⟨T,ga,na,as,rfl,hT,hga,hna,e2,λi a l q1 q2=>?_,by simp,by simp,λb hb=>by simp[hb]⟩
 obtain⟨l',z1,z2⟩:=e3 i a q1
 rw[q2] at z1;cases z1
 exact z2
theorem RepF.dutyAt {H:Hp}{g:Du}{v:V}{f:List Addr}(h:RepF H (duD g) v f):zhq H g v:=by
 obtain⟨T,ga,na,as,rfl,h1,h2,h3,h4,h5,_⟩:=RepF.duty h
 exact⟨T,ga,na,rfl,h1,h2,as,h3,h4,h5⟩
theorem zah.duties {H:Hp}{gs:List Du}{xs:List V}{fp:List Addr}(h:zah H (gs.map duD) xs fp):R2 (zhq H) gs xs:=⟨by have:=h.length;simpa using this,λi g x e1 e2=>by
 obtain⟨f,hf⟩:=zah.item h i (duD g) x (by rw[zgm,e1];rfl) e2
 exact RepF.dutyAt hf⟩
def NoD (H H':Hp):Prop:=∀ b o,H b=some o->(∀ kvs,o≠HO.dK kvs)->H' b=some o
theorem _root_.L2.Same.nod {H H':Hp}(e:Same H H'):NoD H H':=λb o h _=>e b o h
theorem NoD.trans {H H1 H2:Hp}(a:NoD H H1)(b:NoD H1 H2):NoD H H2:=λc o h n=>b c o (a c o h n) n
theorem zdw {H:Hp}{p:Addr}{o:HO}{kvs:List (Key × V)}(h:H p=some (.dK kvs)):NoD H (upd H p o):=λb u e n=>by
 rw[zam (λz=>by rw[z,h] at e;exact n kvs (Option.some.inj e).symm)]
 exact e
theorem NoD.sq {H H':Hp}(e:NoD H H'):Sq H H':=λb o h q=>e b o h λkvs z=>by rw[z] at q;cases q
theorem zmp {κ:Type}[DecidableEq κ](kvs:List (κ × V))(k:κ)(v:V):(putK kvs k v).map (·.1)=if k∈kvs.map (·.1) then kvs.map (·.1) else kvs.map (·.1)++[k]:=by
 cases h:valV kvs k with
 | some y=>
  rw[if_pos (zlH h)]
  unfold putK
  rw[zcN,h]
  rw[if_pos (show (some y).isSome=true from rfl),List.map_map]
  refine List.map_congr_left λp _=>?_
  show (if p.1=k then (p.1,v) else p).1=p.1
  split <;> rfl
 | none=>rw[if_neg (zm4 h),zm0 v h,List.map_append];rfl
theorem zjD {ks:List Int}{m:Int} : (Sum.inl m:Key)∈ks.map (Sum.inl:Int->Key)↔m∈ks:=by
 constructor
 ·intro h
  obtain⟨x,hx,e⟩:=zmm.mp h
  injection e with e
  rw[<-e];exact hx
 ·intro h;exact List.mem_map_of_mem h
theorem zkV {ks:List Int}{m:Int} : (ks.map (Sum.inl:Int->Key)).filter (λk=>decide (k≠Sum.inl m))=(ks.filter λk=>decide (k≠m)).map Sum.inl:=by
 rw[List.filter_map]
 congr 1
 refine List.filter_congr λx _=>?_
 show decide ((Sum.inl x:Key)≠Sum.inl m)=decide (x≠m)
 refine decide_eq_decide.mpr ⟨λh z=>h (by rw[z]),λh z=>h (by injection z)⟩
theorem zkW {kvs:List (Key × V)}{k:Key} : (zbZ kvs k).map (·.1)=(kvs.map (·.1)).filter (λj=>decide (j≠k)):=by
 unfold zbZ
 rw[List.filter_map]
 rfl
def KVs (P:Int->V->Prop)(kvs:List (Key × V))(ks:List Int):Prop:=kvs.map (·.1)=ks.map Sum.inl/\ks.Nodup/\∀ m∈ks,∃ v,valV kvs (.inl m)=some v/\P m v
theorem KVs.nil {P:Int->V->Prop} : KVs P [] []:=⟨rfl,List.nodup_nil,λm hm=>by simp at hm⟩
theorem KVs.mono {P P':Int->V->Prop}{kvs:List (Key × V)}{ks:List Int}(h:KVs P kvs ks)(m:∀ k v,P k v->P' k v):KVs P' kvs ks:=⟨h.1,h.2.1,λk hk=>by
 obtain⟨v,h1,h2⟩:=h.2.2 k hk
 exact⟨v,h1,m k v h2⟩⟩
theorem KVs.len {P:Int->V->Prop}{kvs:List (Key × V)}{ks:List Int}(h:KVs P kvs ks):kvs.length=ks.length:=by
 have:=congrArg List.length h.1
 simpa using this
theorem KVs.no {P:Int->V->Prop}{kvs:List (Key × V)}{ks:List Int}{m:Int}(h:KVs P kvs ks)(n:m∉ks):valV kvs (.inl m)=none:=by
 cases e:valV kvs (.inl m) with
 | none=>rfl
 | some v=>
  have:=zlH e
  rw[h.1] at this
  exact absurd (zjD.mp this) n
theorem KVs.put {P:Int->V->Prop}{kvs:List (Key × V)}{ks:List Int}{m:Int}{v:V}(h:KVs P kvs ks)(hv:P m v):KVs P (putK kvs (.inl m) v) (if m∈ks then ks else ks++[m]):=by
 refine⟨?_,?_,λk hk=>?_⟩
 ·rw[zmp,h.1]
  by_cases z:m∈ks
  ·rw[if_pos (zjD.mpr z),if_pos z]
  ·rw[if_neg (λw=>z (zjD.mp w)),if_neg z,List.map_append];rfl
 ·by_cases z:m∈ks
  ·rw[if_pos z];exact h.2.1
  ·rw[if_neg z];exact zlI h.2.1 z
 ·rw[zee]
  by_cases e:k=m
  ·subst e;exact⟨v,by rw[if_pos rfl],hv⟩
  ·rw[if_neg (λw=>e (by injection w))]
   refine h.2.2 k ?_
   by_cases z:m∈ks
   ·rw[if_pos z] at hk;exact hk
   ·rw[if_neg z] at hk
    rcases zma.mp hk with w | w
    ·exact w
    ·exact absurd (zms.mp w) e
theorem KVs.put' {P P':Int->V->Prop}{kvs:List (Key × V)}{ks:List Int}{m:Int}{v:V}(h:KVs P kvs ks)(hv:P' m v)(hP:∀ k v,k≠m->P k v->P' k v):KVs P' (putK kvs (.inl m) v) (if m∈ks then ks else ks++[m]):=by
 have h0:KVs (λk w=>k=m/\w=v\/P k w) (putK kvs (.inl m) v) (if m∈ks then ks else ks++[m]):=(h.mono λk w z=>.inr z).put (.inl ⟨rfl,rfl⟩)
 refine⟨h0.1,h0.2.1,λk hk=>?_⟩
 by_cases e:k=m
 ·subst e
  exact⟨v,by rw[zee,if_pos rfl],hv⟩
 ·obtain⟨w,e1,e2⟩:=h0.2.2 k hk
  rcases e2 with ⟨e2,_⟩ | e2
  ·exact absurd e2 e
  ·exact⟨w,e1,hP k w e e2⟩
theorem KVs.drop {P:Int->V->Prop}{kvs:List (Key × V)}{ks:List Int}{m:Int}(h:KVs P kvs ks):KVs P (zbZ kvs (.inl m)) (ks.filter λk=>decide (k≠m)):=by
 refine⟨by rw[zkW,h.1];exact zkV,h.2.1.filter _,λk hk=>?_⟩
 obtain⟨h1,h2⟩:=List.mem_filter.mp hk
 have h2:k≠m:=of_decide_eq_true h2
 rw[ziH,if_neg (λw=>h2 (by injection w))]
 exact h.2.2 k h1
theorem zoY {leaves:List (List Int)}{notes:List (List (List Int))}(h1:leaves.length<=2)(h2:∀ ls∈notes,ls.length<=2)(place:Int):(dueL leaves notes place).length<=2:=by
 unfold dueL
 split
 ·rw[zlm];exact h1
 ·rw[List.getD_eq_getElem?_getD]
  cases e:notes[place.toNat]? with
  | none=>simp
  | some ls=>exact h2 ls (zmg e)
def zaL (ch:Nat->Option (List Int)):List (List Int):=(List.range 8).map λ(i:Nat)=>(ch i).getD (zaC (0+(i:Int)))
def ch1 (k:Int)(l:List Int)(i:Nat):Option (List Int):=if k=0+(i:Int) then some l else none
def ch2 (k0:Int)(l0:List Int)(k1:Int)(l1:List Int)(i:Nat):Option (List Int):=if k1=0+(i:Int) then some l1 else if k0=0+(i:Int) then some l0 else none
def ch4 (i:Nat):Option (List Int):=if i=0 then some (zaC 4) else if i=1 then some (zaC 5) else if i=2 then some (kL 0) else if i=3 then some (kL 0) else none
def zdJ (goal:List Int)(hyps:List (List Int)):D:=.tup [nums goal,zaq hyps]
def ziP (needs leaves:List (List Int))(notes:List (List (List Int))):List D:=((dueL leaves notes 0).map λl=>zaR l (zaL ch4)).map λg=>zdJ g needs
abbrev Oath:=Int->List (List Int) × List (List Int)
def zeY (N A:List (List Int))(T:Int->List (List Int))(oath:Oath):Dd->List D
 | .set h l=>(A.map λx=>zaR x (zaL (ch1 h l))).map λg=>zdJ g N
 | .part h l b=>(A.map λx=>zaR x (zaL (ch1 h (zaC 6)))).map λg=>zdJ g (N++[zdu l b,greatest l b])
 | .draw h lo hi=>(A.map λx=>zaR x (zaL (ch1 h (zaC 6)))).map λg=>zdJ g (N++[zeE lo,zgu hi])
 | .turn l p=>((T p).map λg=>zdJ g (N++[l]))++A.map λg=>zdJ g (N++[zgt l])
 | .hold l=>[zdJ l N]++A.map λg=>zdJ g (N++[l])
 | .call m g0 g1 t0 t1=>(((oath m).1.map λx=>zaR x (zaL (ch2 4 (zaC g0) 5 (zaC g1)))).map λg=>zdJ g N)++(A.map λx=>zaR x (zaL (ch2 t0 (zaC 6) t1 (zaC 7)))).map λg=>zdJ g (N++(oath m).2.map λx=>zaR x (zaL (ch2 4 (zaC g0) 5 (zaC g1))))
def za6 (leaves:List (List Int))(notes:List (List (List Int)))(oath:Oath):List Dd->Nat->List D
 | [],_=>[]
 | d::ds,p=>zeY (dueL leaves notes p) (dueL leaves notes (p+1)) (dueL leaves notes) oath d++za6 leaves notes oath ds (p+1)
theorem zeF (leaves:List (List Int))(notes:List (List (List Int)))(oath:Oath):∀ (xs ys:List Dd) (p:Nat),za6 leaves notes oath (xs++ys) p=za6 leaves notes oath xs p++za6 leaves notes oath ys (p+xs.length)
 | [],ys,p=>rfl
 | x::xs,ys,p=>by
  show zeY _ _ _ _ x++za6 leaves notes oath (xs++ys) (p+1)=(zeY _ _ _ _ x++za6 leaves notes oath xs (p+1))++_
  rw[zeF leaves notes oath xs ys (p+1),List.append_assoc,List.length_cons,show p+1+xs.length=p+(xs.length+1) by omega]
def zgv (needs leaves:List (List Int))(deeds:List Dd)(notes:List (List (List Int)))(oath:Oath):List D:=ziP needs leaves notes++za6 leaves notes oath deeds 0
def zcQ (N A:List (List Int))(T:Int->List (List Int))(oath:Oath):Dd->List Du
 | .set h l=>A.map λx=>(zaR x (zaL (ch1 h l)),N)
 | .part h l b=>A.map λx=>(zaR x (zaL (ch1 h (zaC 6))),N++[zdu l b,greatest l b])
 | .draw h lo hi=>A.map λx=>(zaR x (zaL (ch1 h (zaC 6))),N++[zeE lo,zgu hi])
 | .turn l p=>((T p).map λg=>(g,N++[l]))++A.map λg=>(g,N++[zgt l])
 | .hold l=>[(l,N)]++A.map λg=>(g,N++[l])
 | .call m g0 g1 t0 t1=>((oath m).1.map λx=>(zaR x (zaL (ch2 4 (zaC g0) 5 (zaC g1))),N))++A.map λx=>(zaR x (zaL (ch2 t0 (zaC 6) t1 (zaC 7))),N++(oath m).2.map λx=>zaR x (zaL (ch2 4 (zaC g0) 5 (zaC g1))))
theorem zmq (N A:List (List Int))(T:Int->List (List Int))(oath:Oath)(d:Dd):(zcQ N A T oath d).map duD=zeY N A T oath d:=by
 cases d <;> simp only[zcQ,zeY,List.map_append,List.map_map,zmc,List.map_nil] <;> rfl
def zmr (needs leaves:List (List Int))(notes:List (List (List Int))):List Du:=(dueL leaves notes 0).map λl=>(zaR l (zaL ch4),needs)
def zfC (leaves:List (List Int))(notes:List (List (List Int)))(oath:Oath):List Dd->Nat->List Du
 | [],_=>[]
 | d::ds,p=>zcQ (dueL leaves notes p) (dueL leaves notes (p+1)) (dueL leaves notes) oath d++zfC leaves notes oath ds (p+1)
theorem ziQ (leaves:List (List Int))(notes:List (List (List Int)))(oath:Oath):∀ (ds:List Dd) (p:Nat),(zfC leaves notes oath ds p).map duD=za6 leaves notes oath ds p
 | [],p=>rfl
 | d::ds,p=>by
  show (zcQ _ _ _ _ d++zfC leaves notes oath ds (p+1)).map duD=zeY _ _ _ _ d++za6 leaves notes oath ds (p+1)
  rw[List.map_append,zmq,ziQ leaves notes oath ds (p+1)]
def zhV (needs leaves:List (List Int))(deeds:List Dd)(notes:List (List (List Int)))(oath:Oath):List Du:=zmr needs leaves notes++zfC leaves notes oath deeds 0
theorem zhr (needs leaves:List (List Int))(deeds:List Dd)(notes:List (List (List Int)))(oath:Oath):(zhV needs leaves deeds notes oath).map duD=zgv needs leaves deeds notes oath:=by
 unfold zhV zgv
 rw[List.map_append,ziQ]
 congr 1
 unfold zmr ziP
 rw[List.map_map,List.map_map]
 rfl
def Sm (l:List Int):Prop:=∀ n∈l,-(2 ^ 64)<n/\n<2 ^ 64
def zc2:Dd->Option Int
 | .call m _ _ _ _=>some m
 | _=>none
def zaY (deeds:List Dd):List Int:=deeds.filterMap zc2
def dOk (n:Nat):Dd->Prop
 | .set _ l=>l.length=9/\Sm l
 | .part _ l b=>l.length=9/\(-1000000<b/\b<1000000)
 | .turn l p=>l.length=9/\0<=p/\p<=(n:Int)
 | .hold l=>l.length=9
 | _=>True
theorem zkX {deeds:List Dd}{m:Int}(h:m∈zaY deeds):∃ d∈deeds,zc2 d=some m:=by
 unfold zaY at h
 exact List.mem_filterMap.mp h
theorem znz {deeds:List Dd}{m g0 g1 t0 t1:Int}(h:Dd.call m g0 g1 t0 t1∈deeds):m∈zaY deeds:=by
 unfold zaY
 exact List.mem_filterMap.mpr ⟨_,h,rfl⟩
def OffA (S:List Addr)(H H':Hp):Prop:=∀ b o,b∉S->H b=some o->H' b=some o
theorem _root_.L2.Same.offA {S:List Addr}{H H':Hp}(e:Same H H'):OffA S H H':=λb o _ h=>e b o h
theorem OffA.trans {S:List Addr}{H H1 H2:Hp}(a:OffA S H H1)(b:OffA S H1 H2):OffA S H H2:=λc o n h=>b c o n (a c o n h)
theorem zdx {S:List Addr}{H:Hp}{p:Addr}{o:HO}(h:p∈S):OffA S H (upd H p o):=λb u n e=>by
 rw[zam (λz=>n (by rw[z];exact h))];exact e
theorem OffA.nod {S:List Addr}{H H':Hp}(e:OffA S H H')(h:∀ a∈S,∃ kvs,H a=some (.dK kvs)):NoD H H':=λb o hb n=>e b o (λz=>by
 obtain⟨kvs,hk⟩:=h b z
 rw[hk] at hb
 exact n kvs (Option.some.inj hb).symm) hb
structure Cr where
 needs:List (List Int)
 leaves:List (List Int)
 deeds:List Dd
 notes:List (List (List Int))
def hfl (la va:Addr):List (Str × V):=putF "vouched" (.ref va) (putF "laid" (.ref la) [])
theorem zcE (la va:Addr):(hfl la va).lookup ("laid" : Str)=some (.ref la):=by
 unfold hfl
 rw[zaJ,if_neg (by decide +kernel),zaJ,if_pos rfl]
theorem zeh (la va:Addr):(hfl la va).lookup ("vouched" : Str)=some (.ref va):=by
 unfold hfl
 rw[zaJ,if_pos rfl]
theorem zdy {la va:Addr}{m:Str}(h1:¬ m ="vouched")(h2:¬ m ="laid"):(hfl la va).lookup m=none:=by
 unfold hfl
 rw[zaJ,if_neg h1,zaJ,if_neg h2]
 rfl
theorem zki {n:Int} : ∀ {l:List Int},inV (.int n) (l.map V.int)=decide (n∈l)
 | []=>by simp[inV]
 | a::l=>by
  have ih:=zki (n:=n) (l:=l)
  unfold inV at ih ⊢
  rw[zmc,List.any_cons,ih]
  by_cases z:n=a
  ·subst z;simp[eqV]
  ·have:eqV (.int a) (.int n)=false:=by
    simp[eqV]
    intro w;exact z w.symm
   rw[this]
   simp[z]
theorem zkY (zs:List Int):(zs.map V.int).all zdR=true:=by rw[List.all_map,List.all_eq_true];intro x _;rfl
end My

namespace My
open PySem L2 PyProof.Rows
theorem zeros8e:List.replicate 8 (0:Int)=[0,0,0,0,0,0,0,0]:=rfl
def found (g:Du):Prop:=(zb5 g.1 g.2).isSome=true
theorem e9 {ch:Nat->Option (List Int)}(h:∀ i l,ch i=some l->l.length=9):∀ l∈zaL ch,l.length=9:=λl hl=>by
 obtain⟨i,_,rfl⟩:=zmm.mp hl
 cases e:ch i with
 | none=>exact zap _
 | some l=>exact h i l e
theorem e9_1 {k:Int}{l:List Int}(h:l.length=9):∀ x∈zaL (ch1 k l),x.length=9:=e9 λi m e=>by
 unfold ch1 at e
 split at e
 ·cases e;exact h
 ·cases e
theorem e9_2 {k0 k1:Int}{l0 l1:List Int}(h0:l0.length=9)(h1:l1.length=9):∀ x∈zaL (ch2 k0 l0 k1 l1),x.length=9:=e9 λi m e=>by
 unfold ch2 at e
 split at e
 ·cases e;exact h1
 split at e
 ·cases e;exact h0
 ·cases e
theorem e9_4:∀ x∈zaL ch4,x.length=9:=e9 λi m e=>by
 unfold ch4 at e
 split at e
 ·cases e;exact zap _
 split at e
 ·cases e;exact zap _
 split at e
 ·cases e;exact zbf _
 split at e
 ·cases e;exact zbf _
 ·cases e
theorem zjE {l:List Int}{b:Int}(h:l.length=9):(zdu l b).length=9/\(greatest l b).length=9/\(zgt l).length=9:=by
 refine⟨?_,?_,?_⟩
 ·unfold zdu;exact zaZ λz hz=>by
   simp at hz
   rcases hz with rfl | rfl
   ·exact h
   ·exact zap 6
 ·unfold greatest;exact zaZ λz hz=>by
   simp at hz
   rcases hz with rfl | rfl | rfl
   ·exact zap 6
   ·exact zbf _
   ·exact h
 ·unfold zgt;exact zaZ λz hz=>by
   simp at hz
   rcases hz with rfl | rfl
   ·exact h
   ·exact zbf _
theorem zmt {lo hi:Int} : (zeE lo).length=9/\(zgu hi).length=9:=by
 refine⟨?_,?_⟩
 ·unfold zeE;exact zaZ λz hz=>by
   simp at hz
   rcases hz with rfl | rfl
   ·exact zap 6
   ·exact zbf _
 ·unfold zgu;exact zaZ λz hz=>by
   simp at hz
   rcases hz with rfl | rfl
   ·exact zbf _
   ·exact zap 6
section
variable {H H1:Hp}{la t g u:Addr}{l:List Int}
end
theorem zah.out4 {H:Hp}{d1 d2 d3 d4:D}{v1 v2 v3 v4:V}{fp:List Addr}(h:zah H [d1,d2,d3,d4] [v1,v2,v3,v4] fp):∃ f1 f2 f3 f4,fp=f1++(f2++(f3++f4))/\RepF H d1 v1 f1/\RepF H d2 v2 f2/\RepF H d3 v3 f3/\RepF H d4 v4 f4:=by
 unfold zah at h
 obtain⟨_,_,f1,g1,e,rfl,h1,h⟩:=h
 cases e
 unfold zah at h
 obtain⟨_,_,f2,g2,e,rfl,h2,h⟩:=h
 cases e
 unfold zah at h
 obtain⟨_,_,f3,g3,e,rfl,h3,h⟩:=h
 cases e
 unfold zah at h
 obtain⟨_,_,f4,g4,e,rfl,h4,h⟩:=h
 cases e
 unfold zah at h
 obtain⟨_,rfl⟩:=h
 exact⟨f1,f2,f3,f4,by simp,h1,h2,h3,h4⟩
def crD (c:Cr):D:=.lst [zaq c.needs,zaq c.leaves,.lst (c.deeds.map toD),.lst (c.notes.map zaq)]
theorem zmu:∀ {l m:List Int},l.Nodup->(∀ x∈l,x∈m)->l.length<=m.length
 | [],m,_,_=>Nat.zero_le _
 | x::l,m,nd,h=>by
  obtain⟨n1,n2⟩:=List.nodup_cons.mp nd
  have hx:=h x List.mem_cons_self
  have ih:=zmu (l:=l) (m:=m.erase x) n2 λy hy=>(List.mem_erase_of_ne (λz=>n1 (by rw[<-z];exact hy))).mpr (h y (List.mem_cons_of_mem _ hy))
  rw[List.length_erase_of_mem hx] at ih
  have:0<m.length:=List.length_pos_of_mem hx
  rw[List.length_cons]
  omega
end My

namespace My
open PySem L2 PyProof.Rows
def flds (v1 v2 v3 v4:V):List (Str × V):=putF "notes" v4 (putF "deeds" v3 (putF "leaves" v2 (putF "needs" v1 [])))
theorem zbH (v1 v2 v3 v4:V):(flds v1 v2 v3 v4).lookup ("needs" : Str)=some v1:=by
 unfold flds
 rw[zaJ,if_neg (by decide +kernel),zaJ,if_neg (by decide +kernel),zaJ,if_neg (by decide +kernel),zaJ,if_pos rfl]
theorem zbm (v1 v2 v3 v4:V):(flds v1 v2 v3 v4).lookup ("leaves" : Str)=some v2:=by
 unfold flds
 rw[zaJ,if_neg (by decide +kernel),zaJ,if_neg (by decide +kernel),zaJ,if_pos rfl]
theorem zbq (v1 v2 v3 v4:V):(flds v1 v2 v3 v4).lookup ("deeds" : Str)=some v3:=by
 unfold flds
 rw[zaJ,if_neg (by decide +kernel),zaJ,if_pos rfl]
theorem zbI (v1 v2 v3 v4:V):(flds v1 v2 v3 v4).lookup ("notes" : Str)=some v4:=by
 unfold flds
 rw[zaJ,if_pos rfl]
theorem zdz {f:Str}{v:V}{fs:List (Str × V)}{n:Nat}(h:fs.length<n):(putF f v fs).length<n+1:=Nat.lt_of_le_of_lt (zex f v fs) (by omega)
def zjF (needs leaves:List (List Int))(deeds:List D)(notes:List (List (List Int))):List D:=[zaq needs,zaq leaves,.lst deeds,.lst (notes.map zaq)]
def zbh (K:Fg)(cC:Addr)(H:Hp)(p:Addr)(needs leaves:List (List Int))(deeds:List D)(notes:List (List (List Int))):Prop:=
 ∃ dx w1 w2 w3 w4,H p=some (.ins cC dx (flds w1 w2 w3 w4))/\Rep K H (zaq needs) w1/\Rep K H (zaq leaves) w2/\Rep K H (.lst deeds) w3/\Rep K H (.lst (notes.map zaq)) w4
theorem reps4 {K:Fg}{H:Hp}{d1 d2 d3 d4:D}{w1 w2 w3 w4:V}(h:Reps K H [d1,d2,d3,d4] [w1,w2,w3,w4]):Rep K H d1 w1/\Rep K H d2 w2/\Rep K H d3 w3/\Rep K H d4 w4:=by
 unfold Reps at h
 obtain⟨_,_,e,h1,h⟩:=h
 cases e
 unfold Reps at h
 obtain⟨_,_,e,h2,h⟩:=h
 cases e
 unfold Reps at h
 obtain⟨_,_,e,h3,h⟩:=h
 cases e
 unfold Reps at h
 obtain⟨_,_,e,h4,h⟩:=h
 cases e
 exact⟨h1,h2,h3,h4⟩
theorem zbh.same {K:Fg}{cC:Addr}{H H':Hp}{p:Addr}{needs leaves:List (List Int)}{deeds:List D}{notes:List (List (List Int))}(e:Same H H')(h:zbh K cC H p needs leaves deeds notes):zbh K cC H' p needs leaves deeds notes:=by
 obtain⟨dx,w1,w2,w3,w4,h0,h1,h2,h3,h4⟩:=h
 exact⟨dx,w1,w2,w3,w4,e _ _ h0,Rep.same e _ h1,Rep.same e _ h2,Rep.same e _ h3,Rep.same e _ h4⟩
def zdI (K:Fg)(cC:Addr)(H:Hp)(p:Addr)(needs leaves:List (List Int))(deeds:List Dd)(notes:List (List (List Int))):Prop:=
 zbh K cC H p needs leaves (deeds.map toD) notes/\∃ dx w1 w2 b3 w4 dvs,H p=some (.ins cC dx (flds w1 w2 (.ref b3) w4))/\H b3=some (.lst dvs)/\zd4 H deeds dvs
theorem zdI.same {K:Fg}{cC:Addr}{H H':Hp}{p:Addr}{needs leaves:List (List Int)}{deeds:List Dd}{notes:List (List (List Int))}(e:Same H H')(h:zdI K cC H p needs leaves deeds notes):zdI K cC H' p needs leaves deeds notes:=by
 obtain⟨h0,dx,w1,w2,b3,w4,dvs,h1,h2,h3⟩:=h
 exact⟨h0.same e,dx,w1,w2,b3,w4,dvs,e _ _ h1,e _ _ h2,h3.same e⟩
def zmv (K:Fg)(cC:Addr)(H:Hp)(kvs:List (Key × V))(oath:Oath):Dd->Prop
 | .call m _ _ _ _=>∃ o deeds ns,valV kvs (.inl m)=some (.ref o)/\zbh K cC H o (oath m).1 (oath m).2 deeds ns/\Good (oath m).1 (oath m).2 deeds.length ns
 | _=>True
theorem zmv.same {K:Fg}{cC:Addr}{H H':Hp}{kvs:List (Key × V)}{oath:Oath}{d:Dd}(h:zmv K cC H kvs oath d)(e:Same H H'):zmv K cC H' kvs oath d:=by
 cases d with
 | call m g0 g1 t0 t1=>
  obtain⟨o,ds,ns,h1,h2,h3⟩:=h
  exact⟨o,ds,ns,h1,h2.same e,h3⟩
 | _=>trivial
theorem zbh.nod {K:Fg}{cC:Addr}{H H':Hp}{p:Addr}{needs leaves:List (List Int)}{deeds:List D}{notes:List (List (List Int))}(e:NoD H H')(h:zbh K cC H p needs leaves deeds notes):zbh K cC H' p needs leaves deeds notes:=by
 obtain⟨dx,w1,w2,w3,w4,h0,h1,h2,h3,h4⟩:=h
 exact⟨dx,w1,w2,w3,w4,e _ _ h0 (λ_ z=>by cases z),Rep.sq e.sq _ h1,Rep.sq e.sq _ h2,Rep.sq e.sq _ h3,Rep.sq e.sq _ h4⟩
end My

namespace My
open PySem L2 PyProof.Rows
def znA (ls:List (List Int))(ws:List Int):Prop:=∀ (i:Nat) (l:List Int) (w:Int),ls[i]?=some l->ws[i]?=some w->∀ n∈l,CMul n w
theorem zbl {n:Nat}(h:n<=1000):n<sizeLine:=Nat.lt_of_le_of_lt h (by decide)
structure Cr.Nine (c:Cr):Prop where
 n9:∀ l∈c.needs,l.length=9
 l9:∀ l∈c.leaves,l.length=9
 d9:∀ d∈c.deeds,zgR d
 o9:∀ ls∈c.notes,ls.length<=100/\∀ l∈ls,l.length=9
 n:c.needs.length<=100
 l:c.leaves.length<=100
 d:c.deeds.length<=100
 o:c.notes.length<=100
def Cr.right (c:Cr):Bool:=zdH c.needs c.leaves c.deeds c.notes
structure Cr.Rt (c:Cr):Prop where
 nine:c.Nine
 r:c.right=true
theorem Cr.Rt.parts {c:Cr}(h:c.Rt):c.needs.length<=2/\c.leaves.length<=2/\(1<=c.deeds.length/\c.deeds.length<=8)/\c.notes.length=c.deeds.length/\(∀ ls∈c.notes,ls.length<=2)/\∀ d∈c.deeds,zbM (c.deeds.length:Int) d=true:=by
 have r:zdH c.needs c.leaves c.deeds c.notes=true:=h.r
 simp only[zdH,zhp,zfk,zgq,zc1,btw,Bool.and_eq_true,decide_eq_true_eq,List.all_map,List.all_eq_true,Function.comp_apply,id_eq] at r
 obtain⟨⟨⟨a1,_⟩,a2,_⟩,⟨⟨b1,b2⟩,b3⟩,c1,c2⟩:=r
 exact⟨by omega,by omega,⟨by omega,by omega⟩,by omega,λls hl=>by have:=(c2 ls hl).1;omega,b3⟩
theorem sm_of {spots:List Nat}{l:List Int}(h:zdG spots l=true):Sm l:=λn hn=>by
 simp only[zdG,zd2,btw,Bool.and_eq_true,decide_eq_true_eq,List.all_map,List.all_eq_true,Function.comp_apply,id_eq] at h
 have:=h.1 n hn
 constructor <;> omega
theorem zqt {n:Nat}{d:Dd}(h9:zgR d)(h:zbM (n:Int) d=true):dOk n d:=by
 cases d with
 | set hd l=>
  simp only[zbM,Bool.and_eq_true] at h
  exact⟨h9,sm_of h.2⟩
 | part hd l b=>
  simp only[zbM,btw,Bool.and_eq_true,decide_eq_true_eq] at h
  exact⟨h9,by omega,by omega⟩
 | draw hd lo hi=>trivial
 | turn l p=>
  simp only[zbM,btw,Bool.and_eq_true,decide_eq_true_eq] at h
  exact⟨h9,h.2.1,h.2.2⟩
 | hold l=>exact h9
 | call m g0 g1 t0 t1=>trivial
theorem Cr.Rt.dok {c:Cr}(h:c.Rt):∀ d∈c.deeds,dOk c.deeds.length d:=λd hd=>zqt (h.nine.d9 d hd) (h.parts.2.2.2.2.2 d hd)
theorem Cr.Rt.called {c:Cr}(h:c.Rt){m:Int}(hm:m∈zaY c.deeds):0<=m/\m<=99:=by
 obtain⟨d,hd,e⟩:=zkX hm
 have k:=h.parts.2.2.2.2.2 d hd
 cases d with
 | call n g0 g1 t0 t1=>
  have e:n=m:=by injection e
  subst e
  simp only[zbM,btw,Bool.and_eq_true,decide_eq_true_eq] at k
  exact k.2.1
 | _=>cases e
theorem Cr.Rt.calledMost {c:Cr}(h:c.Rt):∀ m∈zaY c.deeds,m.natAbs<zbv:=λm hm=>by
 have:=h.called hm
 unfold zbv;omega
theorem Cr.Rt.good {c:Cr}(h:c.Rt):Good c.needs c.leaves c.deeds.length c.notes where
 dn:=h.parts.2.2.2.1.symm
 d:=h.nine.d
 n:=h.nine.n
 l:=h.nine.l
 n9:=h.nine.n9
 l9:=h.nine.l9
 o:=h.nine.o9
def zmw (cr:Int->Cr):Oath:=λm=>((cr m).needs,(cr m).leaves)
def Cr.gs (c:Cr)(cr:Int->Cr):List Du:=zhV c.needs c.leaves c.deeds c.notes (zmw cr)
def zgw (g:Du):Prop:=g.1.length=9/\g.2.length<=4/\∀ l∈g.2,l.length=9
theorem zeG {l:List Int}{E:List (List Int)}(h:∀ x∈E,x.length=9):(zaR l E).length=9:=by
 unfold zaR
 have:=zaZ (ls:=E) (ws:=l.tail) h
 cases e:zb3 E l.tail with
 | nil=>rw[e] at this;simp at this
 | cons x r=>rw[e] at this;simpa [zjz] using this
theorem zjG {N A:List (List Int)}{T:Int->List (List Int)}{oath:Oath}{d:Dd}{n:Nat}(hN:N.length<=2/\∀ l∈N,l.length=9)(hA:A.length<=2/\∀ l∈A,l.length=9)(hT:∀ p,(T p).length<=2/\∀ l∈T p,l.length=9)(ok:dOk n d)(ho:∀ m,zc2 d=some m->(oath m).1.length<=2/\(oath m).2.length<=2) :
  (zcQ N A T oath d).length<=4/\∀ g∈zcQ N A T oath d,zgw g:=by
 have two:∀ {x y:List Int}{g:List Int},g.length=9->x.length=9->y.length=9->zgw (g,N++[x,y]):=λ{x y g} hg hx hy=>⟨hg,by simp;omega,λl hl=>by
  simp only[zma,List.mem_cons,List.not_mem_nil,or_false] at hl
  rcases hl with z | z | z
  ·exact hN.2 l z
  ·rw[z];exact hx
  ·rw[z];exact hy⟩
 have one:∀ {x:List Int}{g:List Int},g.length=9->x.length=9->zgw (g,N++[x]):=λ{x g} hg hx=>⟨hg,by simp;omega,λl hl=>by
  simp only[zma,List.mem_cons,List.not_mem_nil,or_false] at hl
  rcases hl with z | z
  ·exact hN.2 l z
  ·rw[z];exact hx⟩
 have nil:∀ {g:List Int},g.length=9->zgw (g,N):=λhg=>⟨hg,by show N.length<=4;omega,hN.2⟩
 have b6:=zap 6
 have b7:=zap 7
 cases d with
 | set h l=>
  refine⟨by simp only[zcQ,zlm];omega,λg hg=>?_⟩
  obtain⟨x,hx,rfl⟩:=zmm.mp hg
  exact nil (zeG (e9_1 ok.1))
 | part h l b=>
  refine⟨by simp only[zcQ,zlm];omega,λg hg=>?_⟩
  obtain⟨x,hx,rfl⟩:=zmm.mp hg
  exact two (zeG (e9_1 b6)) (zjE ok.1).1 (zjE ok.1).2.1
 | draw h lo hi=>
  refine⟨by simp only[zcQ,zlm];omega,λg hg=>?_⟩
  obtain⟨x,hx,rfl⟩:=zmm.mp hg
  exact two (zeG (e9_1 b6)) (zmt (hi:=hi)).1 (zmt (lo:=lo)).2
 | turn l p=>
  refine⟨by have:=(hT p).1;simp only[zcQ,List.length_append,zlm];omega,λg hg=>?_⟩
  rcases zma.mp hg with hg | hg
  ·obtain⟨x,hx,rfl⟩:=zmm.mp hg
   exact one ((hT p).2 x hx) ok.1
  ·obtain⟨x,hx,rfl⟩:=zmm.mp hg
   exact one (hA.2 x hx) (zjE (b:=0) ok.1).2.2
 | hold l=>
  refine⟨by simp only[zcQ,List.length_append,zlm,List.length_cons,List.length_nil];omega,λg hg=>?_⟩
  rcases zma.mp hg with hg | hg
  ·rw[zms.mp hg];exact nil ok
  ·obtain⟨x,hx,rfl⟩:=zmm.mp hg
   exact one (hA.2 x hx) ok
 | call m g0 g1 t0 t1=>
  have o2:=ho m rfl
  refine⟨by simp only[zcQ,List.length_append,zlm];omega,λg hg=>?_⟩
  rcases zma.mp hg with hg | hg
  ·obtain⟨x,hx,rfl⟩:=zmm.mp hg
   exact nil (zeG (e9_2 (zap g0) (zap g1)))
  ·obtain⟨x,hx,rfl⟩:=zmm.mp hg
   refine⟨zeG (e9_2 b6 b7),?_,λl hl=>?_⟩
   ·simp only[List.length_append,zlm];omega
   ·rcases zma.mp hl with z | z
    ·exact hN.2 l z
    ·obtain⟨y,_,rfl⟩:=zmm.mp z
     exact zeG (e9_2 (zap g0) (zap g1))
theorem zgx {leaves:List (List Int)}{notes:List (List (List Int))}{oath:Oath}{n:Nat}(hD:∀ p,(dueL leaves notes p).length<=2/\∀ l∈dueL leaves notes p,l.length=9):∀ (ds:List Dd) (p:Nat),(∀ d∈ds,dOk n d)->(∀ d∈ds,∀ m,zc2 d=some m->(oath m).1.length<=2/\(oath m).2.length<=2)->(zfC leaves notes oath ds p).length<=4 * ds.length/\∀ g∈zfC leaves notes oath ds p,zgw g
 | [],_,_,_=>⟨Nat.le_refl _,λg hg=>by cases hg⟩
 | d::ds,p,h,ho=>by
  have ih:=zgx hD ds (p+1) (λe he=>h e (List.mem_cons_of_mem _ he)) λe he=>ho e (List.mem_cons_of_mem _ he)
  have h1:=zjG (d:=d) (hD p) (hD ((p:Int)+1)) hD (h d List.mem_cons_self) (ho d List.mem_cons_self)
  refine⟨?_,λg hg=>?_⟩
  ·show (zcQ _ _ _ _ d++zfC leaves notes oath ds (p+1)).length<=_
   rw[List.length_append,List.length_cons]
   omega
  ·rcases zma.mp (show g∈zcQ _ _ _ _ d++zfC leaves notes oath ds (p+1) from hg) with z | z
   ·exact h1.2 g z
   ·exact ih.2 g z
theorem Cr.Rt.gs {c:Cr}{cr:Int->Cr}(h:c.Rt)(ho:∀ m∈zaY c.deeds,(cr m).Rt):(c.gs cr).length<=34/\∀ g∈c.gs cr,zgw g:=by
 have hD:∀ p,(dueL c.leaves c.notes p).length<=2/\∀ l∈dueL c.leaves c.notes p,l.length=9:=λp=>⟨zoY h.parts.2.1 h.parts.2.2.2.2.1 p,(h.good.due p).2⟩
 have k:=zgx (oath:=zmw cr) hD c.deeds 0 h.dok λd hd m e=>by
  have:=ho m (List.mem_filterMap.mpr ⟨d,hd,e⟩)
  exact⟨this.parts.1,this.parts.2.1⟩
 have d8:=h.parts.2.2.1.2
 have h0:=(hD 0).1
 unfold Cr.gs zhV zmr
 refine⟨by rw[List.length_append,zlm];omega,λg hg=>?_⟩
 rcases zma.mp hg with z | z
 ·obtain⟨x,_,rfl⟩:=zmm.mp z
  exact⟨zeG e9_4,by show c.needs.length<=4;have:=h.parts.1;omega,h.nine.n9⟩
 ·exact k.2 g z
def zbr (cC:Addr)(H:Hp)(p:Addr)(c:Cr)(fp:List Addr):Prop:=∃ dx w1 w2 w3 w4 f,fp=p::f/\H p=some (.ins cC dx (flds w1 w2 w3 w4))/\zah H (zjF c.needs c.leaves (c.deeds.map toD) c.notes) [w1,w2,w3,w4] f
theorem zbr.at {K:Fg}{cC:Addr}{H:Hp}{p:Addr}{c:Cr}{fp:List Addr}(h:zbr cC H p c fp):zbh K cC H p c.needs c.leaves (c.deeds.map toD) c.notes:=by
 obtain⟨dx,w1,w2,w3,w4,f,rfl,hp,r⟩:=h
 obtain⟨h1,h2,h3,h4⟩:=reps4 (zah.reps (K:=K) _ r)
 exact⟨dx,w1,w2,w3,w4,hp,h1,h2,h3,h4⟩
theorem zbr.t {K:Fg}{cC:Addr}{H:Hp}{p:Addr}{c:Cr}{fp:List Addr}(h9:∀ d∈c.deeds,zgR d)(h:zbr cC H p c fp):zdI K cC H p c.needs c.leaves c.deeds c.notes:=by
 refine⟨h.at,?_⟩
 obtain⟨dx,w1,w2,w3,w4,f,rfl,hp,r⟩:=h
 obtain⟨x1,x2,x3,x4,f1,f2,f3,f4,e,g1,g2,g3,g4⟩:=zn0 r
 cases e
 obtain⟨b3,dvs',r3,rfl,h3',z3⟩:=RepF.lso g3
 refine⟨dx,w1,w2,b3,w4,dvs',hp,h3',by simpa using z3.length,λi d x q1 q2=>?_⟩
 obtain⟨f,hf⟩:=zah.item z3 i (toD d) x (by rw[zgm,q1];rfl) q2
 exact zlW (zeX (h9 d (zmg q1))) hf
theorem zbr.has {cC:Addr}{H:Hp}{p:Addr}{c:Cr}{fp:List Addr}(h:zbr cC H p c fp):∀ b∈fp,∃ o,H b=some o:=λb hb=>by
 obtain⟨dx,w1,w2,w3,w4,f,rfl,hp,r⟩:=h
 rcases List.mem_cons.mp hb with rfl | hb
 ·exact⟨_,hp⟩
 ·exact zah.has _ r b hb
theorem zbr.hasN {cC:Addr}{H:Hp}{p:Addr}{c:Cr}{fp:List Addr}(h:zbr cC H p c fp):∀ b∈fp,∃ o,H b=some o/\∀ kvs,o≠HO.dK kvs:=λb hb=>by
 obtain⟨dx,w1,w2,w3,w4,f,rfl,hp,r⟩:=h
 rcases List.mem_cons.mp hb with rfl | hb
 ·exact⟨_,hp,λ_ z=>by cases z⟩
 ·obtain⟨xs,e⟩:=zah.hasL _ r b hb
  exact⟨_,e,λ_ z=>by cases z⟩
theorem zbr.frame {cC:Addr}{H H':Hp}{p:Addr}{c:Cr}{fp:List Addr}(tk:Tups H H')(k:∀ b∈fp,∀ o,H b=some o->H' b=some o)(h:zbr cC H p c fp):zbr cC H' p c fp:=by
 obtain⟨dx,w1,w2,w3,w4,f,rfl,hp,r⟩:=h
 refine⟨dx,w1,w2,w3,w4,f,rfl,k p List.mem_cons_self _ hp,zah.frame tk _ (λb hb=>?_) r⟩
 obtain⟨o,ho⟩:=zah.has _ r b hb
 rw[ho]
 exact k b (List.mem_cons_of_mem _ hb) o ho
theorem zbr.same {cC:Addr}{H H':Hp}{p:Addr}{c:Cr}{fp:List Addr}(e:Same H H')(h:zbr cC H p c fp):zbr cC H' p c fp:=h.frame e.tups λb _ o ho=>e b o ho
theorem zbr.nod {cC:Addr}{H H':Hp}{p:Addr}{c:Cr}{fp:List Addr}(e:NoD H H')(h:zbr cC H p c fp):zbr cC H' p c fp:=by
 obtain⟨dx,w1,w2,w3,w4,f,rfl,hp,r⟩:=h
 exact⟨dx,w1,w2,w3,w4,f,rfl,e _ _ hp (λ_ z=>by cases z),zah.sq e.sq _ r⟩
def CrIn (cC:Addr)(H:Hp)(cr:Int->Cr)(fp:List Addr)(m:Int)(v:V):Prop:=∃ p f,v=.ref p/\zbr cC H p (cr m) f/\∀ b∈f,b∈fp
structure HAt (cH cC:Addr)(H:Hp)(h la va:Addr)(ks:List Int)(cr:Int->Cr)(vs:List Int)(fp:List Addr):Prop where
 ins:∃ dx,H h=some (.ins cH dx (hfl la va))
 laid:∃ kvs,H la=some (.dK kvs)/\KVs (CrIn cC H cr fp) kvs ks
 vou:∃ kvs,H va=some (.dK kvs)/\KVs (λ_ v=>v=.bl true) kvs vs
 ne:la≠va
 rt:∀ m∈ks,(cr m).Rt
 few:ks.length<=60
 sub:∀ m∈vs,m∈ks
 has:∀ b∈fp,∃ o,H b=some o/\∀ kvs,o≠HO.dK kvs
section
variable {cH cC:Addr}{H H':Hp}{h la va:Addr}{ks vs:List Int}{cr:Int->Cr}{fp:List Addr}
theorem HAt.frame (A:HAt cH cC H h la va ks cr vs fp)(tk:Tups H H')(k:∀ b,b∈h::la::va::fp->∀ o,H b=some o->H' b=some o):HAt cH cC H' h la va ks cr vs fp where
 ins:=by obtain⟨dx,e⟩:=A.ins;exact⟨dx,k _ (by simp) _ e⟩
 laid:=by
  obtain⟨kvs,e,q⟩:=A.laid
  exact⟨kvs,k _ (by simp) _ e,q.mono λm v ⟨p,f,e1,e2,e3⟩=>⟨p,f,e1,e2.frame tk λb hb o ho=>k b (by simp[e3 b hb]) o ho,e3⟩⟩
 vou:=by obtain⟨kvs,e,q⟩:=A.vou;exact⟨kvs,k _ (by simp) _ e,q⟩
 ne:=A.ne
 rt:=A.rt
 few:=A.few
 sub:=A.sub
 has:=λb hb=>by obtain⟨o,e,n⟩:=A.has b hb;exact⟨o,k b (by simp[hb]) o e,n⟩
theorem HAt.same (A:HAt cH cC H h la va ks cr vs fp)(e:Same H H'):HAt cH cC H' h la va ks cr vs fp:=A.frame e.tups λb _ o ho=>e b o ho
theorem HAt.putV {kvs:List (Key × V)}{vs':List Int}(A:HAt cH cC H h la va ks cr vs fp)(q:KVs (λ_ v=>v=.bl true) kvs vs')(s:∀ m∈vs',m∈ks):HAt cH cC (upd H va (.dK kvs)) h la va ks cr vs' fp where
 ins:=by
  obtain⟨dx,z⟩:=A.ins
  obtain⟨kv0,hv,_⟩:=A.vou
  exact⟨dx,by rw[zam (zgN z hv (by intro w;cases w))];exact z⟩
 laid:=by
  obtain⟨kv0,hv,_⟩:=A.vou
  obtain⟨kl,z,q⟩:=A.laid
  exact⟨kl,by rw[zam A.ne];exact z,q.mono λm v ⟨p,f,e1,e2,e3⟩=>⟨p,f,e1,e2.nod (zdw hv),e3⟩⟩
 vou:=⟨kvs,zad,q⟩
 ne:=A.ne
 rt:=A.rt
 few:=A.few
 sub:=s
 has:=λb hb=>by
  obtain⟨kv0,hv,_⟩:=A.vou
  obtain⟨o,z,n⟩:=A.has b hb
  exact⟨o,zdw hv b o z n,n⟩
theorem HAt.dom (A:HAt cH cC H h la va ks cr vs fp):∀ b,b∈h::la::va::fp->∃ o,H b=some o:=λb hb=>by
 simp only[List.mem_cons] at hb
 rcases hb with rfl | rfl | rfl | hb
 ·obtain⟨dx,e⟩:=A.ins;exact⟨_,e⟩
 ·obtain⟨kvs,e,_⟩:=A.laid;exact⟨_,e⟩
 ·obtain⟨kvs,e,_⟩:=A.vou;exact⟨_,e⟩
 ·obtain⟨o,e,_⟩:=A.has b hb;exact⟨o,e⟩
theorem HAt.nd (A:HAt cH cC H h la va ks cr vs fp):ks.Nodup:=by obtain⟨_,_,q⟩:=A.laid;exact q.2.1
theorem HAt.vfew (A:HAt cH cC H h la va ks cr vs fp):vs.length<=60:=by
 obtain⟨_,_,q⟩:=A.vou
 have:=zmu q.2.1 A.sub
 have:=A.few
 omega
end
theorem OffA.putDict {H:Hp}{S:List Addr}{H':Hp}(e:OffA S H H'){T:List Addr}(h:∀ b∈S,b∈T):OffA T H H':=λb o n z=>e b o (λw=>n (h b w)) z
theorem HAt.start {cH cC:Addr}{H:Hp}{h la va dx:Addr}{cr:Int->Cr}(h1:H h=some (.ins cH dx (hfl la va)))(h2:H la=some (.dK []))(h3:H va=some (.dK []))(ne:la≠va):HAt cH cC H h la va [] cr [] [] where
 ins:=⟨dx,h1⟩
 laid:=⟨[],h2,KVs.nil⟩
 vou:=⟨[],h3,KVs.nil⟩
 ne:=ne
 rt:=λm hm=>by cases hm
 few:=Nat.zero_le _
 sub:=λm hm=>by cases hm
 has:=λm hm=>by cases hm
theorem zmx {H H1:Hp}{ha dx:Addr}{u x:HO}(ha0:H ha=none)(dx0:H dx=none)(o1:OffA [ha] (upd (upd H dx u) ha x) H1):Same H H1:=λb o e=>o1 b o (by simp[zax e ha0]) (by rw[zam (zax e ha0),zam (zax e dx0)];exact e)
def zd5 (ks:List Int)(cr:Int->Cr)(n:Int):List Int:=if n∈ks then zaY (cr n).deeds else []
def setC (cr:Int->Cr)(n:Int)(c:Cr):Int->Cr:=λm=>if m=n then c else cr m
theorem zgy:∀ {a b:List (List Int)},zbJ (a.map nums) (b.map nums)=decide (a=b)
 | [],[]=>by unfold List.map zbJ;rfl
 | [],_::_=>by rw[zmc];unfold List.map zbJ;simp
 | _::_,[]=>by rw[zmc];unfold List.map zbJ;simp
 | m::ms,n::ns=>by
  rw[zmc,zmc]
  unfold zbJ nums pyEq
  rw[zgy,zfh,Bool.eq_iff_iff]
  simp
theorem zhs {a b:List (List Int)} : pyEq (zaq a) (zaq b)=decide (a=b):=by
 unfold zaq pyEq
 exact zgy
def rowD:Option (Int × List Int)->D
 | none=>.non
 | some (w,ws)=>.tup [.int w,nums ws]
end My

namespace My
open PySem L2 PyProof.Rows
theorem i_inI {K:Fg}{H:Hp}{Q:VK}{n:Int}{a:Addr}{l:List Int}(h:SqL K H a (l.map V.int))(q:Q (.bl (decide (n∈l))) H):rIn K false (.int n) (.ref a) H Q:=i_in (.inl h) rfl (zkY _) (by rw[zki];exact q)
theorem zjH {l:List Int}{i:Nat}{m:Int}(nd:l.Nodup)(e:l[i]?=some m):m∉l.take i:=by
 obtain⟨hi,rfl⟩:=zge.mp e
 intro z
 rw[<-List.take_append_drop i l,List.drop_eq_getElem_cons hi] at nd
 exact (List.nodup_append.mp nd).2.2 _ z _ List.mem_cons_self rfl
def zfV (gs:List Du):Prop:=∀ g∈gs,found g
end My

namespace My
open PySem L2 PyProof.Rows
end My

namespace My
open PySem L2 PyProof.Rows
section
variable {ka ia sa:Addr}{k j:Int}{ev ew:V}
end
section
variable {cC:Addr}{H H':Hp}{ka:Addr}{ks:List Int}{cr:Int->Cr}{kfp:List Addr}
end
section
variable {cR cF cC:Addr}{H H':Hp}{r ka ia sa:Addr}{ks:List Int}{cr:Int->Cr}{fas:List Fa}{s:Rs}{kfp:List Addr}
variable {p ha aa:Addr}{f:Fm}{st:List Fm}
end
end My

namespace L2
open PySem PySem.Spec PySem.Calls PyProof.Rows PySem.W
theorem i_bm0 {K:Fg}{σ:St}{H:Hp}{Q:VK}{T:String}{r:V->List V->Hp->VK->Prop}{to:TE}(h:to σ H λx H1=>tyV K T x H1/\r x [] H1 Q):tBM0 K T r to σ H Q:=h
section
variable {X:Cx}{CX:CXT}{C:Addr}{ps:List Str}{j k:Nat}{sp:Sp}{E:XK}{x m:Str}{o e:Expr}{es:List Expr}{ta te:TE}{t:TA}{p pos apos:Pos}
end
end L2
namespace My
open PySem L2 PyProof.Rows
end My

namespace My
open PySem L2 PyProof.Rows
section
variable {H H':Hp}{da ra sk:Addr}{ks:List Int}{cr:Int->Cr}{fas:List Fa}{st:List Fm}{ins:List Int}{lfp:List Addr}{f:Fm}{p ha aa:Addr}
end
end My

namespace My
open PySem L2 PyProof.Rows
section
variable {cR cF cC:Addr}{H H' H0:Hp}{r ka ia sa:Addr}{ks:List Int}{cr:Int->Cr}{fas:List Fa}{s:Rs}{kfp:List Addr}{S:List Addr}
end
end My
namespace My
open PySem L2 PyProof.Rows
end My

namespace My
open L2 PySem
def zoZ (r:Int × List Int):D:=.tup [.int r.1,nums r.2]
def zkZ (gs:List Du)(rs:List (Int × List Int)):Bool:=decide (gs.length=rs.length) && (List.zipWith (λg r=>zgr g.1 g.2 r.1 r.2) gs rs).all id
end My

namespace My
open L2 PySem
section
variable {cR cF cC:Addr}{H H':Hp}{r ka ia sa:Addr}{nn:List Int}{fasR fasR':List Fa}{kfp:List Addr}{da ra sk:Addr}{ks:List Int}{fasL fasL':List Fa}{lfp:List Addr}{fa:Addr}{fv:List V}{cr:Int->Cr}{sR sR' sL sL':Rs}
end
end My

namespace My
open L2 PySem
theorem RepF.sm {H H':Hp}{d:D}{v:V}{f:List Addr}(s:Same H H')(h:RepF H d v f):RepF H' d v f:=RepF.frame s.tups d (λa ha=>by
 obtain⟨o,e⟩:=RepF.has d h a ha
 rw[e,s _ _ e]) h
section
variable {H H':Hp}{pa b3:Addr}{c:Cr}{v1 v2 v4:V}{dvs:List V}{f1 f2 f3 f4:List Addr}
end
def crP (ns:List Int)(start count:Int):Cr:=⟨zgp ns start,zfj ns start,zeV ns start count,zd1 ns start count⟩
theorem crP_D (ns:List Int)(start count:Int):crD (crP ns start count)=zmj ns start count:=by
 unfold crD crP zmj
 rw[zkS]
theorem zjI {c:Int}{zero:List Int} : ∀ l∈zcd c zero,l.length=9:=λl hl=>by
 unfold zcd at hl
 obtain⟨k,_,rfl⟩:=zmm.mp hl
 exact zbT _ _
theorem zfm {c:Int}{zero:List Int} : (zcd c zero).length<=3:=by
 unfold zcd
 have:=zda (c:=c) (k:=20) (m:=3) (by decide)
 simp;omega
theorem zqu {ns:List Int}{start count:Int}(h1:1<=count)(h8:count<=8):(crP ns start count).Rt:=by
 have e1:(zcd (cell ns start) [0,1,2,3,6,7]).length<=3:=zfm
 have e2:(zcd (cell ns (start+1)) [0,1,2,3]).length<=3:=zfm
 refine⟨⟨λl hl=>zjI l hl,λl hl=>zjI l hl,λd hd=>?_,λls hl=>?_,?_,?_,?_,?_⟩,zkT h1 h8⟩
 ·obtain⟨k,_,rfl⟩:=zmm.mp (show d∈zeV ns start count from hd)
  exact zjC _ _
 ·obtain⟨k,_,rfl⟩:=zmm.mp (show ls∈zd1 ns start count from hl)
  exact⟨Nat.le_trans zfm (by decide),λl hl=>zjI l hl⟩
 ·show (zgp ns start).length<=100
  unfold zgp;omega
 ·show (zfj ns start).length<=100
  unfold zfj;omega
 ·show (zeV ns start count).length<=100
  unfold zeV;simp;omega
 ·show (zd1 ns start count).length<=100
  unfold zd1;simp;omega
end My

namespace My
open L2 PySem
section
variable {H:Hp}{pl T:Addr}{n:Int}{u:V}{r:List V}{o:HO}
end
theorem zkj {cH cC:Addr}{H H':Hp}{h la va ma:Addr}{ks vs:List Int}{cr:Int->Cr}{fp:List Addr}{kvs:List (Key × V)}(A:HAt cH cC H h la va ks cr vs fp)(hm:H ma=some (.dK kvs))(n1:ma≠la)(n2:ma≠va)(o:OffA [ma] H H'):HAt cH cC H' h la va ks cr vs fp:=
 A.frame (λb xs e=>o b _ (λz=>by rw[zms.mp z,hm] at e;cases e) e) λb hb u e=>o b u (λz=>by
  have z:=zms.mp z
  simp only[List.mem_cons] at hb
  rcases hb with w | w | w | w
  ·obtain⟨dx,e'⟩:=A.ins
   rw[<-w,z,hm] at e';cases e'
  ·exact n1 (z.symm.trans w)
  ·exact n2 (z.symm.trans w)
  ·obtain⟨o',e',nd⟩:=A.has b w
   rw[z,hm] at e';cases e'
   exact nd _ rfl) e
end My

namespace My
open L2 PySem
def LnS (S:Addr->Prop)(xs:List V):Prop:=∀ x∈xs,∃ b,x=.ref b/\S b
theorem LnS.app {S:Addr->Prop}{xs ys:List V}(h:LnS S xs)(k:LnS S ys):LnS S (xs++ys):=λx hx=>(zma.mp hx).elim (h x) (k x)
theorem LnS.mono {S S':Addr->Prop}{xs:List V}(m:∀ b,S b->S' b)(h:LnS S xs):LnS S' xs:=λx hx=>by
 obtain⟨b,e,hb⟩:=h x hx
 exact⟨b,e,m b hb⟩
def DdS (S:Addr->Prop)(H:Hp)(x:V):Prop:=∃ t xs,x=.ref t/\H t=some (.tup xs)/\xs.length<=8/\∀ y∈xs,(∃ i,y=.int i)\/(∃ s,y=.str s)\/(∃ b,y=.ref b/\S b)\/∃ b ys,y=.ref b/\H b=some (.tup ys)
theorem DdS.mono {S S':Addr->Prop}{H H':Hp}{x:V}(m:∀ b,S b->S' b)(tk:Tups H H')(h:DdS S H x):DdS S' H' x:=by
 obtain⟨t,xs,e,ht,l,h⟩:=h
 refine⟨t,xs,e,tk _ _ ht,l,λy hy=>?_⟩
 rcases h y hy with z | z | ⟨b,z,hb⟩ | ⟨b,ys,z,hb⟩
 ·exact .inl z
 ·exact .inr (.inl z)
 ·exact .inr (.inr (.inl ⟨b,z,m b hb⟩))
 ·exact .inr (.inr (.inr ⟨b,ys,z,tk _ _ hb⟩))
structure MarIn (S:Addr->Prop)(H:Hp)(k:Nat)(a1 a2 a3 a4:Addr):Prop where
 h1:∃ xs,H a1=some (.lst xs)/\LnS S xs/\xs.length<=k
 h2:∃ xs,H a2=some (.lst xs)/\LnS S xs/\xs.length<=k
 h3:∃ xs,H a3=some (.lst xs)/\(∀ x∈xs,DdS S H x)/\xs.length<=8
 h4:∃ xs,H a4=some (.lst xs)/\(∀ x∈xs,∃ c ys,x=.ref c/\H c=some (.lst ys)/\LnS S ys/\ys.length<=k)/\xs.length<=8
 on:∀ b,S b->is9 H b
section
variable {S S':Addr->Prop}{H H':Hp}{k:Nat}{a1 a2 a3 a4:Addr}
theorem MarIn.mono (M:MarIn S H k a1 a2 a3 a4)(s:Same H H')(m:∀ b,S b->S' b)(on:∀ b,S' b->is9 H' b):MarIn S' H' k a1 a2 a3 a4 where
 h1:=let ⟨xs,e,l,n⟩:=M.h1;⟨xs,s _ _ e,l.mono m,n⟩
 h2:=let ⟨xs,e,l,n⟩:=M.h2;⟨xs,s _ _ e,l.mono m,n⟩
 h3:=let ⟨xs,e,l,n⟩:=M.h3;⟨xs,s _ _ e,λx hx=>(l x hx).mono m s.tups,n⟩
 h4:=let ⟨xs,e,l,n⟩:=M.h4;⟨xs,s _ _ e,λx hx=>(let ⟨c,ys,q1,q2,q3,q4⟩:=l x hx;⟨c,ys,q1,s _ _ q2,q3.mono m,q4⟩),n⟩
 on:=on
theorem MarIn.le {j:Nat}(M:MarIn S H k a1 a2 a3 a4)(h:k<=j):MarIn S H j a1 a2 a3 a4 where
 h1:=let ⟨xs,e,l,n⟩:=M.h1;⟨xs,e,l,by omega⟩
 h2:=let ⟨xs,e,l,n⟩:=M.h2;⟨xs,e,l,by omega⟩
 h3:=M.h3
 h4:=let ⟨xs,e,l,n⟩:=M.h4;⟨xs,e,λx hx=>(let ⟨c,ys,q1,q2,q3,q4⟩:=l x hx;⟨c,ys,q1,q2,q3,by omega⟩),n⟩
 on:=M.on
theorem MarIn.grow {u z:Addr}{ys:List V}(M:MarIn S H k a1 a2 a3 a4)(hu:H u=some (.lst ys))(nu:¬ S u)(hz:S z)(n3:a3≠u)(n4:a4≠u):MarIn S (upd H u (.lst (ys++[.ref z]))) (k+1) a1 a2 a3 a4:=by
 have ls:∀ {a:Addr}{xs:List V},H a=some (.lst xs)->LnS S xs->xs.length<=k->∃ xs',(upd H u (.lst (ys++[.ref z]))) a=some (.lst xs')/\LnS S xs'/\xs'.length<=k+1:=λ{a xs} e l n=>by
  by_cases h:a=u
  ·subst h
   rw[hu] at e
   cases e
   exact⟨_,zad,l.app λx hx=>⟨z,zms.mp hx,hz⟩,by rw[List.length_append,List.length_singleton];omega⟩
  ·exact⟨xs,by rw[zam h];exact e,l,by omega⟩
 have tk:Tups H (upd H u (.lst (ys++[.ref z]))):=zcn hu
 constructor
 ·obtain⟨xs,e,l,n⟩:=M.h1
  exact ls e l n
 ·obtain⟨xs,e,l,n⟩:=M.h2
  exact ls e l n
 ·obtain⟨xs,e,l,n⟩:=M.h3
  exact⟨xs,by rw[zam n3];exact e,λx hx=>(l x hx).mono (λ_ h=>h) tk,n⟩
 ·obtain⟨xs,e,l,n⟩:=M.h4
  refine⟨xs,by rw[zam n4];exact e,λx hx=>?_,n⟩
  obtain⟨c,zs,q1,q2,q3,q4⟩:=l x hx
  obtain⟨xs',w⟩:=ls q2 q3 q4
  exact⟨c,xs',q1,w⟩
 ·intro b hb
  obtain⟨l,l9,e⟩:=M.on b hb
  exact⟨l,l9,by rw[zam (λw=>nu (by rw[<-w];exact hb))];exact e⟩
end
theorem zah.memF {H:Hp} : ∀ {ds:List D}{xs:List V}{fp:List Addr},zah H ds xs fp->∀ x∈xs,∃ d∈ds,∃ f,RepF H d x f/\∀ b∈f,b∈fp
 | [],_,_,h,x,m=>by unfold zah at h;rw[h.1] at m;cases m
 | d::ds,_,_,h,x,m=>by
  unfold zah at h
  obtain⟨v,r,f,g,rfl,rfl,h1,h2⟩:=h
  rcases List.mem_cons.mp m with rfl | m
  ·exact⟨d,List.mem_cons_self,f,h1,λb hb=>List.mem_append_left _ hb⟩
  ·obtain⟨e,he,f',q1,q2⟩:=zah.memF h2 x m
   exact⟨e,List.mem_cons_of_mem _ he,f',q1,λb hb=>List.mem_append_right _ (q2 b hb)⟩
structure CrL (H:Hp)(c:Cr)(a1 a2 a3 a4:Addr)(xs1 xs2 dvs nvs:List V)(f1 f2 f3 f4:List Addr):Prop where
 e1:H a1=some (.lst xs1)
 e2:H a2=some (.lst xs2)
 e3:H a3=some (.lst dvs)
 e4:H a4=some (.lst nvs)
 r1:zah H (c.needs.map nums) xs1 f1
 r2:zah H (c.leaves.map nums) xs2 f2
 r3:zah H (c.deeds.map toD) dvs f3
 r4:zah H (c.notes.map zaq) nvs f4
def fL (a1 a2 a3 a4:Addr)(f1 f2 f3 f4:List Addr):List Addr:=(a1::f1)++((a2::f2)++((a3::f3)++(a4::f4)))
theorem zgz {H:Hp}{c:Cr}{vs:List V}{f:List Addr}(h:zah H (zjF c.needs c.leaves (c.deeds.map toD) c.notes) vs f):∃ a1 a2 a3 a4 xs1 xs2 dvs nvs f1 f2 f3 f4,vs=[.ref a1,.ref a2,.ref a3,.ref a4]/\f=fL a1 a2 a3 a4 f1 f2 f3 f4/\CrL H c a1 a2 a3 a4 xs1 xs2 dvs nvs f1 f2 f3 f4:=by
 obtain⟨x1,x2,x3,x4,g1,g2,g3,g4,rfl,_⟩:=zn0 h
 obtain⟨f1,f2,f3,f4,rfl,h1,h2,h3,h4⟩:=zah.out4 h
 unfold zaq at h1 h2
 unfold RepF at h1 h2 h3 h4
 obtain⟨a1,xs1,g1,rfl,rfl,e1,q1⟩:=h1
 obtain⟨a2,xs2,g2,rfl,rfl,e2,q2⟩:=h2
 obtain⟨a3,xs3,g3,rfl,rfl,e3,q3⟩:=h3
 obtain⟨a4,xs4,g4,rfl,rfl,e4,q4⟩:=h4
 exact⟨a1,a2,a3,a4,xs1,xs2,xs3,xs4,g1,g2,g3,g4,rfl,rfl,e1,e2,e3,e4,q1,q2,q3,q4⟩
section
variable {H:Hp}{c:Cr}{a1 a2 a3 a4:Addr}{xs1 xs2 dvs nvs:List V}{f1 f2 f3 f4:List Addr}
theorem zmy (rt:c.Rt)(A:CrL H c a1 a2 a3 a4 xs1 xs2 dvs nvs f1 f2 f3 f4):MarIn (λb=>b∈fL a1 a2 a3 a4 f1 f2 f3 f4/\is9 H b) H 2 a1 a2 a3 a4:=by
 obtain⟨p1,p2,p3,p4,p5,_⟩:=rt.parts
 have l1:=A.r1.length
 have l2:=A.r2.length
 have l3:=A.r3.length
 have l4:=A.r4.length
 rw[zlm] at l1 l2 l3 l4
 refine⟨⟨xs1,A.e1,λx hx=>?_,by omega⟩,⟨xs2,A.e2,λx hx=>?_,by omega⟩,⟨dvs,A.e3,λx hx=>?_,by omega⟩,⟨nvs,A.e4,λx hx=>?_,by omega⟩,λb hb=>hb.2⟩
 ·obtain⟨b,e,h9,hb⟩:=zfi rt.nine.n9 A.r1 x hx
  exact⟨b,e,by unfold fL;simp[hb],h9⟩
 ·obtain⟨b,e,h9,hb⟩:=zfi rt.nine.l9 A.r2 x hx
  exact⟨b,e,by unfold fL;simp[hb],h9⟩
 ·obtain⟨d,hd,f,hf,sub⟩:=zah.memF A.r3 x hx
  obtain⟨dd,hdd,rfl⟩:=zmm.mp hd
  obtain⟨ds,e,l8,hs⟩:=zeX (rt.nine.d9 dd hdd)
  rw[e] at hf
  unfold RepF at hf
  obtain⟨t,xs,rfl,ht,hxs⟩:=hf
  refine⟨t,xs,rfl,ht,by rw[<-hxs.length];exact l8,λy hy=>?_⟩
  rcases zj9 hs hxs y hy with z | z | ⟨b,z,h9,hb⟩ | z
  ·exact .inl z
  ·exact .inr (.inl z)
  ·exact .inr (.inr (.inl ⟨b,z,by unfold fL;simp[sub b hb],h9⟩))
  ·exact .inr (.inr (.inr z))
 ·obtain⟨d,hd,f,hf,sub⟩:=zah.memF A.r4 x hx
  obtain⟨ls,hls,rfl⟩:=zmm.mp hd
  unfold zaq RepF at hf
  obtain⟨b,ys,g,rfl,rfl,hb,hys⟩:=hf
  have ly:=hys.length
  rw[zlm] at ly
  refine⟨b,ys,rfl,hb,λy hy=>?_,by have:=p5 ls hls;omega⟩
  obtain⟨z,e,h9,hz⟩:=zfi (rt.nine.o9 ls hls).2 hys y hy
  exact⟨z,e,by unfold fL;simp[sub z (List.mem_cons_of_mem _ hz)],h9⟩
theorem CrL.first (rt:c.Rt)(A:CrL H c a1 a2 a3 a4 xs1 xs2 dvs nvs f1 f2 f3 f4):∃ c0 ys r,nvs=.ref c0::r/\H c0=some (.lst ys)/\c0∈f4/\ys.length<=2/\¬ is9 H c0:=by
 obtain⟨p1,p2,p3,p4,p5,_⟩:=rt.parts
 have l4:=A.r4.length
 rw[zlm] at l4
 cases nvs with
 | nil=>rw[List.length_nil] at l4;omega
 | cons x r=>
  obtain⟨d,hd,f,hf,sub⟩:=zah.memF A.r4 x List.mem_cons_self
  obtain⟨ls,hls,rfl⟩:=zmm.mp hd
  unfold zaq RepF at hf
  obtain⟨b,ys,g,rfl,rfl,hb,hys⟩:=hf
  have ly:=hys.length
  rw[zlm] at ly
  have:=p5 ls hls
  refine⟨b,ys,r,rfl,hb,sub b List.mem_cons_self,by omega,zeQ hb λy hy i=>?_⟩
  obtain⟨z,e,_⟩:=zfi (rt.nine.o9 ls hls).2 hys y hy
  rw[e];exact λw=>by cases w
theorem CrL.no1 (rt:c.Rt)(A:CrL H c a1 a2 a3 a4 xs1 xs2 dvs nvs f1 f2 f3 f4):¬ is9 H a1:=zeQ A.e1 λy hy i=>by
 obtain⟨z,e,_⟩:=zfi rt.nine.n9 A.r1 y hy
 rw[e];exact λw=>by cases w
theorem CrL.no2 (rt:c.Rt)(A:CrL H c a1 a2 a3 a4 xs1 xs2 dvs nvs f1 f2 f3 f4):¬ is9 H a2:=zeQ A.e2 λy hy i=>by
 obtain⟨z,e,_⟩:=zfi rt.nine.l9 A.r2 y hy
 rw[e];exact λw=>by cases w
theorem CrL.no3 (rt:c.Rt)(A:CrL H c a1 a2 a3 a4 xs1 xs2 dvs nvs f1 f2 f3 f4):¬ is9 H a3:=zeQ A.e3 λy hy i=>by
 obtain⟨d,hd,f,hf,_⟩:=zah.memF A.r3 y hy
 obtain⟨dd,hdd,rfl⟩:=zmm.mp hd
 obtain⟨ds,e,_⟩:=zeX (rt.nine.d9 dd hdd)
 rw[e] at hf
 unfold RepF at hf
 obtain⟨t,xs,rfl,_⟩:=hf
 exact λw=>by cases w
theorem CrL.no4 (rt:c.Rt)(A:CrL H c a1 a2 a3 a4 xs1 xs2 dvs nvs f1 f2 f3 f4):¬ is9 H a4:=zeQ A.e4 λy hy i=>by
 obtain⟨d,hd,f,hf,_⟩:=zah.memF A.r4 y hy
 obtain⟨ls,_,rfl⟩:=zmm.mp hd
 unfold zaq RepF at hf
 obtain⟨b,ys,g,rfl,_⟩:=hf
 exact λw=>by cases w
theorem CrL.same {H':Hp}(s:Same H H')(A:CrL H c a1 a2 a3 a4 xs1 xs2 dvs nvs f1 f2 f3 f4):CrL H' c a1 a2 a3 a4 xs1 xs2 dvs nvs f1 f2 f3 f4:=
 ⟨s _ _ A.e1,s _ _ A.e2,s _ _ A.e3,s _ _ A.e4,zah.sq s.sq _ A.r1,zah.sq s.sq _ A.r2,zah.sq s.sq _ A.r3,zah.sq s.sq _ A.r4⟩
theorem CrL.rep {K:Fg}{l:Addr}(A:CrL H c a1 a2 a3 a4 xs1 xs2 dvs nvs f1 f2 f3 f4)(hl:H l=some (.lst [.ref a1,.ref a2,.ref a3,.ref a4])):Rep K H (crD c) (.ref l):=by
 unfold crD Rep
 refine⟨l,_,rfl,SqL.of hl,?_⟩
 unfold Reps
 refine⟨_,_,rfl,?_,?_⟩
 ·unfold zaq Rep;exact⟨a1,xs1,rfl,SqL.of A.e1,zah.reps _ A.r1⟩
 unfold Reps
 refine⟨_,_,rfl,?_,?_⟩
 ·unfold zaq Rep;exact⟨a2,xs2,rfl,SqL.of A.e2,zah.reps _ A.r2⟩
 unfold Reps
 refine⟨_,_,rfl,?_,?_⟩
 ·unfold Rep;exact⟨a3,dvs,rfl,SqL.of A.e3,zah.reps _ A.r3⟩
 unfold Reps
 refine⟨_,_,rfl,?_,?_⟩
 ·unfold Rep;exact⟨a4,nvs,rfl,SqL.of A.e4,zah.reps _ A.r4⟩
 unfold Reps
 rfl
end
def OffP (P:Addr->Prop)(H H':Hp):Prop:=∀ b o,¬ P b->H b=some o->H' b=some o
section
variable {P P':Addr->Prop}{H H1 H':Hp}
theorem OffP.trans (a:OffP P H H1)(b:OffP P H1 H'):OffP P H H':=λc o n e=>b c o n (a c o n e)
theorem OffP.mono (a:OffP P H H1)(m:∀ b,P b->P' b):OffP P' H H1:=λc o n e=>a c o (λz=>n (m c z)) e
theorem OffP.same (s:Same H H1):OffP P H H1:=λc o _ e=>s c o e
theorem OffP.mt {S:Addr->Prop}(m:Mt S H H1):OffP S H H1:=m.off
theorem OffP.upd {u:Addr}{o:HO}(h:P u):OffP P H (upd H u o):=λb x n e=>by rw[zam λw=>n (by rw[w];exact h)];exact e
theorem OffP.young (a:OffP P H1 H')(s:Same H H1)(n:∀ b,P b->H b=none):Same H H':=λb o e=>a b o (λz=>by rw[n b z] at e;cases e) (s b o e)
theorem OffP.nod (a:OffP P H1 H')(s:NoD H H1)(n:∀ b,P b->H b=none):NoD H H':=λb o e k=>a b o (λz=>by rw[n b z] at e;cases e) (s b o e k)
end
theorem zqv {c:Cr}(h9:∀ d∈c.deeds,zgR d):dep (crD c)<=60:=by
 unfold crD dep
 refine Nat.le_trans (Nat.succ_le_succ (zeC (n:=4) λd m=>?_)) (by decide)
 simp only[List.mem_cons,List.not_mem_nil,or_false] at m
 rcases m with rfl | rfl | rfl | rfl
 ·exact Nat.le_trans (zdX c.needs) (by decide)
 ·exact Nat.le_trans (zdX c.leaves) (by decide)
 ·unfold dep
  refine Nat.le_trans (Nat.succ_le_succ (zeC (n:=2) λe he=>?_)) (by decide)
  obtain⟨d,hd,rfl⟩:=zmm.mp he
  exact znk (zeX (h9 d hd))
 ·unfold dep
  refine Nat.le_trans (Nat.succ_le_succ (zeC (n:=2) λe he=>?_)) (by decide)
  obtain⟨ls,_,rfl⟩:=zmm.mp he
  exact zdX ls
theorem zqw {a1 a2 a3 a4:Addr}{f1 f2 f3 f4:List Addr}(nd:(fL a1 a2 a3 a4 f1 f2 f3 f4).Nodup):(a1≠a3/\a1≠a4/\a2≠a3/\a2≠a4/\a3≠a4)/\∀ c∈f4,a1≠c/\a2≠c/\a3≠c/\a4≠c:=by
 unfold fL at nd
 obtain⟨_,n2,d1⟩:=List.nodup_append.mp nd
 obtain⟨_,n3,d2⟩:=List.nodup_append.mp n2
 obtain⟨_,n4,d3⟩:=List.nodup_append.mp n3
 have i4:∀ c∈a4::f4,c∈(a2::f2)++((a3::f3)++(a4::f4)):=λc hc=>List.mem_append_right _ (List.mem_append_right _ hc)
 have j4:∀ c∈a4::f4,c∈(a3::f3)++(a4::f4):=λc hc=>List.mem_append_right _ hc
 exact⟨⟨d1 _ List.mem_cons_self _ (List.mem_append_right _ (List.mem_append_left _ List.mem_cons_self)),d1 _ List.mem_cons_self _ (i4 _ List.mem_cons_self),d2 _ List.mem_cons_self _ (List.mem_append_left _ List.mem_cons_self),d2 _ List.mem_cons_self _ (j4 _ List.mem_cons_self),d3 _ List.mem_cons_self _ List.mem_cons_self⟩,
  λc hc=>⟨d1 _ List.mem_cons_self _ (i4 _ (List.mem_cons_of_mem _ hc)),d2 _ List.mem_cons_self _ (j4 _ (List.mem_cons_of_mem _ hc)),d3 _ List.mem_cons_self _ (List.mem_cons_of_mem _ hc),λz=>(List.nodup_cons.mp n4).1 (by rw[z];exact hc)⟩⟩
theorem zgA {x:Int}{a:Addr}{H:Hp}{Q:VK}(h:H a=some (.lst [.int x]))(q:∀ p H',Same H H'->H p=none->H' p=some (.lst ((List.replicate 9 x).map V.int))->Q (.ref p) H'):zlQ (.ref a) (.int 9) H Q:=
 .inr ⟨a,9,[.int x],rfl,rfl,h,by decide,by decide,by show 9<=sizeLine;decide,λp hp=>q p _ (zag hp _) hp zad⟩
theorem zkk {x:Int}{a:Addr}{H:Hp}(h:H a=some (.lst ((List.replicate 9 x).map V.int))):is9 H a:=⟨_,by simp,h⟩
theorem zo0 {α:Type}{ns:List α}{i:Nat}{n:α}(h:ns[i]?=some n):ns.drop i=n::ns.drop (i+1):=by
 obtain⟨hi,e⟩:=zge.mp h
 rw[<-e];exact List.drop_eq_getElem_cons hi
section
variable {K:Fg}{H H':Hp}{c:Cr}{a1 a2 a3 a4:Addr}{xs1 xs2 dvs nvs:List V}{f1 f2 f3 f4:List Addr}
theorem CrL.rn (A:CrL H c a1 a2 a3 a4 xs1 xs2 dvs nvs f1 f2 f3 f4):Rep K H (zaq c.needs) (.ref a1):=by
 unfold zaq Rep;exact⟨a1,xs1,rfl,SqL.of A.e1,zah.reps _ A.r1⟩
theorem CrL.rl (A:CrL H c a1 a2 a3 a4 xs1 xs2 dvs nvs f1 f2 f3 f4):Rep K H (zaq c.leaves) (.ref a2):=by
 unfold zaq Rep;exact⟨a2,xs2,rfl,SqL.of A.e2,zah.reps _ A.r2⟩
theorem CrL.dd (h9:∀ d∈c.deeds,zgR d)(A:CrL H c a1 a2 a3 a4 xs1 xs2 dvs nvs f1 f2 f3 f4):zd4 H c.deeds dvs:=⟨by simpa using A.r3.length,λi d x e1 e2=>by
 obtain⟨f,hf⟩:=zah.item A.r3 i (toD d) x (by rw[zgm,e1];rfl) e2
 exact zlW (zeX (h9 d (zmg e1))) hf⟩
theorem CrL.nt (A:CrL H c a1 a2 a3 a4 xs1 xs2 dvs nvs f1 f2 f3 f4):R2 (λls x=>Rep K H (zaq ls) x) c.notes nvs:=⟨by simpa using A.r4.length,λi ls x e1 e2=>by
 obtain⟨f,hf⟩:=zah.item A.r4 i (zaq ls) x (by rw[zgm,e1];rfl) e2
 exact RepF.rep _ hf⟩
theorem CrL.isL (A:CrL H c a1 a2 a3 a4 xs1 xs2 dvs nvs f1 f2 f3 f4):∀ b∈fL a1 a2 a3 a4 f1 f2 f3 f4,∃ xs,H b=some (.lst xs):=λb hb=>by
 unfold fL at hb
 simp only[zma,List.mem_cons] at hb
 rcases hb with (rfl | hb) | (rfl | hb) | (rfl | hb) | (rfl | hb)
 ·exact⟨_,A.e1⟩
 ·exact zah.hasL _ A.r1 b hb
 ·exact⟨_,A.e2⟩
 ·exact zah.hasL _ A.r2 b hb
 ·exact⟨_,A.e3⟩
 ·exact zah.hasL _ A.r3 b hb
 ·exact⟨_,A.e4⟩
 ·exact zah.hasL _ A.r4 b hb
theorem CrL.frame (tk:Tups H H')(A:CrL H c a1 a2 a3 a4 xs1 xs2 dvs nvs f1 f2 f3 f4)(k:∀ b∈fL a1 a2 a3 a4 f1 f2 f3 f4,∀ o,H b=some o->H' b=some o):CrL H' c a1 a2 a3 a4 xs1 xs2 dvs nvs f1 f2 f3 f4:=by
 have fr:∀ {ds:List D}{vs:List V}{f:List Addr},zah H ds vs f->(∀ b∈f,b∈fL a1 a2 a3 a4 f1 f2 f3 f4)->zah H' ds vs f:=λ{ds vs f} r s=>zah.frame tk _ (λb hb=>by
  obtain⟨o,ho⟩:=zah.has _ r b hb
  rw[ho,k b (s b hb) o ho]) r
 exact⟨k _ (by unfold fL;simp) _ A.e1,k _ (by unfold fL;simp) _ A.e2,k _ (by unfold fL;simp) _ A.e3,k _ (by unfold fL;simp) _ A.e4,fr A.r1 λb hb=>by unfold fL;simp[hb],fr A.r2 λb hb=>by unfold fL;simp[hb],fr A.r3 λb hb=>by unfold fL;simp[hb],fr A.r4 λb hb=>by unfold fL;simp[hb]⟩
theorem CrL.nod (e:NoD H H')(A:CrL H c a1 a2 a3 a4 xs1 xs2 dvs nvs f1 f2 f3 f4):CrL H' c a1 a2 a3 a4 xs1 xs2 dvs nvs f1 f2 f3 f4:=
 A.frame e.sq.tups λb hb o ho=>e b o ho λkvs w=>by
  obtain⟨xs,e1⟩:=A.isL b hb
  rw[e1,w] at ho;cases ho
end
end My

set_option compiler.extract_closed false
set_option maxHeartbeats 8000000
open PySem.W (mg_of nsIn findIn mg_none_of isFn keepIn excIn fnOf codeIn kia_one makesIn)
local macro_rules | `(tactic| walk_at "gs1") => `(tactic| first
  | (with_reducible first | refine L2.i_asg ?_ | refine L2.zoF ?_ | refine L2.i_ret ?_ | refine L2.zpV ?_ | refine L2.zpW ?_ | refine L2.zql fun T kT U kU => ?_ | refine L2.i_if ?_ | refine L2.zpS ?_ | refine L2.i_B ?_ | refine L2.i_bl ?_ | refine L2.iteT ?_ | refine L2.iteF ?_ | refine L2.iteNT ?_ | refine L2.iteNF ?_ | refine L2.znb ?_ | refine L2.i_bm ?_ | refine L2.i_bm0 ?_ | refine L2.zp5 ?_ | refine L2.i_fld ?_ | refine L2.zp6 ?_ | refine L2.zoK ?_ | refine L2.zpX ?_ | refine L2.i_orV ?_ | refine L2.i_notV ?_ | refine L2.i_and ?_ | refine L2.i_or ?_ | refine L2.i_not ?_ | refine L2.i_for ?_ | refine L2.zpY ?_ | refine L2.zoG ?_ | refine L2.zpZ ?_ | refine L2.i_zip ?_ | refine L2.i_enum ?_ | refine L2.i_rev ?_ | refine L2.zp0 ?_ | refine L2.i_rng2 ?_ | refine L2.i_sl ?_ | refine L2.znd ?_ | refine L2.zp1 ?_ | refine L2.zoH ?_ | refine L2.i_par ?_ | refine L2.zp2 ?_ | refine L2.zp3 ?_ | refine L2.i_c ?_ | refine L2.zoQ ?_ | refine L2.zqe ?_ | refine L2.zoR ?_ | refine L2.znp ?_ | refine L2.i_op ?_ | refine L2.i_un ?_ | refine L2.zpT ?_ | refine L2.i_nil ?_ | refine L2.zpU ?_ | refine L2.zoS ?_ | refine L2.i_fs ?_ | refine L2.zoT ?_ | refine L2.i_din ?_ | refine L2.zno ?_ | refine L2.zqf ?_ | refine L2.zqh ?_ | refine L2.zqi ?_ | refine L2.zoW ?_ | refine L2.zqk ?_ | refine L2.i_tru ?_ | refine L2.i_CB ?_ | refine L2.i_lst ?_ | refine L2.i_tup ?_ | refine L2.i_rI0 ?_ | refine L2.i_rU ?_ | refine L2.zoD ?_ | refine L2.i_eqI ?_ | refine L2.i_neI ?_ | refine L2.i_eqB ?_ | refine L2.i_neB ?_ | refine L2.i_eqS ?_ | refine L2.i_neS ?_)
  | ((with_reducible refine L2.zj5 ?_ ?_); focus (first | exact Or.inl ⟨by omega, by omega⟩ | exact Or.inr ⟨by omega, by omega⟩))
  | ((with_reducible refine L2.i_mod ?_ ?_); focus omega)
  | ((with_reducible refine L2.zpR ?_ ?_ ?_); (focus omega); (focus omega))
  | ((with_reducible refine L2.i_pow ?_ ?_ ?_ ?_); (focus decide); (focus decide); (focus decide))
  | ((with_reducible refine L2.zpQ (v := ?_) ?_ ?_); rotate_left; focus rfl)
  | with_reducible refine L2.goOn (by assumption) ?_)
local macro_rules | `(tactic| walk_at "go1") => `(tactic| first | with_reducible refine L2.zoa fun NX kN => ?_ | walk_at "gs1" | (refine L2.zpQ (by rfl) ?_))
local macro_rules | `(tactic| walk_at "gs") => `(tactic| repeat (walk_at "gs1"))
local macro_rules | `(tactic| nofun) => `(tactic| walk_at "gs")
local macro_rules | `(tactic| walk_at "go") => `(tactic| repeat (walk_at "go1"))
local macro_rules | `(tactic| ac_rfl) => `(tactic| walk_at "go")
local macro_rules | `(tactic| walk_at "sc") => `(tactic| exact ⟨rfl, rfl, rfl, by decide +kernel, rfl, by decide +kernel, by decide +kernel⟩)
local macro_rules | `(tactic| walk_at "q") => `(tactic| ((try with_reducible refine L2.goOn (by assumption) ?_); with_reducible refine L2.zoa fun NX kN => ?_))
local macro_rules | `(tactic| walk_at "sm") => `(tactic| first | exact L2.sl rfl | exact L2.zal (by simp))
namespace My
open PySem L2 PyProof.Rows
theorem len0 {us:List Value}(h:us.length=0):us=[]:=List.eq_nil_of_length_eq_zero h
theorem lenS {us:List Value}{n:Nat}(h:us.length=n+1):∃ a r,us=a::r/\r.length=n:=by
 cases us with
 | nil=>cases h
 | cons a r=>exact⟨a,r,rfl,Nat.succ.inj h⟩
theorem len1 {us:List Value}(h:us.length=1):∃ a0,us=[a0]:=by
 obtain⟨a,r,rfl,k⟩:=lenS h
 obtain rfl:=len0 k
 exact⟨_,rfl⟩
theorem len2 {us:List Value}(h:us.length=2):∃ a0 a1,us=[a0,a1]:=by
 obtain⟨a,r,rfl,k⟩:=lenS h
 obtain⟨b0,rfl⟩:=len1 k
 exact⟨_,_,rfl⟩
theorem len3 {us:List Value}(h:us.length=3):∃ a0 a1 a2,us=[a0,a1,a2]:=by
 obtain⟨a,r,rfl,k⟩:=lenS h
 obtain⟨b0,b1,rfl⟩:=len2 k
 exact⟨_,_,_,rfl⟩
theorem len4 {us:List Value}(h:us.length=4):∃ a0 a1 a2 a3,us=[a0,a1,a2,a3]:=by
 obtain⟨a,r,rfl,k⟩:=lenS h
 obtain⟨b0,b1,b2,rfl⟩:=len3 k
 exact⟨_,_,_,_,rfl⟩
theorem len5 {us:List Value}(h:us.length=5):∃ a0 a1 a2 a3 a4,us=[a0,a1,a2,a3,a4]:=by
 obtain⟨a,r,rfl,k⟩:=lenS h
 obtain⟨b0,b1,b2,b3,rfl⟩:=len4 k
 exact⟨_,_,_,_,_,rfl⟩
section
open PySem PySem.Spec PySem.Calls PyProof.Rows PySem.W L2
theorem bA {K:Fg}(hA:((zBoo K).all id,zSee K)=(true,zSig))(j:Nat){b:Bool}(h:(zBoo K)[j]?=some b):b=true:=List.all_eq_true.mp (Prod.mk.inj hA).1 b (zmg h)
theorem eA {K:Fg}(hA:((zBoo K).all id,zSee K)=(true,zSig))(j:Nat){α:Type}[BEq α][LawfulBEq α]{x y:α}(h:(zBoo K)[j]?=some (x == y)):x=y:=eq_of_beq (bA hA j h)
def fA {K:Fg}(hA:((zBoo K).all id,zSee K)=(true,zSig))(i j:Nat)(a:Addr)(n q:Str)(d:Stmt)(h1:(zSee K)[i]?=some (L2.zaN K a))(h2:zSig[i]?=some (gS n q d))(h3:(zBoo K)[j]?=some (L2.zao K a q)):=L2.zqm (n:=n) (ps:=zcU d) (b:=zbO d) (sc:=zaf d) (Option.some.inj (h1.symm.trans ((congrArg (λl:List (Option L2.Sig)=>l[i]?) (Prod.mk.inj hA).2).trans h2))) (bA hA j h3)
end
theorem zo1:FSc ["i"] ["i"] (zaf zjU):=by walk_at "sc"
theorem zd6:FSc ["lines","weights","total","line","weight"] ["lines","weights"] (zaf zfL):=by walk_at "sc"
theorem ziR:FSc ["line","eight","total"] ["line","eight"] (zaf zhv):=by walk_at "sc"
theorem zfn:FSc ["self","needs","leaves","deeds","notes"] ["self","needs","leaves","deeds","notes"] (zaf zbk):=by walk_at "sc"
theorem zgB:FSc ["lines"] ["lines"] (zaf zb7):=by walk_at "sc"
theorem zgS:FSc ["deed"] ["deed"] (zaf zcj):=by walk_at "sc"
theorem zgC:FSc ["craft"] ["craft"] (zaf zcV):=by walk_at "sc"
theorem ziS:FSc ["craft"] ["craft"] (zaf zdg):=by walk_at "sc"
theorem znB:FSc ["craft"] ["craft"] (zaf zja):=by walk_at "sc"
theorem zeZ:FSc ["craft","needs_right"] ["craft"] (zaf zdK):=by walk_at "sc"
theorem zen:FSc ["deeds","count"] ["deeds"] (zaf zck):=by walk_at "sc"
theorem zeo:FSc ["craft","as_many"] ["craft"] (zaf zcl):=by walk_at "sc"
theorem zgT:FSc ["lines","nought_spots"] ["lines","nought_spots"] (zaf zcm):=by walk_at "sc"
theorem ze0:FSc ["line","nought_spots","small"] ["line","nought_spots"] (zaf zb8):=by walk_at "sc"
theorem ze1:FSc ["deed","last_place","kind"] ["deed","last_place"] (zaf zdL):=by walk_at "sc"
theorem zgU:FSc ["low","high"] ["low","high"] (zaf zdh):=by walk_at "sc"
theorem ze2:FSc ["number","given","taken","hands"] ["number","given","taken"] (zaf zdM):=by walk_at "sc"
theorem ze3:FSc ["hands"] ["hands"] (zaf zbw):=by walk_at "sc"
theorem zhW:FSc ["hand"] ["hand"] (zaf zdN):=by walk_at "sc"
theorem zgD:FSc ["number"] ["number"] (zaf zcW):=by walk_at "sc"
theorem zk0:FSc ["low","number","high"] ["low","number","high"] (zaf zfW):=by walk_at "sc"
theorem ziT:FSc ["craft","place","eight"] ["craft","place"] (zaf zeJ):=by walk_at "sc"
theorem ze4:FSc ["craft","crafts","number","told","place"] ["craft","crafts"] (zaf zhw):=by walk_at "sc"
theorem zd7:FSc ["craft","begun"] ["craft"] (zaf zcX):=by walk_at "sc"
theorem zbF:FSc ["craft","place","crafts","deed","notes","after","kind"] ["craft","place","crafts"] (zaf zdi):=by walk_at "sc"
theorem zbG:FSc ["deed","notes","after","line","by","not_above","greatest"] ["deed","notes","after"] (zaf zdj):=by walk_at "sc"
theorem zc3:FSc ["deed","notes","after","from_low","to_high"] ["deed","notes","after"] (zaf zdk):=by walk_at "sc"
theorem zep:FSc ["line","notes","there","after","below_nought"] ["line","notes","there","after"] (zaf zdl):=by walk_at "sc"
theorem zbn:FSc ["deed","notes","after","other","given","taken","giving","taking","before"] ["deed","notes","after","other"] (zaf zdm):=by walk_at "sc"
theorem ziU:FSc ["goals","hypotheses"] ["goals","hypotheses"] (zaf zdn):=by walk_at "sc"
theorem zhX:FSc ["lines","eight"] ["lines","eight"] (zaf zcH):=by walk_at "sc"
theorem zhY:FSc ["changes"] ["changes"] (zaf zcI):=by walk_at "sc"
theorem zjJ:FSc ["number"] ["number"] (zaf ze9):=by walk_at "sc"
theorem zbU:FSc ["duty","row","goal","hypotheses","whole","weights","rest"] ["duty","row"] (zaf zeq):=by walk_at "sc"
theorem ze5:FSc ["duty","rows_of_weights","whole","weights"] ["duty"] (zaf zhx):=by walk_at "sc"
theorem zbi:FSc ["count","found","bit"] ["count"] (zaf zbc):=by walk_at "sc"
theorem zfI:FSc ["self"] ["self"] (zaf zcr):=by walk_at "sc"
theorem zjK:FSc ["self","number","craft"] ["self","number","craft"] (zaf zfa):=by walk_at "sc"
theorem ziV:FSc ["self","number"] ["self","number"] (zaf zer):=by walk_at "sc"
theorem zfJ:FSc ["self"] ["self"] (zaf zcs):=by walk_at "sc"
theorem zc4:FSc ["self","told","number"] ["self"] (zaf zdo):=by walk_at "sc"
theorem zhZ:FSc ["self","number","rows"] ["self","number","rows"] (zaf zdO):=by walk_at "sc"
theorem zfD:FSc ["self","number","rows"] ["self","number"] (zaf zct):=by walk_at "sc"
theorem ze6:FSc ["self","number"] ["self","number"] (zaf zb2):=by walk_at "sc"
theorem zfo:FSc ["self","number"] ["self","number"] (zaf zcf):=by walk_at "sc"
theorem zfp:FSc ["self","number"] ["self","number"] (zaf zcg):=by walk_at "sc"
theorem zgE:FSc ["self","number"] ["self","number"] (zaf zcY):=by walk_at "sc"
theorem zbV:FSc ["self","number","caller"] ["self","number"] (zaf zbo):=by walk_at "sc"
theorem ziW:FSc ["craft","other"] ["craft","other"] (zaf zes):=by walk_at "sc"
theorem ziX:FSc ["due","rows"] ["due","rows"] (zaf zdp):=by walk_at "sc"
theorem ziY:FSc ["script","k"] ["script","k"] (zaf zet):=by walk_at "sc"
theorem znC:FSc ["cell","k","many"] ["cell","k","many"] (zaf zjb):=by walk_at "sc"
theorem zgF:FSc ["cell","k","kind"] ["cell","k"] (zaf zfb):=by walk_at "sc"
theorem zd8:FSc ["cell","zero","line","k"] ["cell","zero"] (zaf zdq):=by walk_at "sc"
theorem zbN:FSc ["cell","count","line","hand","kind","low","given"] ["cell","count"] (zaf zeu):=by walk_at "sc"
theorem zh0:FSc ["cell","zero"] ["cell","zero"] (zaf zcJ):=by walk_at "sc"
theorem zbW:FSc ["script","start","count","needs","leaves","deeds","notes"] ["script","start","count"] (zaf zb9):=by walk_at "sc"
theorem zjL:FSc ["parts","cell"] ["parts","cell"] (zaf zfc):=by walk_at "sc"
theorem zht:FSc ["e","mine","told"] ["e","mine"] (zaf zeK):=by walk_at "sc"
theorem zfE:FSc ["hall","number","craft","way","e"] ["hall","number","craft","way"] (zaf zev):=by walk_at "sc"
theorem zbK:FSc ["needs","leaves","deeds","notes","lines","some","deed","line"] ["needs","leaves","deeds","notes"] (zaf zea):=by walk_at "sc"
theorem zdf:FSc ["hall","model","lap","told","found","number","craft","parts"] ["hall","model"] (zaf zhy):=by walk_at "sc"
theorem zcR:FSc ["script","hall","model","turn","cell","number","count","parts","kept","way","spoilt","craft"] ["script"] (zaf zjc):=by walk_at "sc"
structure Bl (K:Fg)(mg:Str->Option Value):Prop where
 ValueError:mg "ValueError"=none
 all:mg "all"=none
 any:mg "any"=none
 dict:mg "dict"=none
 int:mg "int"=none
 isinstance:mg "isinstance"=none
 len:mg "len"=none
 list:mg "list"=none
 max:mg "max"=none
 min:mg "min"=none
 range:mg "range"=none
 sorted:mg "sorted"=none
 tuple:mg "tuple"=none
 zip:mg "zip"=none
 c_NUMBERS:∃ t,mg "NUMBERS"=some (.int 9 t)
 c_FACTORS:∃ t,mg "FACTORS"=some (.int 8 t)
 c_MOST_LINES:∃ t,mg "MOST_LINES"=some (.int 2 t)
 c_MOST_DEEDS:∃ t,mg "MOST_DEEDS"=some (.int 8 t)
 c_LAST_HAND:∃ t,mg "LAST_HAND"=some (.int 3 t)
 c_LAST_NUMBER:∃ t,mg "LAST_NUMBER"=some (.int 99 t)
 c_GREATEST_BY:∃ t,mg "GREATEST_BY"=some (.int 1000 t)
 c_GREATEST:∃ t,mg "GREATEST"=some (.int 1000000000 t)
 c_ASKED_0:∃ t,mg "ASKED_0"=some (.int 4 t)
 c_ASKED_1:∃ t,mg "ASKED_1"=some (.int 5 t)
 c_NEW_0:∃ t,mg "NEW_0"=some (.int 6 t)
 c_NEW_1:∃ t,mg "NEW_1"=some (.int 7 t)
 t_HAND_SPOTS:∃ a,mg "HAND_SPOTS"=some (.ref a)/\∀ H,SqT K H a [.int 1,.int 2,.int 3,.int 4]
 t_LEFT_SPOTS:∃ a,mg "LEFT_SPOTS"=some (.ref a)/\∀ H,SqT K H a [.int 7,.int 8]
 t_LEFT_AS_HANDS:∃ a,mg "LEFT_AS_HANDS"=some (.ref a)/\∀ H,SqT K H a [.int 0,.int 1,.int 2,.int 3,.int 4,.int 5,.int 0,.int 1]
 t_WHOLES:∃ a,mg "WHOLES"=some (.ref a)/\∀ H,SqT K H a [.int 1,.int 2,.int 3,.int 4]
structure Zt (K:Fg)(mg:Str->Option Value)(C:Nat->Addr):Prop where
 c_Craft:Cls K (C 0)
 m_Craft:mg "Craft"=some (.ref (C 0))
 n_Craft_needs:zdE K (C 0) "needs"
 n_Craft_leaves:zdE K (C 0) "leaves"
 n_Craft_deeds:zdE K (C 0) "deeds"
 n_Craft_notes:zdE K (C 0) "notes"
 e_HallError:Err K (C 1) za8
 m_HallError:mg "HallError"=some (.ref (C 1))
 i_HallError:ErrIs2 K (C 1)
 e_BadSheet:Err K (C 2) (.ref (C 1)::za8)
 m_BadSheet:mg "BadSheet"=some (.ref (C 2))
 i_BadSheet:ErrIs2 K (C 2)
 e_NoCraft:Err K (C 3) (.ref (C 1)::za8)
 m_NoCraft:mg "NoCraft"=some (.ref (C 3))
 i_NoCraft:ErrIs2 K (C 3)
 e_Unmet:Err K (C 4) (.ref (C 1)::za8)
 m_Unmet:mg "Unmet"=some (.ref (C 4))
 i_Unmet:ErrIs2 K (C 4)
 e_NotShown:Err K (C 5) (.ref (C 1)::za8)
 m_NotShown:mg "NotShown"=some (.ref (C 5))
 i_NotShown:ErrIs2 K (C 5)
 e_Unfit:Err K (C 6) (.ref (C 1)::za8)
 m_Unfit:mg "Unfit"=some (.ref (C 6))
 i_Unfit:ErrIs2 K (C 6)
 c_Hall:Cls K (C 7)
 m_Hall:mg "Hall"=some (.ref (C 7))
 n_Hall_laid:zdE K (C 7) "laid"
 n_Hall_vouched:zdE K (C 7) "vouched"
 nd:[C 1,C 2,C 3,C 4,C 5,C 6].Nodup
section
variable {P:Program}{w:World}{K:Fg}{mg:Str->Option Value}{b8:Heap}{f:Addr}{fd:FuncData}(B:Bl K mg) {C:Nat->Addr}(Z:Zt K mg C)
inductive Q7 (K:Fg)(vs:List V)(H:Hp)(Q:VK)(E:XK):Prop
 | mk (a:Addr) (ls:List (List Int)):vs=[.ref a]->Rep K H (zaq ls) (.ref a)->ls.length<=1000->(∀ v H',Same H H'->New H H' (zaq ls) v->Q v H')->Q7 K vs H Q E
include B Z in
theorem zgG (F:Fun K "copied_lines" "copied_lines" zb7 f fd)(m:mg "copied_lines"=some (.ref f)):Fn P w K mg b8 "copied_lines" ["lines"] 1 (Q7 K):=by
 refine Fn.of (k:=0) F zgB m (λ_ _ _ _ _ _ us hl=>(by obtain⟨_,rfl⟩:=len1 hl;rfl)) (λvs H Q E h=>?_) (λcdv A outer s H vs Q E hr h=>?_)
 ·first
  | (obtain⟨_,_,rfl,_⟩:=h;rfl)
 obtain⟨a,ls,rfl,hA,hl,q⟩:=h
 refine⟨_,(zai (zan (zaX rfl (COk.m (sc0:=zaf zb7) (N:=["lines"]) (N':=["lines","line"]) (ms:=[false,true])) (zaT K (pv 0)) (λ_ _ _ _ _=>(zas (i:=1) (ndS (N:=["lines","line"])) rfl (Or.inl rfl))) (λ_ _ _ _ _=>zaD) (λ_ _ _ _ _=>(zc7 (zlS K) rfl B.list L2.zcx (zaa (pv 1) zab)))))),?_⟩
 unfold zaq Rep at hA
 obtain⟨a',xs,e,hA,hx⟩:=hA
 cases e
 have lx:=hx.length
 rw[zlm] at lx
 ac_rfl
 refine⟨a,rfl,⟨_,hA⟩,?_⟩
 refine zaI (zaS hA) (ls.map nums) (by rw[zlm];omega) (zal (by omega)) (λj x' d H4 R hj hd s4 hx' hR=>?_) (λv H4 s4 n4=>?_)
 ·obtain⟨d2,hd2,hrx⟩:=Reps.get' hx hx'
  rw[hd2] at hd;cases hd
  rw[zgm] at hd2
  obtain⟨l,hl,rfl⟩:=zme.mp hd2
  obtain⟨xa,rfl,hxa⟩:=za3.mp (Rep.same s4 _ hrx)
  ac_rfl
  refine zhK (.inl hxa) λp hp=>?_
  exact hR _ _ (zag hp _) (New.iif.mpr ⟨p,rfl,hp,zad⟩)
 exact q _ _ s4 n4
inductive Q9 (K:Fg)(vs:List V)(H:Hp)(Q:VK)(E:XK):Prop
 | mk (v:V) (d:D):vs=[v]->zc0 H d v->(∀ v' H',Same H H'->New H H' d v'->Q v' H')->Q9 K vs H Q E
include B Z in
theorem zgV (F:Fun K "copied_deed" "copied_deed" zcj f fd)(m:mg "copied_deed"=some (.ref f)):Fn P w K mg b8 "copied_deed" ["deed"] 1 (Q9 K):=by
 refine Fn.of (k:=0) F zgS m (λ_ _ _ _ _ _ us hl=>(by obtain⟨_,rfl⟩:=len1 hl;rfl)) (λvs H Q E h=>?_) (λcdv A outer s H vs Q E hr h=>?_)
 ·first
  | (obtain⟨_,_,rfl,_⟩:=h;rfl)
 obtain⟨v,d,rfl,hd,q⟩:=h
 refine⟨_,(zai (zan (zc7 (zoI K) rfl B.tuple L2.zkD (zcy (zaX rfl (COk.m (sc0:=zaf zcj) (N:=["deed"]) (N':=["deed","part"]) (ms:=[false,true])) (zhi K (pv 0)) (λ_ _ _ _ _=>(zas (i:=1) (ndS (N:=["deed","part"])) rfl (Or.inl rfl))) (λ_ _ _ _ _=>zaD) (λ_ _ _ _ _=>(zjV (zbP (zar (zne K) rfl B.isinstance L2.zaG (zaa (pv 1) (zaa (zfX (v:=.ty "list") rfl B.list L2.zcx rfl) zab)))) (zc7 (zlS K) rfl B.list L2.zcx (zaa (pv 1) zab)) (pv 1)))) zab)))),?_⟩
 obtain⟨t,xs,ds,rfl,rfl,ht,hl,h8,hp⟩:=hd
 ac_rfl
 refine⟨t,rfl,⟨_,SqT.of ht⟩,?_⟩
 refine zaI (zeg (SqT.of ht)) ds hl (zal (by omega)) (λj x d H1 R hj hd s1 hx hR=>?_) (λv H1 s1 n1=>?_)
 ·have part:=(hp j d x hd hx).sq s1.sq
  ac_rfl
  rcases part with ⟨i,rfl,rfl⟩ | ⟨i,rfl,rfl⟩ | ⟨b,l,rfl,rfl,hb⟩ | ⟨b,i,k,rfl,rfl,hb⟩
  ·refine zgP (.int i) zfz ?_
   ac_rfl
   exact hR _ _ (Same.refl _) New.int
  ·refine zgP (.str i) zfA ?_
   ac_rfl
   exact hR _ _ (Same.refl _) New.str
  ·refine zgP (.lst hb) zfP ?_
   ac_rfl
   refine zhK (.inl (SqL.of hb)) λp hp'=>?_
   exact hR _ _ (zag hp' _) (New.iif.mpr ⟨p,rfl,hp',zad⟩)
  ·refine zgP (.tup hb) zel ?_
   ac_rfl
   exact hR _ _ (Same.refl _) ⟨[],RepF.pair hb,List.nodup_nil,λ_ m=>by cases m⟩
 obtain⟨la,vs,rfl,la0,la1,fp,f1,f2,f3⟩:=New.news n1
 ac_rfl
 refine zni (SqL.of la1) λp hp'=>?_
 have s2:=zag hp' (.tup vs)
 exact q _ _ (s1.trans s2) (New.tup (zah.sq s2.sq ds f1) f2 f3 zad)
inductive Q6 (K:Fg)(C:Nat->Addr)(vs:List V)(H:Hp)(Q:VK)(E:XK):Prop
 | mk (p dx:Addr) (v1 v2 v3 v4:V) (needs leaves:List (List Int)) (deeds:List D) (notes:List (List (List Int))) (a3 a4:Addr) (dvs nvs:List V):vs=[.ref p,v1,v2,v3,v4]->H p=some (.ins (C 0) dx [])->Rep K H (zaq needs) v1->Rep K H (zaq leaves) v2->v3=.ref a3->SqL K H a3 dvs->v4=.ref a4->SqL K H a4 nvs->needs.length<=1000->leaves.length<=1000->deeds.length<=1000->notes.length<=1000->deeds.length=dvs.length->notes.length=nvs.length->(∀ (i:Nat) d x,deeds[i]?=some d->dvs[i]?=some x->zc0 H d x)->(∀ (i:Nat) ls x,notes[i]?=some ls->nvs[i]?=some x->ls.length<=1000/\Rep K H (zaq ls) x)->(∀ H' w1 w2 w3 w4,(∀ b o,H b=some o->b≠p->H' b=some o)->H' p=some (.ins (C 0) dx (flds w1 w2 w3 w4))->News H H' (zjF needs leaves deeds notes) [w1,w2,w3,w4]->Q .non H')->Q6 K C vs H Q E
include B Z in
theorem znD (Q8:Fn P w K mg b8 "copied_lines" ["lines"] 1 (Q7 K))(Qa:Fn P w K mg b8 "copied_deed" ["deed"] 1 (Q9 K))(F:Fun K "__init__" "Craft.__init__" zbk f fd)(M:Mk K (C 0) f):Mkr P w K mg b8 "Craft" (C 0) ["self","needs","leaves","deeds","notes"] 2 (Q6 K C):=by
 refine⟨f,fd,M,F.ok (k:=1) zfn (λvs H Q E h=>?_) (λcdv A outer s H vs Q E hr h=>?_),F.binds λ_ _ _ _ _ _ us hl=>(by obtain⟨_,_,_,_,_,rfl⟩:=len5 hl;rfl),Z.m_Craft⟩
 ·first
  | (obtain⟨_,_,_,_,_,_,_,_,_,_,_,_,_,_,rfl,_⟩:=h;rfl)
 obtain⟨p,dx,v1,v2,v3,v4,needs,leaves,deeds,notes,a3,a4,dvs,nvs,rfl,hp,r1,r2,rfl,h3,rfl,h4,l1,l2,l3,l4,e3,e4,dr,nr,q⟩:=h
 refine⟨_,(zae (zhb (pv 0) (zak Q8 hr rfl (zaa (pv 1) zab)) rfl)
   (zae (zhb (pv 0) (zak Q8 hr rfl (zaa (pv 2) zab)) rfl)
   (zae (zhb (pv 0) (zaX rfl (COk.m (sc0:=zaf zbk) (N:=["self","needs","leaves","deeds","notes"]) (N':=["self","needs","leaves","deeds","notes","deed"]) (ms:=[false,false,false,false,false,true])) (zaT K (pv 3)) (λ_ _ _ _ _=>(zas (i:=5) (ndS (N:=["self","needs","leaves","deeds","notes","deed"])) rfl (Or.inl rfl))) (λ_ _ _ _ _=>zaD) (λ_ _ _ _ _=>(zak Qa hr rfl (zaa (pv 5) zab)))) rfl)
   (zai (zhb (pv 0) (zaX rfl (COk.m (sc0:=zaf zbk) (N:=["self","needs","leaves","deeds","notes"]) (N':=["self","needs","leaves","deeds","notes","lines"]) (ms:=[false,false,false,false,false,true])) (zaT K (pv 4)) (λ_ _ _ _ _=>(zas (i:=5) (ndS (N:=["self","needs","leaves","deeds","notes","lines"])) rfl (Or.inl rfl))) (λ_ _ _ _ _=>zaD) (λ_ _ _ _ _=>(zak Q8 hr rfl (zaa (pv 5) zab)))) rfl))))),?_⟩
 obtain⟨b1,rfl⟩:∃ b,v1=.ref b:=by unfold zaq Rep at r1;obtain⟨a,_,e,_⟩:=r1;exact⟨a,e⟩
 obtain⟨b2,rfl⟩:∃ b,v2=.ref b:=by unfold zaq Rep at r2;obtain⟨a,_,e,_⟩:=r2;exact⟨a,e⟩
 ac_rfl
 -- self.needs
 refine⟨b1,needs,rfl,r1,l1,λw1 H1 s1 n1=>?_⟩
 ac_rfl
 refine⟨p,(C 0),dx,[],rfl,s1 _ _ hp,Z.c_Craft,Z.n_Craft_needs,by show 0<1000;decide,?_⟩
 have k1:Sq H (upd H1 p (.ins (C 0) dx (putF "needs" w1 []))):=s1.sq.trans (zgh (s1 _ _ hp) rfl)
 have u1:News H (upd H1 p (.ins (C 0) dx (putF "needs" w1 []))) [zaq needs] [w1]:=(News.nil.snoc' (H:=H) (H1:=H) (Same.refl H).fr s1 n1).sq (zgh (s1 _ _ hp) rfl)
 have f1:Free H (upd H1 p (.ins (C 0) dx (putF "needs" w1 []))):=s1.fr.trans zeP
 -- self.leaves
 ac_rfl
 refine⟨b2,leaves,rfl,Rep.sq k1 _ r2,l2,λw2 H2 s2 n2=>?_⟩
 have p2:=s2 _ _ (zad (H:=H1) (a:=p) (o:=.ins (C 0) dx (putF "needs" w1 [])))
 ac_rfl
 refine⟨p,(C 0),dx,_,rfl,p2,Z.c_Craft,Z.n_Craft_leaves,Nat.lt_of_lt_of_le (zdz (n:=1) (by decide)) (by decide),?_⟩
 have k2:=k1.trans (s2.sq.trans (zgh (o:=.ins (C 0) dx (putF "leaves" w2 (putF "needs" w1 []))) p2 rfl))
 have u2:=(u1.snoc' f1 s2 n2).sq (zgh (o:=.ins (C 0) dx (putF "leaves" w2 (putF "needs" w1 []))) p2 rfl)
 have f2:Free H (upd H2 p (.ins (C 0) dx (putF "leaves" w2 (putF "needs" w1 [])))):=f1.trans (s2.fr.trans zeP)
 -- self.deeds
 ac_rfl
 refine⟨a3,rfl,⟨_,k2.lst h3⟩,?_⟩
 refine zaI (zaS (k2.lst h3)) deeds e3 (zal (by omega)) (λj x d H3 R hj hd s3 hx hR=>?_) (λw3 H3 s3 n3=>?_)
 ·ac_rfl
  refine⟨x,d,rfl,(dr j d x hd hx).sq (k2.trans s3.sq),λv' H4 s4 n4=>?_⟩
  exact hR _ _ s4 n4
 have p3:=s3 _ _ (zad (H:=H2) (a:=p) (o:=.ins (C 0) dx (putF "leaves" w2 (putF "needs" w1 []))))
 ac_rfl
 refine⟨p,(C 0),dx,_,rfl,p3,Z.c_Craft,Z.n_Craft_deeds,Nat.lt_of_lt_of_le (zdz (n:=2) (zdz (n:=1) (by decide))) (by decide),?_⟩
 have k3:=k2.trans (s3.sq.trans (zgh (o:=.ins (C 0) dx (putF "deeds" w3 (putF "leaves" w2 (putF "needs" w1 [])))) p3 rfl))
 have u3:=(u2.snoc' f2 s3 n3).sq (zgh (o:=.ins (C 0) dx (putF "deeds" w3 (putF "leaves" w2 (putF "needs" w1 [])))) p3 rfl)
 have f3:Free H (upd H3 p (.ins (C 0) dx (putF "deeds" w3 (putF "leaves" w2 (putF "needs" w1 []))))):=f2.trans (s3.fr.trans zeP)
 -- self.notes
 ac_rfl
 refine⟨a4,rfl,⟨_,k3.lst h4⟩,?_⟩
 refine zaI (zaS (k3.lst h4)) (notes.map zaq) (by rw[zlm];exact e4) (zal (by omega)) (λj x d H4 R hj hd s4 hx hR=>?_) (λw4 H4 s4 n4=>?_)
 ·rw[zgm] at hd
  obtain⟨ls,hls,rfl⟩:=zme.mp hd
  obtain⟨hz,hr2⟩:=nr j ls x hls hx
  have hr3:=Rep.sq (k3.trans s4.sq) _ hr2
  obtain⟨b,rfl⟩:∃ b,x=.ref b:=by unfold zaq Rep at hr3;obtain⟨a,_,e,_⟩:=hr3;exact⟨a,e⟩
  ac_rfl
  refine⟨b,ls,rfl,hr3,hz,λv' H5 s5 n5=>?_⟩
  exact hR _ _ s5 n5
 have p4:=s4 _ _ (zad (H:=H3) (a:=p) (o:=.ins (C 0) dx (putF "deeds" w3 (putF "leaves" w2 (putF "needs" w1 [])))))
 ac_rfl
 refine⟨p,(C 0),dx,_,rfl,p4,Z.c_Craft,Z.n_Craft_notes,Nat.lt_of_lt_of_le (zdz (n:=3) (zdz (n:=2) (zdz (n:=1) (by decide)))) (by decide),?_⟩
 have u4:=(u3.snoc' f3 s4 n4).sq (zgh (o:=.ins (C 0) dx (putF "notes" w4 (putF "deeds" w3 (putF "leaves" w2 (putF "needs" w1 []))))) p4 rfl)
 refine q _ w1 w2 w3 w4 (λb o e hb=>?_) zad u4
 rw[zam hb]
 refine s4 _ _ ?_
 rw[zam hb]
 refine s3 _ _ ?_
 rw[zam hb]
 refine s2 _ _ ?_
 rw[zam hb]
 exact s1 _ _ e
def zd9 (K:Fg):Sp:=λvs H Q _=>∃ i:Int,vs=[.int i]/\∀ v H',Same H H'->New H H' (nums (zaC i)) v->Q v H'
theorem zcS {H:Hp}{Q:VK}{E:XK}{i:Int}(q:∀ v H',Same H H'->New H H' (nums (zaC i)) v->Q v H'):zd9 K [.int i] H Q E:=⟨i,rfl,q⟩
include B Z in
theorem zo2 (F:Fun K "bare" "bare" zjU f fd)(m:mg "bare"=some (.ref f)):Fn P w K mg b8 "bare" ["i"] 1 (zd9 K):=by
 refine Fn.of (k:=0) F zo1 m (λ_ _ _ _ _ _ us hl=>(by obtain⟨_,rfl⟩:=len1 hl;rfl)) (λvs H Q E h=>?_) (λcdv A outer s H vs Q E hr h=>?_)
 ·first
  | (obtain⟨_,rfl,_⟩:=h;rfl)
 obtain⟨i,rfl,q⟩:=h
 refine⟨_,(zai (zan (zat (zaF K) (zaE (zaj zac zab)) (zaX rfl (COk.m (sc0:=zaf zjU) (N:=["i"]) (N':=["i","factor"]) (ms:=[false,true])) (zbs rfl B.range (zaa (za1 rfl B.c_FACTORS) zab)) (λ_ _ _ _ _=>(zas (i:=1) (ndS (N:=["i","factor"])) rfl (Or.inl rfl))) (λ_ _ _ _ _=>zaD) (λ_ _ _ _ _=>(zjV (zaz (k_eq K hr) (pv 1) (pv 0) (zaw _)) zac zac)))))),?_⟩
 ac_rfl
 refine⟨by decide,λp hp=>?_⟩
 ac_rfl
 refine zch (by decide) (by decide) ?_
 refine zaI (n:=8) zbL (((List.range 8).map λ(k:Nat)=>(if (0+(k:Int))=i then 1 else 0:Int)).map D.int) (by simp) (by decide) (λj x d H1 R hj hd s1 hx hR=>?_) (λv H1 s1 n1=>?_)
 ·subst hx
  rw[List.map_map] at hd
  have hd':=zdW hd
  subst hd'
  ac_rfl
  refine ite2 (λe=>?_) (λe=>?_)
  ·have e':0+(j:Int)=i:=of_decide_eq_true e
   ac_rfl
   refine hR _ _ (Same.refl _) ?_
   simp only[Function.comp,if_pos e']
   exact New.int
  ·have e':¬ 0+(j:Int)=i:=of_decide_eq_false (Bool.eq_false_iff.mpr e)
   ac_rfl
   refine hR _ _ (Same.refl _) ?_
   simp only[Function.comp,if_neg e']
   exact New.int
 obtain⟨la,rfl,la0,la1⟩:=New.iif.mp n1
 have s2:=(zag hp (.lst [.int 0])).trans s1
 refine zbe (s1 _ _ zad) la1 (by simp;decide) λr hr'=>?_
 refine q _ _ (s2.trans (zag hr' _)) (New.iif.mpr ⟨r,rfl,s2.free hr',?_⟩)
 rw[zad]
 rfl
inductive Q1 (K:Fg)(vs:List V)(H:Hp)(Q:VK)(E:XK):Prop
 | mk (a b:Addr) (ls:List (List Int)) (ws:List Int):vs=[.ref a,.ref b]->Rep K H (.lst (ls.map nums)) (.ref a)->SqL K H b (ws.map V.int)->ls.length=ws.length->ls.length<=1000->(∀ l∈ls,l.length=9)->znA ls ws->(∀ v H',Same H H'->New H H' (nums (zb3 ls ws)) v->Q v H')->Q1 K vs H Q E
include B Z in
theorem zmz (F:Fun K "summed" "summed" zfL f fd)(m:mg "summed"=some (.ref f)):Fn P w K mg b8 "summed" ["lines","weights"] 1 (Q1 K):=by
 refine Fn.of (k:=0) F zd6 m (λ_ _ _ _ _ _ us hl=>(by obtain⟨_,_,rfl⟩:=len2 hl;rfl)) (λvs H Q E h=>?_) (λcdv A outer s H vs Q E hr h=>?_)
 ·first
  | (obtain⟨_,_,_,_,rfl,_⟩:=h;rfl)
 obtain⟨a,b,ls,ws,rfl,hA,hB,hl,h1000,h9,ok,q⟩:=h
 refine⟨_,(zae (zau (i:=2) zd6.nd rfl (Or.inl rfl) (zat zaV (zaE (zaj zac zab)) (za1 rfl B.c_NUMBERS)))
   (zae (zci PassesOwn.never rfl (zlT K rfl B.zip (zaa (pv 0) (zaa (pv 1) zab))) (zlU K (n:=2) rfl (zec (zas (i:=3) zd6.nd rfl (Or.inl rfl)) (zec (zas (i:=4) zd6.nd rfl (Or.inr rfl)) zjf))) (zai (zc8 (i:=2) zd6.nd rfl rfl rfl (COk.m (sc0:=zaf zfL) (N:=["lines","weights","total","line","weight"]) (N':=["lines","weights","total","line","weight","so_far","number"]) (ms:=[false,false,false,false,false,true,true])) (zlT K rfl B.zip (zaa (pv 2) (zaa (pv 3) zab))) (λ_ _ _ _ _=>(zlU K (n:=2) rfl (zec (zas (i:=5) (ndS (N:=["lines","weights","total","line","weight","so_far","number"])) rfl (Or.inl rfl)) (zec (zas (i:=6) (ndS (N:=["lines","weights","total","line","weight","so_far","number"])) rfl (Or.inl rfl)) zjf)))) (λ_ _ _ _ _=>zaD) (λ_ _ _ _ _=>(zat (zaF K) (pv 5) (zat zaV (pv 6) (pv 4)))))))
   (zai (zan (pv 2))))),?_⟩
 unfold Rep at hA
 obtain⟨a',xs,e,hA,hx⟩:=hA
 cases e
 have lx:=hx.length
 rw[zlm] at lx
 ac_rfl
 refine⟨by decide,λp hp=>?_⟩
 ac_rfl
 refine .inr ⟨p,9,[.int 0],rfl,rfl,zad,by decide,by decide,by decide,λt ht=>?_⟩
 have s0:=(zag hp (.lst [.int 0])).trans (zag ht (.lst (List.replicate (9:Int).toNat [V.int 0]).flatten))
 ac_rfl
 refine⟨a,b,rfl,⟨_,s0.seq hA⟩,⟨_,s0.seq hB⟩,?_⟩
 refine zgg (n:=ws.length) (zhJ (s0.seq hA) (s0.seq hB) (by rw[zlm];omega)) (λi σ H2=>∃ (ta:Addr) (x y:Option V),σ=[some (.ref a),some (.ref b),some (.ref ta),x,y]/\Same (upd (upd H p (.lst [.int 0])) t (.lst (List.replicate (9:Int).toNat [V.int 0]).flatten)) H2/\H ta=none/\H2 ta=some (.lst ((ziJ ((ls.zip ws).take i) (List.replicate 9 0)).map V.int)))
  ⟨t,none,none,rfl,Same.refl _,(zag hp _).free ht,by rw[zad];rfl⟩ (λi σ H2 ⟨_,_,_,_,e,_⟩=>e) ?_ ?_
 ·rintro i v σ H2 H3 hi ⟨ta,x,y,rfl,s2,ta0,ta1⟩ s3 ⟨T,u,z,rfl,hT,eu,ez⟩
  have il:i<ls.length:=by omega
  rw[zgm] at ez
  obtain⟨w',hw,rfl⟩:=zme.mp ez
  obtain⟨dl,hdl,hru⟩:=hx.get' eu
  rw[zgm,List.getElem?_eq_getElem il] at hdl
  cases hdl
  obtain⟨lu,rfl,hlu⟩:=za3.mp (Rep.same (s0.trans (s2.trans s3)) _ hru)
  have l9:=h9 ls[i] (List.getElem_mem il)
  have ft9:(ziJ ((ls.zip ws).take i) (List.replicate 9 0)).length=9:=zdZ _ _ (by simp) λp hp=>zl8 h9 p (List.mem_of_mem_take hp)
  refine⟨T,_,rfl,SqT.of hT,rfl,⟨_,_,rfl,?_⟩⟩
  refine⟨_,_,rfl,?_⟩
  refine⟨rfl,?_⟩
  ac_rfl
  refine⟨ta,lu,rfl,⟨_,SqL.of (s3 _ _ ta1)⟩,⟨_,hlu⟩,?_⟩
  refine zaI (n:=9) (zhJ (SqL.of (s3 _ _ ta1)) hlu (by rw[zlm,zlm,ft9,l9];rfl)) ((addW w' (ziJ ((ls.zip ws).take i) (List.replicate 9 0)) ls[i]).map D.int) (by rw[zlm];exact zgo ft9 l9) (by decide) (λj x' d H4 R hj hd s4 hx' hR=>?_) (λv H4 s4 n4=>?_)
  ·obtain⟨T2,u2,z2,rfl,hT2,e1,e2⟩:=hx'
   rw[zgm] at e1 e2
   obtain⟨s',hs',rfl⟩:=zme.mp e1
   obtain⟨n',hn',rfl⟩:=zme.mp e2
   have ed:d=.int (s' + n' * w'):=by
    unfold addW at hd
    rw[zgm,List.getElem?_zipWith,hs',hn'] at hd
    cases hd
    rfl
   subst ed
   refine⟨T2,_,rfl,SqT.of hT2,rfl,⟨_,_,rfl,?_⟩⟩
   refine⟨_,_,rfl,?_⟩
   refine⟨rfl,?_⟩
   ac_rfl
   refine zj5 (ok i ls[i] w' (by simp) hw n' (zmg hn')) ?_
   ac_rfl
   exact hR _ _ (Same.refl _) New.int
  obtain⟨na,rfl,na0,na1⟩:=New.iif.mp n4
  ac_rfl
  refine⟨na,_,_,rfl,s2.trans (s3.trans s4),(s0.trans (s2.trans s3)).free na0,?_⟩
  rw[na1,List.take_add_one,zoX (List.getElem?_eq_getElem il) hw,zkL]
 ·rintro σ H2 ⟨ta,x,y,rfl,s2,ta0,ta1⟩
  ac_rfl
  refine q _ _ (s0.trans s2) (New.iif.mpr ⟨ta,rfl,ta0,?_⟩)
  rw[ta1,List.take_of_length_le (by rw[List.length_zip];omega)]
  rfl
inductive Q4 (K:Fg)(vs:List V)(H:Hp)(Q:VK)(E:XK):Prop
 | mk (a b:Addr) (c:Int) (fs:List Int) (ls:List (List Int)):vs=[.ref a,.ref b]->SqL K H a ((c::fs).map V.int)->Rep K H (.lst (ls.map nums)) (.ref b)->fs.length=8->ls.length=8->(∀ l∈ls,l.length=9)->znA ls fs->(∀ v H',Same H H'->New H H' (nums (zaR (c::fs) ls)) v->Q v H')->Q4 K vs H Q E
theorem znE (c:Int)(fs:List Int):cutV ((c::fs).map V.int) (some 1) none=fs.map V.int:=by
 unfold cutV
 rw[show HT.sIx ((c::fs).map V.int).length 0 (some 1)=1 by rw[show (1:Int)=((1:Nat):Int) by rfl,HT.sIx_nat];simp]
 rw[HT.sIx_none]
 simp[List.take_of_length_le]
include B Z in
theorem zmA (Q3:Fn P w K mg b8 "summed" ["lines","weights"] 1 (Q1 K))(F:Fun K "turned" "turned" zhv f fd)(m:mg "turned"=some (.ref f)):Fn P w K mg b8 "turned" ["line","eight"] 2 (Q4 K):=by
 refine Fn.of (k:=1) F ziR m (λ_ _ _ _ _ _ us hl=>(by obtain⟨_,_,rfl⟩:=len2 hl;rfl)) (λvs H Q E h=>?_) (λcdv A outer s H vs Q E hr h=>?_)
 ·first
  | (obtain⟨_,_,_,_,_,rfl,_⟩:=h;rfl)
 obtain⟨a,b,c,fs,ls,rfl,hA,hB,lf,ll,h9,ok,q⟩:=h
 refine⟨_,(zae (zau (i:=2) ziR.nd rfl (Or.inl rfl) (zak Q3 hr rfl (zaa (pv 1) (zaK (zhC (k_sl K) (pv 0) (zjj zac) zji) zab))))
   (zae (zla (zat (zaF K) (zaH (k_ix K) (pv 2) zac (λ_ _=>rfl)) (zaH (k_ix K) (pv 0) zac (λ_ _=>rfl))) (zk9 (pv 2) zac zhD))
   (zai (zan (pv 2))))),?_⟩
 ac_rfl
 refine .inl ⟨a,_,rfl,hA,λp hp=>?_⟩
 rw[znE]
 have s1:=zag hp (.lst (fs.map V.int))
 ac_rfl
 refine⟨b,p,ls,fs,rfl,Rep.same s1 _ hB,SqL.of zad,by omega,by omega,h9,ok,λv H2 s2 n2=>?_⟩
 obtain⟨ta,rfl,ta0,ta1⟩:=New.iif.mp n2
 have s3:=s1.trans s2
 obtain⟨x,r,hs⟩:∃ x r,zb3 ls fs=x::r:=by
  have:=zaZ (ws:=fs) h9
  cases e:zb3 ls fs with
  | nil=>rw[e] at this;simp at this
  | cons x r=>exact⟨x,r,rfl⟩
 rw[hs] at ta1
 ac_rfl
 refine zbE (SqL.of ta1) (v:=.int x) zbt ?_
 ac_rfl
 refine zbE (s3.seq hA) (v:=.int c) zbt ?_
 ac_rfl
 refine zj6 ta1 ix0 ?_
 ac_rfl
 have ta2:=s1.free ta0
 refine q _ _ (λd o e=>?_) (New.iif.mpr ⟨ta,rfl,ta2,?_⟩)
 ·rw[zam (zax e ta2)];exact s3 _ _ e
 ·rw[zad]
  unfold zaR
  rw[show (c::fs).tail=fs by rfl,hs]
  rfl
theorem zgH {K:Fg}{C:Nat->Addr}{H:Hp}{p dx a3 a4:Addr}{v1 v2:V}{c:Cr}{dvs nvs:List V}{Q:VK}{E:XK}(np:H p=none)(nd:H dx=none)(r1:Rep K H (zaq c.needs) v1)(r2:Rep K H (zaq c.leaves) v2)(h3:SqL K H a3 dvs)(h4:SqL K H a4 nvs)(dr:zd4 H c.deeds dvs)(nr:R2 (λls x=>Rep K H (zaq ls) x) c.notes nvs)(g:c.Nine)
  (q:∀ H1 f,Same H H1->zbr (C 0) H1 p c f->(∀ b∈f,H b=none)->f.Nodup->Q .non H1):Q6 K C [.ref p,v1,v2,.ref a3,.ref a4] (upd (upd H dx (.own p)) p (.ins (C 0) dx [])) Q E:=by
 have sm:Same H (upd (upd H dx (.own p)) p (.ins (C 0) dx [])):=λb o e=>by
  rw[zam (zax e np),zam (zax e nd)];exact e
 have ld:=dr.1
 have ln:=nr.1
 have e1:=g.d
 have e2:=g.n
 have e3:=g.l
 have e4:=g.o
 refine⟨p,dx,v1,v2,.ref a3,.ref a4,c.needs,c.leaves,c.deeds.map toD,c.notes,a3,a4,dvs,nvs,rfl,zad,Rep.same sm _ r1,Rep.same sm _ r2,rfl,sm.seq h3,rfl,sm.seq h4,by omega,by omega,by rw[zlm];omega,by omega,by rw[zlm];exact ld,ln,λi d x q1 q2=>?_,λi ls x q1 q2=>?_,λH1 w1 w2 w3 w4 keep hp nw=>?_⟩
 ·rw[zgm] at q1
  obtain⟨d',hd',rfl⟩:=zme.mp q1
  exact (dr.2 i d' x hd' q2).sq sm.sq
 ·exact⟨by have:=(g.o9 ls (zmg q1)).1;omega,Rep.same sm _ (nr.2 i ls x q1 q2)⟩
 ·have s1:Same H H1:=λb o e=>keep b o (sm _ _ e) (zax e np)
  obtain⟨f,k1,k2,k3⟩:=nw
  have pf:p∉f:=λz=>by have:=k3 p z;rw[zad] at this;cases this
  refine q H1 (p::f) s1 ⟨dx,w1,w2,w3,w4,f,rfl,hp,k1⟩ (λb hb=>?_) (List.nodup_cons.mpr ⟨pf,k2⟩)
  rcases List.mem_cons.mp hb with rfl | hb
  ·exact np
  ·exact sm.fr b (k3 b hb)
theorem znF {a1 a2 a3 a4 b1 b2 b3 b4:V}(h:flds a1 a2 a3 a4=flds b1 b2 b3 b4):a1=b1/\a2=b2/\a3=b3/\a4=b4:=by
 refine⟨?_,?_,?_,?_⟩
 ·have:=zbH a1 a2 a3 a4;rw[h,zbH] at this;injection this with this;exact this.symm
 ·have:=zbm a1 a2 a3 a4;rw[h,zbm] at this;injection this with this;exact this.symm
 ·have:=zbq a1 a2 a3 a4;rw[h,zbq] at this;injection this with this;exact this.symm
 ·have:=zbI a1 a2 a3 a4;rw[h,zbI] at this;injection this with this;exact this.symm
inductive Qb (K:Fg)(C:Nat->Addr)(vs:List V)(H:Hp)(Q:VK)(E:XK):Prop
 | mk (p:Addr) (c:Cr):vs=[.ref p]->zdI K (C 0) H p c.needs c.leaves c.deeds c.notes->c.Nine->(∀ q f H',Same H H'->zbr (C 0) H' q c f->(∀ b∈f,H b=none)->f.Nodup->Q (.ref q) H')->Qb K C vs H Q E
include B Z in
theorem zgI (M_Craft:Mkr P w K mg b8 "Craft" (C 0) ["self","needs","leaves","deeds","notes"] 2 (Q6 K C))(F:Fun K "copied_craft" "copied_craft" zcV f fd)(m:mg "copied_craft"=some (.ref f)):Fn P w K mg b8 "copied_craft" ["craft"] 4 (Qb K C):=by
 refine Fn.of (k:=3) F zgC m (λ_ _ _ _ _ _ us hl=>(by obtain⟨_,rfl⟩:=len1 hl;rfl)) (λvs H Q E h=>?_) (λcdv A outer s H vs Q E hr h=>?_)
 ·first
  | (obtain⟨_,_,rfl,_⟩:=h;rfl)
 obtain⟨p,c,rfl,hT,g,q⟩:=h
 refine⟨_,(zai (zan (zoJ M_Craft hr rfl (zaO (zaU K (pv 0) rfl) (zaO (zaU K (pv 0) rfl) (zaO (zaU K (pv 0) rfl) (zaO (zaU K (pv 0) rfl) zab))))))),?_⟩
 obtain⟨⟨dx,w1,w2,w3,w4,hp,r1,r2,r3,r4⟩,dx',u1,u2,b3,u4,dvs,hp',hb3,hD⟩:=hT
 have e:=hp
 rw[hp'] at e
 injection e with e
 injection e with _ e0 e
 obtain⟨rfl,rfl,rfl,rfl⟩:=znF e
 unfold Rep at r4
 obtain⟨b4,nvs,rfl,q4,z4⟩:=r4
 have z4l:=z4.length
 nofun
 refine⟨p,(C 0),dx,_,_,rfl,hp,Z.c_Craft,Z.n_Craft_needs,zbH _ _ _ _,?_⟩
 nofun
 refine⟨p,(C 0),dx,_,_,rfl,hp,Z.c_Craft,Z.n_Craft_leaves,zbm _ _ _ _,?_⟩
 nofun
 refine⟨p,(C 0),dx,_,_,rfl,hp,Z.c_Craft,Z.n_Craft_deeds,zbq _ _ _ _,?_⟩
 nofun
 refine⟨p,(C 0),dx,_,_,rfl,hp,Z.c_Craft,Z.n_Craft_notes,zbI _ _ _ _,?_⟩
 nofun
 intro y dy hy hdy ndy
 refine zgH (c:=c) hy hdy r1 r2 (SqL.of hb3) q4 hD ⟨by simpa using z4l,λi ls x e1 e2=>?_⟩ g λH1 f s1 hC hf fn=>⟨rfl,q y f H1 s1 hC hf fn⟩
 obtain⟨d,hd,hrx⟩:=Reps.get' z4 e2
 rw[zgm,e1] at hd
 cases hd
 exact hrx
def zcT (deeds:List Dd)(i:Nat):Bool:=match deeds[i]? with
 | some d=>(zc2 d).isSome
 | none=>false
def zfF (deeds:List Dd)(i:Nat):D:=match deeds[i]? with
 | some d=>.int ((zc2 d).getD 0)
 | none=>.int 0
theorem zhu:∀ (deeds:List Dd),((List.range deeds.length).filter (zcT deeds)).map (zfF deeds)=(zaY deeds).map D.int
 | []=>rfl
 | d::ds=>by
  have ih:=zhu ds
  have f:(List.map Nat.succ (List.range ds.length)).filter (zcT (d::ds))=((List.range ds.length).filter (zcT ds)).map Nat.succ:=by
   rw[List.filter_map];rfl
  have g:(((List.range ds.length).filter (zcT ds)).map Nat.succ).map (zfF (d::ds))=(zaY ds).map D.int:=by
   rw[List.map_map,<-ih];rfl
  rw[List.length_cons,List.range_succ_eq_map,List.filter_cons,f]
  unfold zaY at g ⊢
  cases e:zc2 d with
  | none=>
   rw[show zcT (d::ds) 0=false by unfold zcT;simp[e],if_neg (by decide),List.filterMap_cons,e]
   exact g
  | some m=>
   rw[show zcT (d::ds) 0=true by unfold zcT;simp[e],if_pos rfl,List.filterMap_cons,e,zmc,zmc,g,show zfF (d::ds) 0=.int m by unfold zfF;simp[e]]
theorem zmB (deeds:List Dd)(n:Nat)(h:n=deeds.length):((List.range n).filter (zcT deeds)).map (zfF deeds)=(zaY deeds).map D.int:=by
 subst h;exact zhu deeds
inductive Qd (K:Fg)(C:Nat->Addr)(vs:List V)(H:Hp)(Q:VK)(E:XK):Prop
 | mk (p:Addr) (dx b3:Addr) (w1 w2 w4:V) (dvs:List V) (deeds:List Dd):vs=[.ref p]->H p=some (.ins (C 0) dx (flds w1 w2 (.ref b3) w4))->H b3=some (.lst dvs)->zd4 H deeds dvs->deeds.length<=1000->(∀ v H',Same H H'->New H H' (nums (zaY deeds)) v->Q v H')->Qd K C vs H Q E
include B Z in
theorem ziZ (F:Fun K "called_by" "called_by" zdg f fd)(m:mg "called_by"=some (.ref f)):Fn P w K mg b8 "called_by" ["craft"] 1 (Qd K C):=by
 refine Fn.of (k:=0) F ziS m (λ_ _ _ _ _ _ us hl=>(by obtain⟨_,rfl⟩:=len1 hl;rfl)) (λvs H Q E h=>?_) (λcdv A outer s H vs Q E hr h=>?_)
 ·first
  | (obtain⟨_,_,_,_,_,_,_,_,rfl,_⟩:=h;rfl)
 obtain⟨p,dx,b3,w1,w2,w4,dvs,deeds,rfl,hp,hb3,hD,hl,q⟩:=h
 refine⟨_,(zai (zan (zaX rfl (COk.m (sc0:=zaf zdg) (N:=["craft"]) (N':=["craft","deed"]) (ms:=[false,true])) (zaT K (zaU K (pv 0) rfl)) (λ_ _ _ _ _=>(zas (i:=1) (ndS (N:=["craft","deed"])) rfl (Or.inl rfl))) (λ_ _ _ _ _=>(zj3 (zaz (k_eq K hr) (zaH (k_ix K) (pv 1) zac (λ_ _=>rfl)) zca (zaw _)))) (λ_ _ _ _ _=>(zaH (k_ix K) (pv 1) zac (λ_ _=>rfl)))))),?_⟩
 have ld:=hD.1
 ac_rfl
 refine⟨p,(C 0),dx,_,_,rfl,hp,Z.c_Craft,Z.n_Craft_deeds,zbq _ _ _ _,?_⟩
 refine⟨b3,rfl,⟨_,SqL.of hb3⟩,?_⟩
 refine zlO (zaS (SqL.of hb3)) (zcT deeds) (zfF deeds) (zal (by omega)) (λi x H1 R1 R2' hi s1 hx hy hn=>?_) (λv H1 s1 n1=>?_)
 ·have hi':i<deeds.length:=by omega
  have drx:=(hD.2 i deeds[i] x (by simp) hx).sq s1.sq
  have ek:zcT deeds i=(zc2 deeds[i]).isSome:=by unfold zcT;simp[hi']
  have en:zfF deeds i=.int ((zc2 deeds[i]).getD 0):=by unfold zfF;simp[hi']
  generalize deeds[i]=d at drx ek en
  obtain⟨t,xs,rfl,ht⟩:=zmo drx
  nofun
  refine za4 (SqT.of ht) zbt ?_
  nofun
  have ew:decide (zcD d ="call")=zcT deeds i:=by
   rw[ek]
   cases d <;> first | rfl | (unfold zcD zc2;decide +kernel)
  rw[ew]
  cases hk:zcT deeds i with
  | false=>
   rw[if_neg (by decide)]
   exact hn hk _ (Same.refl _)
  | true=>
   rw[if_pos rfl]
   rw[hk] at ek
   cases d with
   | call m g0 g1 t0 t1=>
    obtain⟨t',ys,et,hT2,px⟩:=zce drx
    cases et
    obtain⟨x0,r,rfl,e0,px⟩:=zaB px
    obtain⟨x1,r,rfl,e1,px⟩:=zaB px
    cases zco e1
    nofun
    refine za4 (SqT.of hT2) (v:=.int m) (zaA (j:=1) rfl) ?_
    refine hy hk _ _ (Same.refl _) ?_
    rw[en]
    exact New.int
   | _=>cases ek
 ·ac_rfl
  rw[zmB deeds _ ld.symm] at n1
  exact q _ _ s1 n1
inductive Q24 (K:Fg)(vs:List V)(H:Hp)(Q:VK)(E:XK):Prop
 | mk (a b c:Int):vs=[.int a,.int b,.int c]->Q (.bl (decide (a<=b) && decide (b<=c))) H->Q24 K vs H Q E
theorem zcF {H:Hp}{Q:VK}{E:XK}{a b c:Int}(q:Q (.bl (decide (a<=b) && decide (b<=c))) H):Q24 K [.int a,.int b,.int c] H Q E:=⟨a,b,c,rfl,q⟩
include B Z in
theorem zk1 (F:Fun K "between" "between" zfW f fd)(m:mg "between"=some (.ref f)):Fn P w K mg b8 "between" ["low","number","high"] 1 (Q24 K):=by
 refine Fn.of (k:=0) F zk0 m (λ_ _ _ _ _ _ us hl=>(by obtain⟨_,_,_,rfl⟩:=len3 hl;rfl)) (λvs H Q E h=>?_) (λcdv A outer s H vs Q E hr h=>?_)
 ·first
  | (obtain⟨_,_,_,rfl,_⟩:=h;rfl)
 obtain⟨a,b,c,rfl,q⟩:=h
 refine⟨_,(zai (zan (zmU zmT zmT (pv 0) (pv 1) (pv 2)))),?_⟩
 ac_rfl
 cases h:decide (a<=b) with
 | false=>rw[h] at q;ac_rfl;exact q
 | true=>rw[h] at q;ac_rfl;exact q
def zbX (K:Fg):Sp:=λvs H Q _=>∃ n:Int,vs=[.int n]/\Q (.bl (zd2 n)) H
theorem zjM {H:Hp}{Q:VK}{E:XK}{n:Int}(q:Q (.bl (zd2 n)) H):zbX K [.int n] H Q E:=⟨n,rfl,q⟩
include B Z in
theorem zgJ (Q25:Fn P w K mg b8 "between" ["low","number","high"] 1 (Q24 K))(F:Fun K "small_enough" "small_enough" zcW f fd)(m:mg "small_enough"=some (.ref f)):Fn P w K mg b8 "small_enough" ["number"] 2 (zbX K):=by
 refine Fn.of (k:=1) F zgD m (λ_ _ _ _ _ _ us hl=>(by obtain⟨_,rfl⟩:=len1 hl;rfl)) (λvs H Q E h=>?_) (λcdv A outer s H vs Q E hr h=>?_)
 ·first
  | (obtain⟨_,rfl,_⟩:=h;rfl)
 obtain⟨n,rfl,q⟩:=h
 refine⟨_,(zai (zan (zak Q25 hr rfl (zhO (zeL zcL (za1 rfl B.c_GREATEST)) (zaa (pv 0) (zaa (za1 rfl B.c_GREATEST) zab)))))),?_⟩
 ac_rfl
 refine zcF ?_
 exact q
inductive Q18 (K:Fg)(vs:List V)(H:Hp)(Q:VK)(E:XK):Prop
 | mk (a t:Addr) (l:List Int) (spots:List Nat):vs=[.ref a,.ref t]->SqL K H a (l.map V.int)->SqT K H t (spots.map λ(s:Nat)=>V.int (s:Int))->l.length=9->spots.length<=9->(∀ s∈spots,s<9)->(∀ H',Same H H'->Q (.bl (zdG spots l)) H')->Q18 K vs H Q E
include B Z in
theorem zh1 (Q23:Fn P w K mg b8 "small_enough" ["number"] 2 (zbX K))(F:Fun K "line_right" "line_right" zb8 f fd)(m:mg "line_right"=some (.ref f)):Fn P w K mg b8 "line_right" ["line","nought_spots"] 3 (Q18 K):=by
 refine Fn.of (k:=2) F ze0 m (λ_ _ _ _ _ _ us hl=>(by obtain⟨_,_,rfl⟩:=len2 hl;rfl)) (λvs H Q E h=>?_) (λcdv A outer s H vs Q E hr h=>?_)
 ·first
  | (obtain⟨_,_,_,_,rfl,_⟩:=h;rfl)
 obtain⟨a,t,l,spots,rfl,hA,hT,l9,ls9,hs,q⟩:=h
 refine⟨_,(zae (zau (i:=2) ze0.nd rfl (Or.inl rfl) (zar (ziA K rfl) rfl B.all L2.zcP (zcy (zaX rfl (COk.m (sc0:=zaf zb8) (N:=["line","nought_spots","small"]) (N':=["line","nought_spots","small","number"]) (ms:=[false,false,false,true])) (zaT K (pv 0)) (λ_ _ _ _ _=>(zas (i:=3) (ndS (N:=["line","nought_spots","small","number"])) rfl (Or.inl rfl))) (λ_ _ _ _ _=>zaD) (λ_ _ _ _ _=>(zak Q23 hr rfl (zaa (pv 3) zab)))) zab)))
   (zai (zan (zbA (pv 2) (zb0 (zar (ziA K rfl) rfl B.all L2.zcP (zcy (zaX rfl (COk.m (sc0:=zaf zb8) (N:=["line","nought_spots","small"]) (N':=["line","nought_spots","small","spot"]) (ms:=[false,false,false,true])) (zhi K (pv 1)) (λ_ _ _ _ _=>(zas (i:=3) (ndS (N:=["line","nought_spots","small","spot"])) rfl (Or.inl rfl))) (λ_ _ _ _ _=>zaD) (λ_ _ _ _ _=>(zbg (k_eq K hr) (zaH (k_ix K) (pv 0) (pv 3) (λ_ _=>rfl)) zac (zaw _)))) zab))))))),?_⟩
 unfold zdG at q
 ac_rfl
 refine⟨a,rfl,⟨_,hA⟩,?_⟩
 refine zaI (zaS hA) ((l.map zd2).map D.bl) (by simp) (zal (by simp;omega)) (λk x d H1 R hk hd s1 hx hR=>?_) (λv H1 s1 n1=>?_)
 ·rw[zgm] at hx
  obtain⟨y,hy,rfl⟩:=zme.mp hx
  rw[zgm,zgm,hy] at hd
  cases hd
  ac_rfl
  refine zjM ?_
  exact hR _ _ (Same.refl _) New.bl
 obtain⟨la,rfl,la0,la1⟩:=New.bls n1
 ac_rfl
 refine ziz (SqL.of la1) ?_
 ac_rfl
 refine zei (λe=>?_) (λe=>by have q1:=q _ s1;rw[e] at q1;exact q1)
 rw[e,Bool.true_and] at q
 ac_rfl
 refine⟨t,rfl,⟨_,s1.tup hT⟩,?_⟩
 refine zaI (zeg (s1.tup hT)) ((spots.map λs=>decide (l.getD s 0=0)).map D.bl) (by simp) (zal (by simp;omega)) (λk x d H2 R hk hd s2 hx hR=>?_) (λv H2 s2 n2=>?_)
 ·rw[zgm] at hx
  obtain⟨sp,hsp,rfl⟩:=zme.mp hx
  rw[zgm,zgm,hsp] at hd
  cases hd
  have sl:sp<l.length:=by have:=hs sp (zmg hsp);omega
  ac_rfl
  refine zbE ((s1.trans s2).seq hA) (v:=.int (l.getD sp 0)) (zaA (by simp[sl])) ?_
  ac_rfl
  exact hR _ _ (Same.refl _) New.bl
 obtain⟨lb,rfl,lb0,lb1⟩:=New.bls n2
 ac_rfl
 refine ziz (SqL.of lb1) ?_
 exact q _ (s1.trans s2)
inductive Q16 (K:Fg)(vs:List V)(H:Hp)(Q:VK)(E:XK):Prop
 | mk (a t:Addr) (ls:List (List Int)) (spots:List Nat):vs=[.ref a,.ref t]->Rep K H (zaq ls) (.ref a)->SqT K H t (spots.map λ(s:Nat)=>V.int (s:Int))->ls.length<=1000->(∀ l∈ls,l.length=9)->spots.length<=9->(∀ s∈spots,s<9)->(∀ H',Same H H'->Q (.bl (zc1 spots ls)) H')->Q16 K vs H Q E
include B Z in
theorem zgW (Q19:Fn P w K mg b8 "line_right" ["line","nought_spots"] 3 (Q18 K))(F:Fun K "lines_right" "lines_right" zcm f fd)(m:mg "lines_right"=some (.ref f)):Fn P w K mg b8 "lines_right" ["lines","nought_spots"] 4 (Q16 K):=by
 refine Fn.of (k:=3) F zgT m (λ_ _ _ _ _ _ us hl=>(by obtain⟨_,_,rfl⟩:=len2 hl;rfl)) (λvs H Q E h=>?_) (λcdv A outer s H vs Q E hr h=>?_)
 ·first
  | (obtain⟨_,_,_,_,rfl,_⟩:=h;rfl)
 obtain⟨a,t,ls,spots,rfl,hA,hT,l1000,h9,ls9,hs,q⟩:=h
 refine⟨_,(zai (zan (zbA (zbg zmT (zar (zdV K) rfl B.len L2.boot_len (zaa (pv 0) zab)) (za1 rfl B.c_MOST_LINES) (zaw _)) (zb0 (zar (ziA K rfl) rfl B.all L2.zcP (zcy (zaX rfl (COk.m (sc0:=zaf zcm) (N:=["lines","nought_spots"]) (N':=["lines","nought_spots","line"]) (ms:=[false,false,true])) (zaT K (pv 0)) (λ_ _ _ _ _=>(zas (i:=2) (ndS (N:=["lines","nought_spots","line"])) rfl (Or.inl rfl))) (λ_ _ _ _ _=>zaD) (λ_ _ _ _ _=>(zak Q19 hr rfl (zaa (pv 2) (zaa (pv 1) zab))))) zab)))))),?_⟩
 unfold zaq Rep at hA
 obtain⟨a',xs,e,hA,hx⟩:=hA
 cases e
 have lx:=hx.length
 rw[zlm] at lx
 unfold zc1 at q
 ac_rfl
 refine zeA (.inl hA) ?_
 ac_rfl
 rw[<-lx]
 refine zei (λe=>?_) (λe=>by have q1:=q _ (Same.refl _);rw[e] at q1;exact q1)
 rw[e,Bool.true_and] at q
 ac_rfl
 refine⟨a,rfl,⟨_,hA⟩,?_⟩
 refine zaI (zaS hA) ((ls.map (zdG spots)).map D.bl) (by simp;omega) (zal (by omega)) (λk x d H1 R hk hd s1 hx' hR=>?_) (λv H1 s1 n1=>?_)
 ·obtain⟨d2,hd2,hrx⟩:=Reps.get' hx hx'
  rw[zgm] at hd2
  obtain⟨l,hl,rfl⟩:=zme.mp hd2
  rw[zgm,zgm,hl] at hd
  cases hd
  obtain⟨xa,rfl,hxa⟩:=za3.mp (Rep.same s1 _ hrx)
  ac_rfl
  refine⟨xa,t,l,spots,rfl,hxa,s1.tup hT,h9 l (zmg hl),ls9,hs,λH2 s2=>?_⟩
  exact hR _ _ s2 New.bl
 obtain⟨la,rfl,la0,la1⟩:=New.bls n1
 ac_rfl
 refine ziz (SqL.of la1) ?_
 exact q _ s1
inductive Q10 (K:Fg)(C:Nat->Addr)(vs:List V)(H:Hp)(Q:VK)(E:XK):Prop
 | mk (p:Addr) (needs leaves:List (List Int)) (ds:List D) (notes:List (List (List Int))):vs=[.ref p]->zbh K (C 0) H p needs leaves ds notes->needs.length<=1000->leaves.length<=1000->(∀ l∈needs,l.length=9)->(∀ l∈leaves,l.length=9)->(∀ H',Same H H'->Q (.bl (zhp needs leaves)) H')->Q10 K C vs H Q E
include B Z in
theorem zh2 (Q17:Fn P w K mg b8 "lines_right" ["lines","nought_spots"] 4 (Q16 K))(F:Fun K "oath_right" "oath_right" zdK f fd)(m:mg "oath_right"=some (.ref f)):Fn P w K mg b8 "oath_right" ["craft"] 5 (Q10 K C):=by
 refine Fn.of (k:=4) F zeZ m (λ_ _ _ _ _ _ us hl=>(by obtain⟨_,rfl⟩:=len1 hl;rfl)) (λvs H Q E h=>?_) (λcdv A outer s H vs Q E hr h=>?_)
 ·first
  | (obtain⟨_,_,_,_,_,rfl,_⟩:=h;rfl)
 obtain⟨p,needs,leaves,ds,notes,rfl,hC,ln,ll,h9n,h9l,q⟩:=h
 obtain⟨gl,g_LEFT_SPOTS,hL⟩:=B.t_LEFT_SPOTS
 obtain⟨gh,g_HAND_SPOTS,hH⟩:=B.t_HAND_SPOTS
 have sp9:∀ s∈([1,2,3,4,7,8]:List Nat),s<9:=by decide
 have sp4:∀ s∈([1,2,3,4]:List Nat),s<9:=by decide
 refine⟨_,(zae (zau (i:=1) zeZ.nd rfl (Or.inl rfl) (zak Q17 hr rfl (zaO (zaU K (pv 0) rfl) (zaP (zat (zaF K) (zbu rfl g_HAND_SPOTS) (zbu rfl g_LEFT_SPOTS)) zab))))
   (zai (zan (zbA (pv 1) (zb0 (zak Q17 hr rfl (zaO (zaU K (pv 0) rfl) (zaa (zbu rfl g_HAND_SPOTS) zab)))))))),?_⟩
 obtain⟨dx,w1,w2,w3,w4,hp,r1,r2,r3,r4⟩:=hC
 obtain⟨b1,rfl⟩:∃ b,w1=.ref b:=by unfold zaq Rep at r1;obtain⟨a,_,e,_⟩:=r1;exact⟨a,e⟩
 obtain⟨b2,rfl⟩:∃ b,w2=.ref b:=by unfold zaq Rep at r2;obtain⟨a,_,e,_⟩:=r2;exact⟨a,e⟩
 unfold zhp at q
 ac_rfl
 refine⟨p,(C 0),dx,_,_,rfl,hp,Z.c_Craft,Z.n_Craft_needs,zbH _ _ _ _,?_⟩
 ac_rfl
 refine zp7 (hH _) (hL _) (by simp) (by simp) ((by walk_at "sm")) λt t0=>?_
 have s0:=zag t0 (.tup ([V.int 1,.int 2,.int 3,.int 4]++[V.int 7,.int 8]))
 ac_rfl
 refine⟨b1,t,needs,[1,2,3,4,7,8],rfl,Rep.same s0 _ r1,.inl (.inl zad),ln,h9n,by decide,sp9,λH1 s1=>?_⟩
 have s2:=s0.trans s1
 ac_rfl
 refine zei (λe=>?_) (λe=>by have q1:=q _ s2;rw[e] at q1;exact q1)
 rw[e,Bool.true_and] at q
 ac_rfl
 refine⟨p,(C 0),dx,_,_,rfl,s2 _ _ hp,Z.c_Craft,Z.n_Craft_leaves,zbm _ _ _ _,?_⟩
 ac_rfl
 exact⟨b2,gh,leaves,[1,2,3,4],rfl,Rep.same s2 _ r2,hH _,ll,h9l,by decide,sp4,λH3 s3=>q _ (s2.trans s3)⟩
def zcp (K:Fg):Sp:=λvs H Q _=>∃ n:Int,vs=[.int n]/\Q (.bl (zb4 n)) H
theorem zkl {H:Hp}{Q:VK}{E:XK}{n:Int}(q:Q (.bl (zb4 n)) H):zcp K [.int n] H Q E:=⟨n,rfl,q⟩
include B Z in
theorem zh3 (Q25:Fn P w K mg b8 "between" ["low","number","high"] 1 (Q24 K))(F:Fun K "hand_right" "hand_right" zdN f fd)(m:mg "hand_right"=some (.ref f)):Fn P w K mg b8 "hand_right" ["hand"] 2 (zcp K):=by
 refine Fn.of (k:=1) F zhW m (λ_ _ _ _ _ _ us hl=>(by obtain⟨_,rfl⟩:=len1 hl;rfl)) (λvs H Q E h=>?_) (λcdv A outer s H vs Q E hr h=>?_)
 ·first
  | (obtain⟨_,rfl,_⟩:=h;rfl)
 obtain⟨n,rfl,q⟩:=h
 refine⟨_,(zai (zan (zak Q25 hr rfl (zaj zac (zaa (pv 0) (zaa (za1 rfl B.c_LAST_HAND) zab)))))),?_⟩
 ac_rfl
 refine zcF ?_
 exact q
inductive Q20 (K:Fg)(vs:List V)(H:Hp)(Q:VK)(E:XK):Prop
 | mk (a:Addr) (i j:Int):vs=[.ref a]->SqT K H a [.int i,.int j]->(∀ H',Same H H'->Q (.bl ([zb4 i,zb4 j].all id)) H')->Q20 K vs H Q E
include B Z in
theorem ze7 (Q22:Fn P w K mg b8 "hand_right" ["hand"] 2 (zcp K))(F:Fun K "two_hands_right" "two_hands_right" zbw f fd)(m:mg "two_hands_right"=some (.ref f)):Fn P w K mg b8 "two_hands_right" ["hands"] 3 (Q20 K):=by
 refine Fn.of (k:=2) F ze3 m (λ_ _ _ _ _ _ us hl=>(by obtain⟨_,rfl⟩:=len1 hl;rfl)) (λvs H Q E h=>?_) (λcdv A outer s H vs Q E hr h=>?_)
 ·first
  | (obtain⟨_,_,_,rfl,_⟩:=h;rfl)
 obtain⟨a,i,j,rfl,hA,q⟩:=h
 refine⟨_,(zai (zan (zbA (zbg (k_eq K hr) (zar (zdV K) rfl B.len L2.boot_len (zaa (pv 0) zab)) zac (zaw _)) (zb0 (zar (ziA K rfl) rfl B.all L2.zcP (zcy (zaX rfl (COk.m (sc0:=zaf zbw) (N:=["hands"]) (N':=["hands","hand"]) (ms:=[false,true])) (zhi K (pv 0)) (λ_ _ _ _ _=>(zas (i:=1) (ndS (N:=["hands","hand"])) rfl (Or.inl rfl))) (λ_ _ _ _ _=>zaD) (λ_ _ _ _ _=>(zak Q22 hr rfl (zaa (pv 1) zab)))) zab)))))),?_⟩
 ac_rfl
 refine zeA (.inr hA) ?_
 ac_rfl
 rw[show decide ((([V.int i,.int j].length:Nat):Int)=2)=true from rfl]
 ac_rfl
 refine⟨a,rfl,⟨_,hA⟩,?_⟩
 refine zaI (zeg hA) ([zb4 i,zb4 j].map D.bl) rfl ((by walk_at "sm")) (λk x d H1 R hk hd s1 hx hR=>?_) (λv H1 s1 n1=>?_)
 ·have hx':([i,j].map V.int)[k]?=some x:=hx
  have hd':([i,j].map λz=>D.bl (zb4 z))[k]?=some d:=hd
  rw[zgm] at hx' hd'
  obtain⟨y,hy,rfl⟩:=zme.mp hx'
  rw[hy] at hd'
  cases hd'
  ac_rfl
  refine zkl ?_
  exact hR _ _ (Same.refl _) New.bl
 obtain⟨la,rfl,la0,la1⟩:=New.bls n1
 ac_rfl
 refine ziz (SqL.of la1) ?_
 exact q _ s1
inductive Q1e (K:Fg)(vs:List V)(H:Hp)(Q:VK)(E:XK):Prop
 | mk (m:Int) (a b:Addr) (g0 g1 t0 t1:Int):vs=[.int m,.ref a,.ref b]->SqT K H a [.int g0,.int g1]->SqT K H b [.int t0,.int t1]->(∀ H',Same H H'->Q (.bl (([zb4 g0,zb4 g1].all id && [zb4 t0,zb4 t1].all id) && (btw 0 m 99 && !decide (t0=t1)))) H')->Q1e K vs H Q E
include B Z in
theorem zh4 (Q21:Fn P w K mg b8 "two_hands_right" ["hands"] 3 (Q20 K))(Q25:Fn P w K mg b8 "between" ["low","number","high"] 1 (Q24 K))(F:Fun K "call_right" "call_right" zdM f fd)(m:mg "call_right"=some (.ref f)):Fn P w K mg b8 "call_right" ["number","given","taken"] 4 (Q1e K):=by
 refine Fn.of (k:=3) F ze2 m (λ_ _ _ _ _ _ us hl=>(by obtain⟨_,_,_,rfl⟩:=len3 hl;rfl)) (λvs H Q E h=>?_) (λcdv A outer s H vs Q E hr h=>?_)
 ·first
  | (obtain⟨_,_,_,_,_,_,_,rfl,_⟩:=h;rfl)
 obtain⟨m,a,b,g0,g1,t0,t1,rfl,hA,hB,q⟩:=h
 refine⟨_,(zae (zau (i:=3) ze2.nd rfl (Or.inl rfl) (zbA (zak Q21 hr rfl (zaa (pv 1) zab)) (zb0 (zak Q21 hr rfl (zaa (pv 2) zab)))))
   (zai (zan (zbA (pv 3) (zbA (zak Q25 hr rfl (zaj zac (zaa (pv 0) (zaa (za1 rfl B.c_LAST_NUMBER) zab)))) (zb0 (zbg (k_ne K hr) (zaH (k_ix K) (pv 2) zac (λ_ _=>rfl)) (zaH (k_ix K) (pv 2) zac (λ_ _=>rfl)) (zaw _)))))))),?_⟩
 generalize eg:[zb4 g0,zb4 g1].all id=bg at q
 generalize et:[zb4 t0,zb4 t1].all id=bt at q
 ac_rfl
 refine⟨a,g0,g1,rfl,hA,λH1 s1=>?_⟩
 rw[eg]
 -- hands=.. and ..
 refine zc9 (λe=>?_) (λe=>?_)
 ·subst e
  ac_rfl
  refine⟨b,t0,t1,rfl,s1.tup hB,λH2 s2=>?_⟩
  rw[et]
  ac_rfl
  have s3:=s1.trans s2
  rw[Bool.true_and] at q
  refine zei (λe=>?_) (λe=>by have q1:=q _ s3;rw[e] at q1;exact q1)
  rw[e,Bool.true_and] at q
  ac_rfl
  refine zcF ?_
  refine zc9 (λe=>?_) (λe=>by have q1:=q _ s3;unfold btw at q1;rw[e] at q1;exact q1)
  unfold btw at q
  rw[e,Bool.true_and] at q
  ac_rfl
  refine za4 (s3.tup hB) (v:=.int t0) rfl ?_
  ac_rfl
  refine za4 (s3.tup hB) (v:=.int t1) rfl ?_
  ac_rfl
  exact q _ s3
 ·subst e
  ac_rfl
  exact q _ s1
inductive Q1c (K:Fg)(vs:List V)(H:Hp)(Q:VK)(E:XK):Prop
 | mk (lo hi:Int):vs=[.int lo,.int hi]->Q (.bl (zd2 lo && (zd2 hi && decide (lo<=hi)))) H->Q1c K vs H Q E
include B Z in
theorem zgX (Q23:Fn P w K mg b8 "small_enough" ["number"] 2 (zbX K))(F:Fun K "range_right" "range_right" zdh f fd)(m:mg "range_right"=some (.ref f)):Fn P w K mg b8 "range_right" ["low","high"] 3 (Q1c K):=by
 refine Fn.of (k:=2) F zgU m (λ_ _ _ _ _ _ us hl=>(by obtain⟨_,_,rfl⟩:=len2 hl;rfl)) (λvs H Q E h=>?_) (λcdv A outer s H vs Q E hr h=>?_)
 ·first
  | (obtain⟨_,_,rfl,_⟩:=h;rfl)
 obtain⟨lo,hi,rfl,q⟩:=h
 refine⟨_,(zai (zan (zbA (zak Q23 hr rfl (zaa (pv 0) zab)) (zbA (zak Q23 hr rfl (zaa (pv 1) zab)) (zb0 (zbg zmT (pv 0) (pv 1) (zaw _))))))),?_⟩
 ac_rfl
 refine zjM ?_
 refine zc9 (λe=>?_) (λe=>by rw[e] at q;exact q)
 rw[e,Bool.true_and] at q
 ac_rfl
 refine zjM ?_
 refine zc9 (λe=>?_) (λe=>by rw[e] at q;exact q)
 rw[e,Bool.true_and] at q
 ac_rfl
 exact q
inductive Q1a (K:Fg)(vs:List V)(H:Hp)(Q:VK)(E:XK):Prop
 | mk (v:V) (n:Int) (d:Dd):vs=[v,.int n]->Rep K H (toD d) v->zgR d->(∀ H',Same H H'->Q (.bl (zbM n d)) H')->Q1a K vs H Q E
theorem zaM {K:Fg}{H:Hp}{d:D}{ds:List D}{xs:List V}(h:Reps K H (d::ds) xs):∃ v r,xs=v::r/\Rep K H d v/\Reps K H ds r:=by unfold Reps at h;exact h
theorem zdA {K:Fg}{H:Hp}{xs:List V}(h:Reps K H [] xs):xs=[]:=by unfold Reps at h;exact h
theorem zc5 {K:Fg}{H:Hp}{i:Int}{v:V}(h:Rep K H (.int i) v):v=.int i:=by unfold Rep at h;exact h
theorem zfq {K:Fg}{H:Hp}{i:Str}{v:V}(h:Rep K H (.str i) v):v=.str i:=by unfold Rep at h;exact h
theorem zkm {K:Fg}{H:Hp}{i j:Int}{v:V}(h:Rep K H (.tup [.int i,.int j]) v):∃ a,v=.ref a/\SqT K H a [.int i,.int j]:=by
 obtain⟨a,xs,rfl,h1,h2⟩:=zdY h
 obtain⟨v1,r1,rfl,e1,h2⟩:=zaM h2
 obtain⟨v2,r2,rfl,e2,h2⟩:=zaM h2
 cases zdA h2;cases zc5 e1;cases zc5 e2
 exact⟨a,rfl,h1⟩
theorem zo3:decide (("part" : Str) ="set")=false:=by decide +kernel
theorem zmC:decide (("draw" : Str) ="set")=false/\decide (("draw" : Str) ="part")=false:=by decide +kernel
theorem zjN:decide (("turn" : Str) ="set")=false/\decide (("turn" : Str) ="part")=false/\decide (("turn" : Str) ="draw")=false:=by decide +kernel
theorem zh5:decide (("hold" : Str) ="set")=false/\decide (("hold" : Str) ="part")=false/\decide (("hold" : Str) ="draw")=false/\decide (("hold" : Str) ="turn")=false:=by decide +kernel
theorem zgK:decide (("call" : Str) ="set")=false/\decide (("call" : Str) ="part")=false/\decide (("call" : Str) ="draw")=false/\decide (("call" : Str) ="turn")=false/\decide (("call" : Str) ="hold")=false:=by decide +kernel
include B Z in
theorem zh6 (Q1f:Fn P w K mg b8 "call_right" ["number","given","taken"] 4 (Q1e K))(Q19:Fn P w K mg b8 "line_right" ["line","nought_spots"] 3 (Q18 K))(Q22:Fn P w K mg b8 "hand_right" ["hand"] 2 (zcp K))(Q25:Fn P w K mg b8 "between" ["low","number","high"] 1 (Q24 K))(Q1d:Fn P w K mg b8 "range_right" ["low","high"] 3 (Q1c K))(F:Fun K "deed_right" "deed_right" zdL f fd)(m:mg "deed_right"=some (.ref f)):Fn P w K mg b8 "deed_right" ["deed","last_place"] 5 (Q1a K):=by
 refine Fn.of (k:=4) F ze1 m (λ_ _ _ _ _ _ us hl=>(by obtain⟨_,_,rfl⟩:=len2 hl;rfl)) (λvs H Q E h=>?_) (λcdv A outer s H vs Q E hr h=>?_)
 ·first
  | (obtain⟨_,_,_,rfl,_⟩:=h;rfl)
 obtain⟨v,n,d,rfl,hR,h9,q⟩:=h
 obtain⟨gl,g_LEFT_SPOTS,hL⟩:=B.t_LEFT_SPOTS
 refine⟨_,(zae (zau (i:=2) ze1.nd rfl (Or.inl rfl) (zaH (k_ix K) (pv 0) zac (λ_ _=>rfl)))
   (zae (za2 (zaz (k_eq K hr) (pv 2) zca (zaw _)) (zai (zan (zbA (zak Q22 hr rfl (zaK (zaH (k_ix K) (pv 0) zac (λ_ _=>rfl)) zab)) (zb0 (zak Q19 hr rfl (zaK (zaH (k_ix K) (pv 0) zac (λ_ _=>rfl)) (zaa (zbu rfl g_LEFT_SPOTS) zab))))))) zav)
   (zae (za2 (zaz (k_eq K hr) (pv 2) zca (zaw _)) (zai (zan (zbA (zak Q22 hr rfl (zaK (zaH (k_ix K) (pv 0) zac (λ_ _=>rfl)) zab)) (zbA (zak Q19 hr rfl (zaK (zaH (k_ix K) (pv 0) zac (λ_ _=>rfl)) (zaa (zbu rfl g_LEFT_SPOTS) zab))) (zb0 (zak Q25 hr rfl (zaj zac (zaK (zaH (k_ix K) (pv 0) zac (λ_ _=>rfl)) (zaa (za1 rfl B.c_GREATEST_BY) zab))))))))) zav)
   (zae (za2 (zaz (k_eq K hr) (pv 2) zca (zaw _)) (zai (zan (zbA (zak Q22 hr rfl (zaK (zaH (k_ix K) (pv 0) zac (λ_ _=>rfl)) zab)) (zb0 (zak Q1d hr rfl (zaK (zaH (k_ix K) (pv 0) zac (λ_ _=>rfl)) (zaK (zaH (k_ix K) (pv 0) zac (λ_ _=>rfl)) zab))))))) zav)
   (zae (za2 (zaz (k_eq K hr) (pv 2) zca (zaw _)) (zai (zan (zbA (zak Q19 hr rfl (zaK (zaH (k_ix K) (pv 0) zac (λ_ _=>rfl)) (zaa (zbu rfl g_LEFT_SPOTS) zab))) (zb0 (zak Q25 hr rfl (zaj zac (zaK (zaH (k_ix K) (pv 0) zac (λ_ _=>rfl)) (zaa (pv 1) zab)))))))) zav)
   (zae (za2 (zaz (k_eq K hr) (pv 2) zca (zaw _)) (zai (zan (zak Q19 hr rfl (zaK (zaH (k_ix K) (pv 0) zac (λ_ _=>rfl)) (zaa (zbu rfl g_LEFT_SPOTS) zab))))) zav)
   (zai (zan (zak Q1f hr rfl (zaK (zaH (k_ix K) (pv 0) zac (λ_ _=>rfl)) (zaK (zaH (k_ix K) (pv 0) zac (λ_ _=>rfl)) (zaK (zaH (k_ix K) (pv 0) zac (λ_ _=>rfl)) zab)))))))))))),?_⟩
 have sp9:∀ s∈([7,8]:List Nat),s<9:=by decide
 cases d with
 | set hd l=>
  obtain⟨a,xs,rfl,hA,hx⟩:=zdY hR
  obtain⟨v1,r1,rfl,e1,hx⟩:=zaM hx
  obtain⟨v2,r2,rfl,e2,hx⟩:=zaM hx
  obtain⟨v3,r3,rfl,e3,hx⟩:=zaM hx
  cases zdA hx;cases zfq e1;cases zc5 e2
  obtain⟨la,rfl,hla⟩:=za3.mp e3
  ac_rfl
  refine za4 hA (v:=.str "set") rfl ?_
  ac_rfl
  rw[decide_eq_true rfl]
  ac_rfl
  refine za4 hA (v:=.int hd) rfl ?_
  ac_rfl
  refine zkl ?_
  show ∃ c,V.bl (zb4 hd)=.bl c/\_
  simp only[zbM] at q
  refine zc9 (λe=>?_) (λe=>by have q1:=q _ (Same.refl _);rw[e] at q1;exact q1)
  rw[e,Bool.true_and] at q
  ac_rfl
  refine za4 hA (v:=.ref la) rfl ?_
  ac_rfl
  exact⟨la,gl,l,[7,8],rfl,hla,hL _,h9,by decide,sp9,λH1 s1=>q _ s1⟩
 | part hd l b=>
  obtain⟨a,xs,rfl,hA,hx⟩:=zdY hR
  obtain⟨v1,r1,rfl,e1,hx⟩:=zaM hx
  obtain⟨v2,r2,rfl,e2,hx⟩:=zaM hx
  obtain⟨v3,r3,rfl,e3,hx⟩:=zaM hx
  obtain⟨v4,r4,rfl,e4,hx⟩:=zaM hx
  cases zdA hx;cases zfq e1;cases zc5 e2;cases zc5 e4
  obtain⟨la,rfl,hla⟩:=za3.mp e3
  ac_rfl
  refine za4 hA (v:=.str "part") rfl ?_
  ac_rfl
  rw[zo3]
  ac_rfl
  rw[decide_eq_true rfl]
  ac_rfl
  refine za4 hA (v:=.int hd) rfl ?_
  ac_rfl
  refine zkl ?_
  show ∃ c,V.bl (zb4 hd)=.bl c/\_
  simp only[zbM] at q
  refine zc9 (λe=>?_) (λe=>by have q1:=q _ (Same.refl _);rw[e] at q1;exact q1)
  rw[e,Bool.true_and] at q
  ac_rfl
  refine za4 hA (v:=.ref la) rfl ?_
  ac_rfl
  refine⟨la,gl,l,[7,8],rfl,hla,hL _,h9,by decide,sp9,λH1 s1=>?_⟩
  refine zc9 (λe=>?_) (λe=>by have q1:=q _ s1;rw[e] at q1;exact q1)
  rw[e,Bool.true_and] at q
  ac_rfl
  refine za4 (s1.tup hA) (v:=.int b) rfl ?_
  ac_rfl
  refine zcF ?_
  exact q _ s1
 | draw hd lo hi=>
  obtain⟨a,xs,rfl,hA,hx⟩:=zdY hR
  obtain⟨v1,r1,rfl,e1,hx⟩:=zaM hx
  obtain⟨v2,r2,rfl,e2,hx⟩:=zaM hx
  obtain⟨v3,r3,rfl,e3,hx⟩:=zaM hx
  obtain⟨v4,r4,rfl,e4,hx⟩:=zaM hx
  cases zdA hx;cases zfq e1;cases zc5 e2;cases zc5 e3;cases zc5 e4
  ac_rfl
  refine za4 hA (v:=.str "draw") rfl ?_
  ac_rfl
  rw[zmC.1]
  ac_rfl
  rw[zmC.2]
  ac_rfl
  rw[decide_eq_true rfl]
  ac_rfl
  refine za4 hA (v:=.int hd) rfl ?_
  ac_rfl
  refine zkl ?_
  show ∃ c,V.bl (zb4 hd)=.bl c/\_
  simp only[zbM] at q
  refine zc9 (λe=>?_) (λe=>by have q1:=q _ (Same.refl _);rw[e] at q1;exact q1)
  rw[e,Bool.true_and] at q
  ac_rfl
  refine za4 hA (v:=.int lo) rfl ?_
  ac_rfl
  refine za4 hA (v:=.int hi) rfl ?_
  ac_rfl
  exact⟨lo,hi,rfl,q _ (Same.refl _)⟩
 | turn l p=>
  obtain⟨a,xs,rfl,hA,hx⟩:=zdY hR
  obtain⟨v1,r1,rfl,e1,hx⟩:=zaM hx
  obtain⟨v2,r2,rfl,e2,hx⟩:=zaM hx
  obtain⟨v3,r3,rfl,e3,hx⟩:=zaM hx
  cases zdA hx;cases zfq e1;cases zc5 e3
  obtain⟨la,rfl,hla⟩:=za3.mp e2
  ac_rfl
  refine za4 hA (v:=.str "turn") rfl ?_
  ac_rfl
  rw[zjN.1]
  ac_rfl
  rw[zjN.2.1]
  ac_rfl
  rw[zjN.2.2]
  ac_rfl
  rw[decide_eq_true rfl]
  ac_rfl
  refine za4 hA (v:=.ref la) rfl ?_
  ac_rfl
  simp only[zbM] at q
  refine⟨la,gl,l,[7,8],rfl,hla,hL _,h9,by decide,sp9,λH1 s1=>?_⟩
  refine zc9 (λe=>?_) (λe=>by have q1:=q _ s1;rw[e] at q1;exact q1)
  rw[e,Bool.true_and] at q
  ac_rfl
  refine za4 (s1.tup hA) (v:=.int p) rfl ?_
  ac_rfl
  refine zcF ?_
  exact q _ s1
 | hold l=>
  obtain⟨a,xs,rfl,hA,hx⟩:=zdY hR
  obtain⟨v1,r1,rfl,e1,hx⟩:=zaM hx
  obtain⟨v2,r2,rfl,e2,hx⟩:=zaM hx
  cases zdA hx;cases zfq e1
  obtain⟨la,rfl,hla⟩:=za3.mp e2
  ac_rfl
  refine za4 hA (v:=.str "hold") rfl ?_
  ac_rfl
  rw[zh5.1]
  ac_rfl
  rw[zh5.2.1]
  ac_rfl
  rw[zh5.2.2.1]
  ac_rfl
  rw[zh5.2.2.2]
  ac_rfl
  rw[decide_eq_true rfl]
  ac_rfl
  refine za4 hA (v:=.ref la) rfl ?_
  ac_rfl
  exact⟨la,gl,l,[7,8],rfl,hla,hL _,h9,by decide,sp9,λH1 s1=>q _ s1⟩
 | call m g0 g1 t0 t1=>
  obtain⟨a,xs,rfl,hA,hx⟩:=zdY hR
  obtain⟨v1,r1,rfl,e1,hx⟩:=zaM hx
  obtain⟨v2,r2,rfl,e2,hx⟩:=zaM hx
  obtain⟨v3,r3,rfl,e3,hx⟩:=zaM hx
  obtain⟨v4,r4,rfl,e4,hx⟩:=zaM hx
  cases zdA hx;cases zfq e1;cases zc5 e2
  obtain⟨ga,rfl,hga⟩:=zkm e3
  obtain⟨ta,rfl,hta⟩:=zkm e4
  ac_rfl
  refine za4 hA (v:=.str "call") rfl ?_
  ac_rfl
  rw[zgK.1]
  ac_rfl
  rw[zgK.2.1]
  ac_rfl
  rw[zgK.2.2.1]
  ac_rfl
  rw[zgK.2.2.2.1]
  ac_rfl
  rw[zgK.2.2.2.2]
  ac_rfl
  refine za4 hA (v:=.int m) rfl ?_
  ac_rfl
  refine za4 hA (v:=.ref ga) rfl ?_
  ac_rfl
  refine za4 hA (v:=.ref ta) rfl ?_
  ac_rfl
  exact⟨m,ga,ta,g0,g1,t0,t1,rfl,hga,hta,λH1 s1=>q _ s1⟩
inductive Q12 (K:Fg)(vs:List V)(H:Hp)(Q:VK)(E:XK):Prop
 | mk (a:Addr) (ds:List Dd):vs=[.ref a]->Rep K H (.lst (ds.map toD)) (.ref a)->ds.length<=1000->(∀ d∈ds,zgR d)->(∀ H',Same H H'->Q (.bl (zfk ds)) H')->Q12 K vs H Q E
include B Z in
theorem zgY (Q25:Fn P w K mg b8 "between" ["low","number","high"] 1 (Q24 K))(Q1b:Fn P w K mg b8 "deed_right" ["deed","last_place"] 5 (Q1a K))(F:Fun K "deeds_right" "deeds_right" zck f fd)(m:mg "deeds_right"=some (.ref f)):Fn P w K mg b8 "deeds_right" ["deeds"] 6 (Q12 K):=by
 refine Fn.of (k:=5) F zen m (λ_ _ _ _ _ _ us hl=>(by obtain⟨_,rfl⟩:=len1 hl;rfl)) (λvs H Q E h=>?_) (λcdv A outer s H vs Q E hr h=>?_)
 ·first
  | (obtain⟨_,_,rfl,_⟩:=h;rfl)
 obtain⟨a,ds,rfl,hA,l1000,h9,q⟩:=h
 refine⟨_,(zae (zau (i:=1) zen.nd rfl (Or.inr rfl) (zar (zdV K) rfl B.len L2.boot_len (zaa (pv 0) zab)))
   (zai (zan (zbA (zak Q25 hr rfl (zaj zac (zaa (pv 1) (zaa (za1 rfl B.c_MOST_DEEDS) zab)))) (zb0 (zar (ziA K rfl) rfl B.all L2.zcP (zcy (zaX rfl (COk.m (sc0:=zaf zck) (N:=["deeds","count"]) (N':=["deeds","count","deed"]) (ms:=[false,false,true])) (zaT K (pv 0)) (λ_ _ _ _ _=>(zas (i:=2) (ndS (N:=["deeds","count","deed"])) rfl (Or.inl rfl))) (λ_ _ _ _ _=>zaD) (λ_ _ _ _ _=>(zak Q1b hr rfl (zaa (pv 2) (zaa (pv 1) zab))))) zab))))))),?_⟩
 unfold Rep at hA
 obtain⟨a',xs,e,hA,hx⟩:=hA
 cases e
 have lx:=hx.length
 rw[zlm] at lx
 unfold zfk btw at q
 ac_rfl
 refine zeA (.inl hA) ?_
 rw[<-lx]
 ac_rfl
 refine zcF ?_
 refine zc9 (λe=>?_) (λe=>by have q1:=q _ (Same.refl _);rw[e] at q1;exact q1)
 rw[e,Bool.true_and] at q
 ac_rfl
 refine⟨a,rfl,⟨_,hA⟩,?_⟩
 refine zaI (zaS hA) ((ds.map (zbM (ds.length:Int))).map D.bl) (by simp;omega) (zal (by omega)) (λk x d H1 R hk hd s1 hx' hR=>?_) (λv H1 s1 n1=>?_)
 ·obtain⟨d2,hd2,hrx⟩:=Reps.get' hx hx'
  rw[zgm] at hd2
  obtain⟨l,hl,rfl⟩:=zme.mp hd2
  rw[zgm,zgm,hl] at hd
  cases hd
  ac_rfl
  refine⟨_,_,l,rfl,Rep.same s1 _ hrx,h9 l (zmg hl),λH2 s2=>?_⟩
  exact hR _ _ s2 New.bl
 obtain⟨la,rfl,la0,la1⟩:=New.bls n1
 ac_rfl
 refine ziz (SqL.of la1) ?_
 exact q _ s1
inductive Q14 (K:Fg)(C:Nat->Addr)(vs:List V)(H:Hp)(Q:VK)(E:XK):Prop
 | mk (p:Addr) (needs leaves:List (List Int)) (ds:List Dd) (notes:List (List (List Int))):vs=[.ref p]->zbh K (C 0) H p needs leaves (ds.map toD) notes->notes.length<=1000->(∀ ls∈notes,ls.length<=1000/\∀ l∈ls,l.length=9)->(∀ H',Same H H'->Q (.bl (zgq ds notes)) H')->Q14 K C vs H Q E
include B Z in
theorem zgZ (Q17:Fn P w K mg b8 "lines_right" ["lines","nought_spots"] 4 (Q16 K))(F:Fun K "notes_right" "notes_right" zcl f fd)(m:mg "notes_right"=some (.ref f)):Fn P w K mg b8 "notes_right" ["craft"] 5 (Q14 K C):=by
 refine Fn.of (k:=4) F zeo m (λ_ _ _ _ _ _ us hl=>(by obtain⟨_,rfl⟩:=len1 hl;rfl)) (λvs H Q E h=>?_) (λcdv A outer s H vs Q E hr h=>?_)
 ·first
  | (obtain⟨_,_,_,_,_,rfl,_⟩:=h;rfl)
 obtain⟨p,needs,leaves,ds,notes,rfl,hC,l1000,h9,q⟩:=h
 obtain⟨gl,g_LEFT_SPOTS,hL⟩:=B.t_LEFT_SPOTS
 have sp9:∀ s∈([7,8]:List Nat),s<9:=by decide
 refine⟨_,(zae (zau (i:=1) zeo.nd rfl (Or.inl rfl) (zbg (k_eq K hr) (zar (zdV K) rfl B.len L2.boot_len (zaO (zaU K (pv 0) rfl) zab)) (zar (zdV K) rfl B.len L2.boot_len (zaO (zaU K (pv 0) rfl) zab)) (zaw _)))
   (zai (zan (zbA (pv 1) (zb0 (zar (ziA K rfl) rfl B.all L2.zcP (zcy (zaX rfl (COk.m (sc0:=zaf zcl) (N:=["craft","as_many"]) (N':=["craft","as_many","lines"]) (ms:=[false,false,true])) (zaT K (zaU K (pv 0) rfl)) (λ_ _ _ _ _=>(zas (i:=2) (ndS (N:=["craft","as_many","lines"])) rfl (Or.inl rfl))) (λ_ _ _ _ _=>zaD) (λ_ _ _ _ _=>(zak Q17 hr rfl (zaa (pv 2) (zaa (zbu rfl g_LEFT_SPOTS) zab))))) zab))))))),?_⟩
 obtain⟨dx,w1,w2,w3,w4,hp,r1,r2,r3,r4⟩:=hC
 unfold Rep at r3 r4
 obtain⟨b3,xs3,rfl,q3,z3⟩:=r3
 obtain⟨b4,xs4,rfl,q4,z4⟩:=r4
 have m3:=z3.length
 have m4:=z4.length
 rw[zlm] at m3 m4
 unfold zgq at q
 ac_rfl
 refine⟨p,(C 0),dx,_,_,rfl,hp,Z.c_Craft,Z.n_Craft_notes,zbI _ _ _ _,?_⟩
 ac_rfl
 refine zeA (.inl q4) ?_
 ac_rfl
 refine⟨p,(C 0),dx,_,_,rfl,hp,Z.c_Craft,Z.n_Craft_deeds,zbq _ _ _ _,?_⟩
 ac_rfl
 refine zeA (.inl q3) ?_
 rw[<-m3,<-m4]
 ac_rfl
 refine zei (λe=>?_) (λe=>by have q1:=q _ (Same.refl _);rw[e] at q1;exact q1)
 rw[e,Bool.true_and] at q
 ac_rfl
 refine⟨p,(C 0),dx,_,_,rfl,hp,Z.c_Craft,Z.n_Craft_notes,zbI _ _ _ _,?_⟩
 refine⟨b4,rfl,⟨_,q4⟩,?_⟩
 refine zaI (zaS q4) ((notes.map (zc1 [7,8])).map D.bl) (by simp;omega) (zal (by omega)) (λk x d H1 R hk hd s1 hx' hR=>?_) (λv H1 s1 n1=>?_)
 ·obtain⟨d2,hd2,hrx⟩:=Reps.get' z4 hx'
  rw[zgm] at hd2
  obtain⟨l,hl,rfl⟩:=zme.mp hd2
  rw[zgm,zgm,hl] at hd
  cases hd
  have hr':=Rep.same s1 _ hrx
  obtain⟨xa,rfl⟩:∃ b,x=.ref b:=by unfold zaq Rep at hrx;obtain⟨a,_,e,_⟩:=hrx;exact⟨a,e⟩
  have h9':=h9 l (zmg hl)
  ac_rfl
  refine⟨xa,gl,l,[7,8],rfl,hr',hL _,h9'.1,h9'.2,by decide,sp9,λH2 s2=>?_⟩
  exact hR _ _ s2 New.bl
 obtain⟨la,rfl,la0,la1⟩:=New.bls n1
 ac_rfl
 refine ziz (SqL.of la1) ?_
 exact q _ s1
inductive Qf (K:Fg)(C:Nat->Addr)(vs:List V)(H:Hp)(Q:VK)(E:XK):Prop
 | mk (p:Addr) (needs leaves:List (List Int)) (ds:List Dd) (notes:List (List (List Int))):vs=[.ref p]->zbh K (C 0) H p needs leaves (ds.map toD) notes->needs.length<=1000->leaves.length<=1000->ds.length<=1000->notes.length<=1000->(∀ l∈needs,l.length=9)->(∀ l∈leaves,l.length=9)->(∀ d∈ds,zgR d)->(∀ ls∈notes,ls.length<=1000/\∀ l∈ls,l.length=9)->(∀ H',Same H H'->Q (.bl (zdH needs leaves ds notes)) H')->Qf K C vs H Q E
include B Z in
theorem znG (Q11:Fn P w K mg b8 "oath_right" ["craft"] 5 (Q10 K C))(Q13:Fn P w K mg b8 "deeds_right" ["deeds"] 6 (Q12 K))(Q15:Fn P w K mg b8 "notes_right" ["craft"] 5 (Q14 K C))(F:Fun K "right" "right" zja f fd)(m:mg "right"=some (.ref f)):Fn P w K mg b8 "right" ["craft"] 7 (Qf K C):=by
 refine Fn.of (k:=6) F znB m (λ_ _ _ _ _ _ us hl=>(by obtain⟨_,rfl⟩:=len1 hl;rfl)) (λvs H Q E h=>?_) (λcdv A outer s H vs Q E hr h=>?_)
 ·first
  | (obtain⟨_,_,_,_,_,rfl,_⟩:=h;rfl)
 obtain⟨p,needs,leaves,ds,notes,rfl,hC,ln,ll,ld,lo,h9n,h9l,h9d,h9o,q⟩:=h
 refine⟨_,(zai (zan (zbA (zak Q11 hr rfl (zaa (pv 0) zab)) (zbA (zak Q13 hr rfl (zaO (zaU K (pv 0) rfl) zab)) (zb0 (zak Q15 hr rfl (zaa (pv 0) zab))))))),?_⟩
 unfold zdH at q
 ac_rfl
 refine⟨p,needs,leaves,_,notes,rfl,hC,ln,ll,h9n,h9l,λH1 s1=>?_⟩
 refine zc9 (λe=>?_) (λe=>by have q1:=q _ s1;rw[e] at q1;exact q1)
 rw[e,Bool.true_and] at q
 ac_rfl
 obtain⟨dx,w1,w2,w3,w4,hp,r1,r2,r3,r4⟩:=zbh.same s1 hC
 obtain⟨b3,rfl⟩:∃ b,w3=.ref b:=by unfold Rep at r3;obtain⟨a,_,e,_⟩:=r3;exact⟨a,e⟩
 refine⟨p,(C 0),dx,_,_,rfl,hp,Z.c_Craft,Z.n_Craft_deeds,zbq _ _ _ _,?_⟩
 ac_rfl
 refine⟨b3,ds,rfl,r3,ld,h9d,λH2 s2=>?_⟩
 have s3:=s1.trans s2
 refine zc9 (λe=>?_) (λe=>by have q1:=q _ s3;rw[e] at q1;exact q1)
 rw[e,Bool.true_and] at q
 ac_rfl
 exact⟨p,needs,leaves,ds,notes,rfl,zbh.same s3 hC,lo,h9o,λH4 s4=>q _ (s3.trans s4)⟩
inductive Q26 (K:Fg)(C:Nat->Addr)(vs:List V)(H:Hp)(Q:VK)(E:XK):Prop
 | mk (p:Addr) (place:Int) (needs leaves:List (List Int)) (deeds:List D) (notes:List (List (List Int))):vs=[.ref p,.int place]->zbh K (C 0) H p needs leaves deeds notes->0<=place->place<=(deeds.length:Int)->deeds.length=notes.length->deeds.length<=1000->leaves.length<=1000->(∀ l∈leaves,l.length=9)->(∀ ls∈notes,ls.length<=1000)->(∀ v H',Same H H'->New H H' (zaq (dueL leaves notes place)) v->Q v H')->Q26 K C vs H Q E
include B Z in
theorem zmD (Q25:Fn P w K mg b8 "between" ["low","number","high"] 1 (Q24 K))(Q8:Fn P w K mg b8 "copied_lines" ["lines"] 1 (Q7 K))(Q0:Fn P w K mg b8 "bare" ["i"] 1 (zd9 K))(Q5:Fn P w K mg b8 "turned" ["line","eight"] 2 (Q4 K))(F:Fun K "due_at" "due_at" zeJ f fd)(m:mg "due_at"=some (.ref f)):Fn P w K mg b8 "due_at" ["craft","place"] 3 (Q26 K C):=by
 refine Fn.of (k:=2) F ziT m (λ_ _ _ _ _ _ us hl=>(by obtain⟨_,_,rfl⟩:=len2 hl;rfl)) (λvs H Q E h=>?_) (λcdv A outer s H vs Q E hr h=>?_)
 ·first
  | (obtain⟨_,_,_,_,_,_,rfl,_⟩:=h;rfl)
 obtain⟨p,place,needs,leaves,deeds,notes,rfl,hC,h0,hn,hdn,h1000,hl1000,h9,hns,q⟩:=h
 obtain⟨ga,g_LEFT_AS_HANDS,hT⟩:=B.t_LEFT_AS_HANDS
 refine⟨_,(zae (za2 (zaz (k_eq K hr) (pv 1) (zar (zdV K) rfl B.len L2.boot_len (zaO (zaU K (pv 0) rfl) zab)) (zaw _)) (zae (zau (i:=2) ziT.nd rfl (Or.inr rfl) (zaX rfl (COk.m (sc0:=zaf zeJ) (N:=["craft","place","eight"]) (N':=["craft","place","eight","i"]) (ms:=[false,false,false,true])) (zhi K (zbu rfl g_LEFT_AS_HANDS)) (λ_ _ _ _ _=>(zas (i:=3) (ndS (N:=["craft","place","eight","i"])) rfl (Or.inl rfl))) (λ_ _ _ _ _=>zaD) (λ_ _ _ _ _=>(zak Q0 hr rfl (zaa (pv 3) zab)))))
   (zai (zan (zaX rfl (COk.m (sc0:=zaf zeJ) (N:=["craft","place","eight"]) (N':=["craft","place","eight","line"]) (ms:=[false,false,false,true])) (zaT K (zaU K (pv 0) rfl)) (λ_ _ _ _ _=>(zas (i:=3) (ndS (N:=["craft","place","eight","line"])) rfl (Or.inl rfl))) (λ_ _ _ _ _=>zaD) (λ_ _ _ _ _=>(zak Q5 hr rfl (zaa (pv 3) (zaa (pv 2) zab)))))))) zav)
   (zae (za2 (zbP (zak Q25 hr rfl (zaj zac (zaa (pv 1) (zaP (zat zih (zar (c_min rfl) rfl B.min L2.znh (zay (zar (zdV K) rfl B.len L2.boot_len (zaO (zaU K (pv 0) rfl) zab)) (zay (zar (zdV K) rfl B.len L2.boot_len (zaO (zaU K (pv 0) rfl) zab)) zab))) zac) zab))))) (zai (zan (zak Q8 hr rfl (zaK (zaH (k_ix K) (zaU K (pv 0) rfl) (pv 1) (λ_ _=>rfl)) zab)))) zav)
   (zai (zan (zaE zab))))),?_⟩
 obtain⟨dx,w1,w2,w3,w4,hp,r1,r2,r3,r4⟩:=hC
 unfold zaq Rep at r2
 unfold Rep at r3 r4
 obtain⟨b2,xs2,rfl,q2,z2⟩:=r2
 obtain⟨b3,xs3,rfl,q3,z3⟩:=r3
 obtain⟨b4,xs4,rfl,q4,z4⟩:=r4
 have m2:=z2.length
 have m3:=z3.length
 have m4:=z4.length
 rw[zlm] at m2 m4
 ac_rfl
 refine⟨p,(C 0),dx,_,_,rfl,hp,Z.c_Craft,Z.n_Craft_deeds,zbq _ _ _ _,?_⟩
 ac_rfl
 refine zeA (.inl q3) ?_
 ac_rfl
 unfold dueL at q
 refine ite2 (λe=>?_) (λe=>?_)
 ·have e':place=(xs3.length:Int):=of_decide_eq_true e
  rw[if_pos (by omega)] at q
  ac_rfl
  refine⟨ga,rfl,⟨_,hT _⟩,?_⟩
  refine zaI (n:=8) (zeg (xs:=zkf.map V.int) (hT H)) (zdb.map nums) (by simp[zdb,zkf]) (by decide) (λj x d H1 R hj hd s1 hx hR=>?_) (λv H1 s1 n1=>?_)
  ·unfold zdb at hd
   rw[zgm] at hx
   obtain⟨i,hi,rfl⟩:=zme.mp hx
   rw[zgm,zgm,hi] at hd
   cases hd
   ac_rfl
   refine zcS λv H2 s2 n2=>?_
   exact hR _ _ s2 n2
  have hE:Rep K H1 (.lst (zdb.map nums)) v:=New.rep n1
  obtain⟨ea,evs,rfl,ea0,ea1,ew⟩:=New.news n1
  ac_rfl
  refine⟨p,(C 0),dx,_,_,rfl,s1 _ _ hp,Z.c_Craft,Z.n_Craft_leaves,zbm _ _ _ _,?_⟩
  refine⟨b2,rfl,⟨_,s1.seq q2⟩,?_⟩
  refine zaI (zaS (s1.seq q2)) ((leaves.map λl=>zaR l zdb).map nums) (by rw[zlm,zlm];omega) (zal (by omega)) (λj x d H2 R hj hd s2 hx hR=>?_) (λv H2 s2 n2=>?_)
  ·obtain⟨d2,hd2,hrx⟩:=Reps.get' z2 hx
   rw[zgm] at hd2
   obtain⟨l,hl,rfl⟩:=zme.mp hd2
   rw[zgm,zgm,hl] at hd
   cases hd
   obtain⟨xa,rfl,hxa⟩:=za3.mp (Rep.same (s1.trans s2) _ hrx)
   have l9:=h9 l (zmg hl)
   cases l with
   | nil=>simp at l9
   | cons c fs=>
    ac_rfl
    refine⟨xa,ea,c,fs,zdb,rfl,hxa,Rep.same s2 _ hE,by simpa using l9,by simp[zdb,zkf],zkQ,λi l w el _ n hn=>?_,λv' H3 s3 n3=>?_⟩
    ·rcases zkR l (zmg el) n hn with z | z <;> subst z <;> exact .inl ⟨by decide,by decide⟩
    ·exact hR _ _ s3 n3
  exact q _ _ (s1.trans s2) (n2.back s1)
 ·have e':¬ place=(xs3.length:Int):=of_decide_eq_false (Bool.eq_false_iff.mpr e)
  rw[if_neg (by omega)] at q
  ac_rfl
  refine⟨p,(C 0),dx,_,_,rfl,hp,Z.c_Craft,Z.n_Craft_deeds,zbq _ _ _ _,?_⟩
  ac_rfl
  refine zeA (.inl q3) ?_
  ac_rfl
  refine⟨p,(C 0),dx,_,_,rfl,hp,Z.c_Craft,Z.n_Craft_notes,zbI _ _ _ _,?_⟩
  ac_rfl
  refine zeA (.inl q4) ?_
  ac_rfl
  refine i_min ?_
  ac_rfl
  refine zcF ?_
  rw[show (if ((xs4.length:Nat):Int)<((xs3.length:Nat):Int) then ((xs4.length:Nat):Int) else ((xs3.length:Nat):Int))=(xs3.length:Int) by rw[if_neg (by omega)],decide_eq_true h0,decide_eq_true (show place<=(xs3.length:Int) - 1 by omega)]
  show ∃ c,V.bl true=.bl c/\_
  ac_rfl
  refine⟨p,(C 0),dx,_,_,rfl,hp,Z.c_Craft,Z.n_Craft_notes,zbI _ _ _ _,?_⟩
  ac_rfl
  have pl:place.toNat<notes.length:=by omega
  obtain⟨x,hx,hr4⟩:=z4.get (i:=place.toNat) (d:=zaq notes[place.toNat]) (by simp[pl])
  have ei:atI xs4 place=some x:=by
   have:=zaA hx
   rwa [show ((place.toNat:Nat):Int)=place by omega] at this
  obtain⟨b,rfl⟩:∃ b,x=.ref b:=by unfold zaq Rep at hr4;obtain⟨a,_,e,_⟩:=hr4;exact⟨a,e⟩
  refine zbE q4 ei ?_
  ac_rfl
  refine⟨b,_,rfl,hr4,hns _ (List.getElem_mem pl),λv H1 s1 n1=>?_⟩
  refine q _ _ s1 ?_
  rw[show notes.getD place.toNat []=notes[place.toNat] by simp[List.getD,pl]]
  exact n1
inductive Q39 (K:Fg)(vs:List V)(H:Hp)(Q:VK)(E:XK):Prop
 | mk (d:Addr) (kvs:List (Key × V)) (ch:Nat->Option (List Int)):vs=[.ref d]->H d=some (.dK kvs)->(∀ i:Nat,i<8->(ch i=none/\valV kvs (.inl (0+(i:Int)))=none)\/∃ a l,ch i=some l/\valV kvs (.inl (0+(i:Int)))=some (.ref a)/\l.length=9/\H a=some (.lst (l.map V.int)))->(∀ a H',Same H H'->H a=none->Ls H' a (zaL ch)->Q (.ref a) H')->Q39 K vs H Q E
theorem zi0 (i:Int):(zaC i).length=9:=by simp[zaC]
theorem zbj (ch:Nat->Option (List Int)):(zaL ch).length=8:=by simp[zaL]
theorem zk2 {i n:Int}(h:n∈zaC i):n=0\/n=1:=by
 unfold zaC at h
 rcases List.mem_cons.mp h with h | h
 ·exact .inl h
 ·obtain⟨k,_,rfl⟩:=zmm.mp h
  split
  ·exact .inr rfl
  ·exact .inl rfl
theorem zbY (i:Int):Sm (zaC i):=λn hn=>by rcases zk2 hn with z | z <;> subst z <;> exact⟨by decide,by decide⟩
theorem zdB {eight:List (List Int)}{ws:List Int}(h:∀ l∈eight,Sm l):znA eight ws:=λi l w e _ n hn=>.inl (h l (zmg e) n hn)
theorem zbb {ch:Nat->Option (List Int)}{P:List Int->Prop}(hb:∀ i:Int,P (zaC i))(hc:∀ i l,ch i=some l->P l):∀ l∈zaL ch,P l:=λl hl=>by
 obtain⟨i,_,rfl⟩:=zmm.mp hl
 cases e:ch i with
 | none=>exact hb _
 | some l=>exact hc i l e
theorem zfr {k:Int}{l:List Int}{P:List Int->Prop}(h:P l):∀ i m,ch1 k l i=some m->P m:=λi m e=>by
 unfold ch1 at e
 split at e
 ·cases e;exact h
 ·cases e
theorem zmE {H:Hp}{k:Int}{l:List Int}{a:Addr}(h9:l.length=9)(ha:H a=some (.lst (l.map V.int))):∀ i:Nat,i<8->(ch1 k l i=none/\valV (zbB [] [(Sum.inl k,V.ref a)]) (.inl (0+(i:Int)))=none)\/∃ b m,ch1 k l i=some m/\valV (zbB [] [(Sum.inl k,V.ref a)]) (.inl (0+(i:Int)))=some (.ref b)/\m.length=9/\H b=some (.lst (m.map V.int)):=λi _=>by
 have e:valV (zbB [] [((Sum.inl k:Key),V.ref a)]) (.inl (0+(i:Int)))=if (Sum.inl (0+(i:Int)):Key)=Sum.inl k then some (.ref a) else none:=by
  show valV (putK [] _ _) _=_
  rw[zee];rfl
 by_cases z:k=0+(i:Int)
 ·refine .inr ⟨a,l,by unfold ch1;rw[if_pos z],?_,h9,ha⟩
  rw[e,if_pos (by rw[z])]
 ·refine .inl ⟨by unfold ch1;rw[if_neg z],?_⟩
  rw[e,if_neg (by intro w;injection w with w;exact z w.symm)]
theorem zh7 {k0 k1:Int}{l0 l1:List Int}{P:List Int->Prop}(h0:P l0)(h1:P l1):∀ i m,ch2 k0 l0 k1 l1 i=some m->P m:=λi m e=>by
 unfold ch2 at e
 split at e
 ·cases e;exact h1
 split at e
 ·cases e;exact h0
 ·cases e
theorem zob {H:Hp}{k0 k1:Int}{l0 l1:List Int}{a0 a1:Addr}(h90:l0.length=9)(h91:l1.length=9)(ha0:H a0=some (.lst (l0.map V.int)))(ha1:H a1=some (.lst (l1.map V.int))):∀ i:Nat,i<8->(ch2 k0 l0 k1 l1 i=none/\valV (zbB [] [(Sum.inl k0,V.ref a0),(Sum.inl k1,V.ref a1)]) (.inl (0+(i:Int)))=none)\/∃ b m,ch2 k0 l0 k1 l1 i=some m/\valV (zbB [] [(Sum.inl k0,V.ref a0),(Sum.inl k1,V.ref a1)]) (.inl (0+(i:Int)))=some (.ref b)/\m.length=9/\H b=some (.lst (m.map V.int)):=λi _=>by
 have e:valV (zbB [] [((Sum.inl k0:Key),V.ref a0),(Sum.inl k1,V.ref a1)]) (.inl (0+(i:Int)))=if (Sum.inl (0+(i:Int)):Key)=Sum.inl k1 then some (.ref a1) else if (Sum.inl (0+(i:Int)):Key)=Sum.inl k0 then some (.ref a0) else none:=by
  show valV (putK (putK [] _ _) _ _) _=_
  rw[zee,zee];rfl
 by_cases z1:k1=0+(i:Int)
 ·refine .inr ⟨a1,l1,by unfold ch2;rw[if_pos z1],?_,h91,ha1⟩
  rw[e,if_pos (by rw[z1])]
 ·have n1:¬ (Sum.inl (0+(i:Int)):Key)=Sum.inl k1:=by intro w;injection w with w;exact z1 w.symm
  by_cases z0:k0=0+(i:Int)
  ·refine .inr ⟨a0,l0,by unfold ch2;rw[if_neg z1,if_pos z0],?_,h90,ha0⟩
   rw[e,if_neg n1,if_pos (by rw[z0])]
  ·refine .inl ⟨by unfold ch2;rw[if_neg z1,if_neg z0],?_⟩
   rw[e,if_neg n1,if_neg (by intro w;injection w with w;exact z0 w.symm)]
include B Z in
theorem zh8 (Q0:Fn P w K mg b8 "bare" ["i"] 1 (zd9 K))(F:Fun K "eight_with" "eight_with" zcI f fd)(m:mg "eight_with"=some (.ref f)):Fn P w K mg b8 "eight_with" ["changes"] 2 (Q39 K):=by
 refine Fn.of (k:=1) F zhY m (λ_ _ _ _ _ _ us hl=>(by obtain⟨_,rfl⟩:=len1 hl;rfl)) (λvs H Q E h=>?_) (λcdv A outer s H vs Q E hr h=>?_)
 ·first
  | (obtain⟨_,_,_,rfl,_⟩:=h;rfl)
 obtain⟨d,kvs,ch,rfl,hd,hch,q⟩:=h
 refine⟨_,(zai (zan (zaX rfl (COk.m (sc0:=zaf zcI) (N:=["changes"]) (N':=["changes","i"]) (ms:=[false,true])) (zbs rfl B.range (zaa (za1 rfl B.c_FACTORS) zab)) (λ_ _ _ _ _=>(zas (i:=1) (ndS (N:=["changes","i"])) rfl (Or.inl rfl))) (λ_ _ _ _ _=>zaD) (λ_ _ _ _ _=>(zm1 (hr_u hr) (pv 0) (pv 1) (zak Q0 hr rfl (zaa (pv 1) zab)) ⟨rfl,rfl,rfl,rfl⟩))))),?_⟩
 have h9:∀ l∈zaL ch,l.length=9:=λl hl=>by
  obtain⟨i,hi,rfl⟩:=zmm.mp hl
  rcases hch i (List.mem_range.mp hi) with ⟨e,_⟩ | ⟨a,l,e,_,hl9,_⟩
  ·rw[e];exact zi0 _
  ·rw[e];exact hl9
 ac_rfl
 refine zch (by decide) (by decide) ?_
 refine zoP (n:=8) zbL (zaL ch) (zbj ch) (by decide) h9 (λi x l H1 R hi hl s1 hx hR=>?_) (λa H1 s1 ha hL=>?_)
 ·subst hx
  have el:l=(ch i).getD (zaC (0+(i:Int))):=by
   unfold zaL at hl
   rw[zgm,List.getElem?_range hi] at hl
   cases hl;rfl
  ac_rfl
  refine⟨d,rfl,.inl ⟨kvs,.inl (s1 _ _ hd)⟩,?_⟩
  ac_rfl
  refine zcS λv H2 s2 n2=>?_
  obtain⟨b,rfl,b0,b1⟩:=New.iif.mp n2
  have hg:DGet H2 d (.int (0+(i:Int))) (valV kvs (.inl (0+(i:Int)))):=DGet.k (k:=.inl (0+(i:Int))) (s2 _ _ (s1 _ _ hd))
  refine⟨_,hg,?_⟩
  rcases hch i hi with ⟨e,ev⟩ | ⟨a,l',e,ev,_,ha⟩
  ·rw[ev]
   exact hR b _ s2 (by rw[el,e];exact b1)
  ·rw[ev]
   exact hR a _ s2 (by rw[el,e];exact s2 _ _ (s1 _ _ ha))
 ·ac_rfl
  exact q a H1 s1 ha hL
inductive Q35 (K:Fg)(vs:List V)(H:Hp)(Q:VK)(E:XK):Prop
 | mk (a b:Addr) (goals hyps:List (List Int)):vs=[.ref a,.ref b]->Rep K H (zaq goals) (.ref a)->Rep K H (zaq hyps) (.ref b)->goals.length<=1000->hyps.length<=1000->(∀ v H',Same H H'->New H H' (.lst (goals.map λg=>zdJ g hyps)) v->Q v H')->Q35 K vs H Q E
include B Z in
theorem zi1 (Q8:Fn P w K mg b8 "copied_lines" ["lines"] 1 (Q7 K))(F:Fun K "each_from" "each_from" zdn f fd)(m:mg "each_from"=some (.ref f)):Fn P w K mg b8 "each_from" ["goals","hypotheses"] 2 (Q35 K):=by
 refine Fn.of (k:=1) F ziU m (λ_ _ _ _ _ _ us hl=>(by obtain⟨_,_,rfl⟩:=len2 hl;rfl)) (λvs H Q E h=>?_) (λcdv A outer s H vs Q E hr h=>?_)
 ·first
  | (obtain⟨_,_,_,_,rfl,_⟩:=h;rfl)
 obtain⟨a,b,goals,hyps,rfl,hA,hB,hg,hh,q⟩:=h
 refine⟨_,(zai (zan (zaX rfl (COk.m (sc0:=zaf zdn) (N:=["goals","hypotheses"]) (N':=["goals","hypotheses","goal"]) (ms:=[false,false,true])) (zaT K (pv 0)) (λ_ _ _ _ _=>(zas (i:=2) (ndS (N:=["goals","hypotheses","goal"])) rfl (Or.inl rfl))) (λ_ _ _ _ _=>zaD) (λ_ _ _ _ _=>(zdP (zay (zc7 (zlS K) rfl B.list L2.zcx (zaa (pv 2) zab)) (zay (zak Q8 hr rfl (zaa (pv 1) zab)) zab))))))),?_⟩
 unfold zaq Rep at hA
 obtain⟨_,xs,e,hA,hx⟩:=hA
 cases e
 have lx:=hx.length
 rw[zlm] at lx
 ac_rfl
 refine⟨a,rfl,⟨_,hA⟩,?_⟩
 refine zaI (zaS hA) (goals.map λg=>zdJ g hyps) (by simp[lx]) (zal (by omega)) (λi x d H1 R hi hd s1 hx' hR=>?_) (λv H1 s1 n1=>?_)
 ·obtain⟨d2,hd2,hrx⟩:=hx.get' hx'
  rw[zgm] at hd2
  obtain⟨l,hl',rfl⟩:=zme.mp hd2
  rw[zgm,hl'] at hd
  cases hd
  obtain⟨xa,rfl,hxa⟩:=za3.mp (Rep.same s1 _ hrx)
  ac_rfl
  refine zhK (.inl hxa) λp hp=>?_
  have t1:=zag hp (.lst (l.map V.int))
  ac_rfl
  refine⟨b,hyps,rfl,Rep.same (s1.trans t1) _ hB,hh,λv H2 s2 n2=>?_⟩
  ac_rfl
  refine⟨(by walk_at "sm"),λT hT=>?_⟩
  have t3:=zag hT (.tup [.ref p,v])
  obtain⟨fp,f1,f2,f3⟩:=n2
  have pn:p∉fp:=λm=>by have:=f3 p m;rw[zad] at this;cases this
  refine hR _ _ (t1.trans (s2.trans t3)) (New.tup (fp:=p::fp) (zah.cany (f:=[p]) (fp:=fp) (RepF.line (t3 _ _ (s2 _ _ zad))) ?_) (List.nodup_cons.mpr ⟨pn,f2⟩) (λc hc=>?_) zad)
  ·have:=zah.cany (RepF.sq t3.sq _ f1) (zah.nil (H:=upd H2 T (.tup [.ref p,v])))
   rw[List.append_nil] at this
   exact this
  ·rcases List.mem_cons.mp hc with z | z
   ·rw[z];exact hp
   ·exact t1.free (f3 c z)
 ·ac_rfl
  exact q _ _ s1 n1
inductive Q37 (K:Fg)(vs:List V)(H:Hp)(Q:VK)(E:XK):Prop
 | mk (a b:Addr) (ls eight:List (List Int)):vs=[.ref a,.ref b]->Rep K H (zaq ls) (.ref a)->Rep K H (.lst (eight.map nums)) (.ref b)->ls.length<=1000->(∀ l∈ls,l.length=9/\znA eight l.tail)->eight.length=8->(∀ l∈eight,l.length=9)->(∀ v H',Same H H'->New H H' (zaq (ls.map λl=>zaR l eight)) v->Q v H')->Q37 K vs H Q E
include B Z in
theorem zh9 (Q5:Fn P w K mg b8 "turned" ["line","eight"] 2 (Q4 K))(F:Fun K "all_turned" "all_turned" zcH f fd)(m:mg "all_turned"=some (.ref f)):Fn P w K mg b8 "all_turned" ["lines","eight"] 3 (Q37 K):=by
 refine Fn.of (k:=2) F zhX m (λ_ _ _ _ _ _ us hl=>(by obtain⟨_,_,rfl⟩:=len2 hl;rfl)) (λvs H Q E h=>?_) (λcdv A outer s H vs Q E hr h=>?_)
 ·first
  | (obtain⟨_,_,_,_,rfl,_⟩:=h;rfl)
 obtain⟨a,b,ls,eight,rfl,hA,hB,hl,hk,l8,e9,q⟩:=h
 refine⟨_,(zai (zan (zaX rfl (COk.m (sc0:=zaf zcH) (N:=["lines","eight"]) (N':=["lines","eight","line"]) (ms:=[false,false,true])) (zaT K (pv 0)) (λ_ _ _ _ _=>(zas (i:=2) (ndS (N:=["lines","eight","line"])) rfl (Or.inl rfl))) (λ_ _ _ _ _=>zaD) (λ_ _ _ _ _=>(zak Q5 hr rfl (zaa (pv 2) (zaa (pv 1) zab))))))),?_⟩
 unfold zaq Rep at hA
 obtain⟨_,xs,e,hA,hx⟩:=hA
 cases e
 have lx:=hx.length
 rw[zlm] at lx
 ac_rfl
 refine⟨a,rfl,⟨_,hA⟩,?_⟩
 refine zaI (zaS hA) ((ls.map λl=>zaR l eight).map nums) (by simp[lx]) (zal (by omega)) (λi x d H1 R hi hd s1 hx' hR=>?_) (λv H1 s1 n1=>?_)
 ·obtain⟨d2,hd2,hrx⟩:=hx.get' hx'
  rw[zgm] at hd2
  obtain⟨l,hl',rfl⟩:=zme.mp hd2
  rw[zgm,zgm,hl'] at hd
  cases hd
  obtain⟨xa,rfl,hxa⟩:=za3.mp (Rep.same s1 _ hrx)
  obtain⟨l9,ok⟩:=hk l (zmg hl')
  obtain⟨c,fs,rfl⟩:∃ c fs,l=c::fs:=by
   cases l with
   | nil=>simp at l9
   | cons c fs=>exact⟨c,fs,rfl⟩
  ac_rfl
  refine⟨xa,b,c,fs,eight,rfl,hxa,Rep.same s1 _ hB,by simpa using l9,l8,e9,ok,λv H2 s2 n2=>?_⟩
  exact hR _ _ s2 n2
 ·ac_rfl
  exact q _ _ s1 n1
abbrev zoc:=kL
def zb6 (K:Fg):Sp:=λvs H Q _=>∃ i:Int,vs=[.int i]/\∀ v H',Same H H'->New H H' (nums (zoc i)) v->Q v H'
theorem zfs {H:Hp}{Q:VK}{E:XK}{i:Int}(q:∀ v H',Same H H'->New H H' (nums (zoc i)) v->Q v H'):zb6 K [.int i] H Q E:=⟨i,rfl,q⟩
include B Z in
theorem zjO (F:Fun K "constant" "constant" ze9 f fd)(m:mg "constant"=some (.ref f)):Fn P w K mg b8 "constant" ["number"] 1 (zb6 K):=by
 refine Fn.of (k:=0) F zjJ m (λ_ _ _ _ _ _ us hl=>(by obtain⟨_,rfl⟩:=len1 hl;rfl)) (λvs H Q E h=>?_) (λcdv A outer s H vs Q E hr h=>?_)
 ·first
  | (obtain⟨_,rfl,_⟩:=h;rfl)
 obtain⟨i,rfl,q⟩:=h
 refine⟨_,(zai (zan (zat (zaF K) (zaE (zaa (pv 0) zab)) (zat zaV (zaE (zaj zac zab)) (za1 rfl B.c_FACTORS))))),?_⟩
 ac_rfl
 refine⟨(by walk_at "sm"),λp hp=>?_⟩
 ac_rfl
 refine⟨(by walk_at "sm"),λp2 hp2=>?_⟩
 ac_rfl
 refine .inr ⟨p2,8,[.int 0],rfl,rfl,zad,by decide,by decide,by decide,λp3 hp3=>?_⟩
 have t1:=zag hp (.lst [.int i])
 have t2:=zag hp2 (.lst [.int 0])
 have t3:=zag hp3 (.lst (List.replicate (8:Int).toNat [V.int 0]).flatten)
 ac_rfl
 refine zbe (t3 _ _ (t2 _ _ zad)) zad (zal (by show 1+8<=1000;decide)) λp4 hp4=>?_
 have s:=t1.trans (t2.trans t3)
 exact q _ _ (s.trans (zag hp4 _)) (New.iif.mpr ⟨p4,rfl,s.free hp4,zad⟩)
theorem sm_k {n:Int}(h:-(2 ^ 64)<n/\n<2 ^ 64):Sm (kL n):=λm hm=>by
 unfold kL at hm
 rcases List.mem_cons.mp hm with z | z
 ·rw[z];exact h
 ·rw[(List.mem_replicate.mp z).2];exact⟨by decide,by decide⟩
theorem zmF {P:List Int->Prop}(h4:P (zaC 4))(h5:P (zaC 5))(hk:P (kL 0)):∀ i m,ch4 i=some m->P m:=λi m e=>by
 unfold ch4 at e
 split at e
 ·cases e;exact h4
 split at e
 ·cases e;exact h5
 split at e
 ·cases e;exact hk
 split at e
 ·cases e;exact hk
 ·cases e
theorem zqx {H:Hp}{a b c d:Addr}(ha:H a=some (.lst ((zaC 4).map V.int)))(hb:H b=some (.lst ((zaC 5).map V.int)))(hc:H c=some (.lst ((kL 0).map V.int)))(hd:H d=some (.lst ((kL 0).map V.int))):∀ i:Nat,i<8->(ch4 i=none/\valV (zbB [] [(Sum.inl 0,V.ref a),(Sum.inl 1,V.ref b),(Sum.inl 2,V.ref c),(Sum.inl 3,V.ref d)]) (.inl (0+(i:Int)))=none)\/∃ x m,ch4 i=some m/\valV (zbB [] [(Sum.inl 0,V.ref a),(Sum.inl 1,V.ref b),(Sum.inl 2,V.ref c),(Sum.inl 3,V.ref d)]) (.inl (0+(i:Int)))=some (.ref x)/\m.length=9/\H x=some (.lst (m.map V.int)):=λi hi=>by
 have e:∀ k:Key,valV (zbB [] [((Sum.inl 0:Key),V.ref a),(Sum.inl 1,V.ref b),(Sum.inl 2,V.ref c),(Sum.inl 3,V.ref d)]) k=if k=Sum.inl 3 then some (.ref d) else if k=Sum.inl 2 then some (.ref c) else if k=Sum.inl 1 then some (.ref b) else if k=Sum.inl 0 then some (.ref a) else none:=λk=>by
  simp only[zbB,List.foldl_cons,List.foldl_nil,zee]
  rfl
 rw[e]
 match i,hi with
 | 0,_=>exact .inr ⟨a,_,rfl,rfl,zap 4,ha⟩
 | 1,_=>exact .inr ⟨b,_,rfl,rfl,zap 5,hb⟩
 | 2,_=>exact .inr ⟨c,_,rfl,rfl,zbf 0,hc⟩
 | 3,_=>exact .inr ⟨d,_,rfl,rfl,zbf 0,hd⟩
 | 4,_=>exact .inl ⟨rfl,rfl⟩
 | 5,_=>exact .inl ⟨rfl,rfl⟩
 | 6,_=>exact .inl ⟨rfl,rfl⟩
 | 7,_=>exact .inl ⟨rfl,rfl⟩
inductive Q29 (K:Fg)(C:Nat->Addr)(vs:List V)(H:Hp)(Q:VK)(E:XK):Prop
 | mk (p:Addr) (needs leaves:List (List Int)) (deeds:List D) (notes:List (List (List Int))):vs=[.ref p]->zbh K (C 0) H p needs leaves deeds notes->Good needs leaves deeds.length notes->(∀ v H',Same H H'->New H H' (.lst (ziP needs leaves notes)) v->Q v H')->Q29 K C vs H Q E
include B Z in
theorem zgL (Q3a:Fn P w K mg b8 "eight_with" ["changes"] 2 (Q39 K))(Q36:Fn P w K mg b8 "each_from" ["goals","hypotheses"] 2 (Q35 K))(Q38:Fn P w K mg b8 "all_turned" ["lines","eight"] 3 (Q37 K))(Q0:Fn P w K mg b8 "bare" ["i"] 1 (zd9 K))(Q3b:Fn P w K mg b8 "constant" ["number"] 1 (zb6 K))(Q27:Fn P w K mg b8 "due_at" ["craft","place"] 3 (Q26 K C))(F:Fun K "first_duties" "first_duties" zcX f fd)(m:mg "first_duties"=some (.ref f)):Fn P w K mg b8 "first_duties" ["craft"] 4 (Q29 K C):=by
 refine Fn.of (k:=3) F zd7 m (λ_ _ _ _ _ _ us hl=>(by obtain⟨_,rfl⟩:=len1 hl;rfl)) (λvs H Q E h=>?_) (λcdv A outer s H vs Q E hr h=>?_)
 ·first
  | (obtain⟨_,_,_,_,_,rfl,_⟩:=h;rfl)
 obtain⟨p,needs,leaves,deeds,notes,rfl,hC,hg,q⟩:=h
 refine⟨_,(zae (zau (i:=1) zd7.nd rfl (Or.inl rfl) (zak Q3a hr rfl (za0 (zfe (zbQ zac (zak Q0 hr rfl (zaa (za1 rfl B.c_ASKED_0) zab)) (zbQ zac (zak Q0 hr rfl (zaa (za1 rfl B.c_ASKED_1) zab)) (zbQ zac (zak Q3b hr rfl (zaj zac zab)) (zbQ zac (zak Q3b hr rfl (zaj zac zab)) zfd)))) rfl rfl (by simp) (by simp)) zab)))
   (zai (zan (zak Q36 hr rfl (zay (zak Q38 hr rfl (zay (zak Q27 hr rfl (zaa (pv 0) (zaj zac zab))) (zaa (pv 1) zab))) (zaO (zaU K (pv 0) rfl) zab)))))),?_⟩
 walk_at "q"
 nofun
 refine zhk λdp hdp=>?_
 have u0:=zag hdp (.dK [])
 nofun
 refine zcS λv H1 s1 n1=>?_
 obtain⟨b1,rfl,b10,b11⟩:=New.iif.mp n1
 nofun
 refine zcS λv H2 s2 n2=>?_
 obtain⟨b2,rfl,b20,b21⟩:=New.iif.mp n2
 nofun
 refine zfs λv H3 s3 n3=>?_
 obtain⟨b3,rfl,b30,b31⟩:=New.iif.mp n3
 nofun
 refine zfs λv H4 s4 n4=>?_
 obtain⟨b4,rfl,b40,b41⟩:=New.iif.mp n4
 nofun
 have d1:H1 dp=some (.dK []):=s1 _ _ zad
 have d4:H4 dp=some (.dK []):=s4 _ _ (s3 _ _ (s2 _ _ d1))
 have ne:∀ {b:Addr}{l:List Int},H4 b=some (.lst (l.map V.int))->b≠dp:=λe z=>by rw[z,d4] at e;cases e
 have f1:=s4 _ _ (s3 _ _ (s2 _ _ b11))
 have f2:=s4 _ _ (s3 _ _ b21)
 have f3:=s4 _ _ b31
 refine⟨d4,[(.inl 0,.ref b1),(.inl 1,.ref b2),(.inl 2,.ref b3),(.inl 3,.ref b4)],rfl,by simp,?_⟩
 have s05:Same H (upd H4 dp (.dK (zbB [] [(.inl 0,.ref b1),(.inl 1,.ref b2),(.inl 2,.ref b3),(.inl 3,.ref b4)]))):=(u0.trans (s1.trans (s2.trans (s3.trans s4)))).put hdp
 nofun
 refine⟨dp,_,ch4,rfl,zad,zqx (by rw[zam (ne f1)];exact f1) (by rw[zam (ne f2)];exact f2) (by rw[zam (ne f3)];exact f3) (by rw[zam (ne b41)];exact b41),λea H6 s6 ea0 hE=>?_⟩
 have s06:=s05.trans s6
 have m9:∀ l∈zaL ch4,l.length=9:=zbb (λi=>zap i) (zmF (zap 4) (zap 5) (zbf 0))
 have msm:∀ l∈zaL ch4,Sm l:=zbb (λi=>zbY i) (zmF (zbY 4) (zbY 5) (sm_k ⟨by decide,by decide⟩))
 have gd:=hg.due 0
 nofun
 refine⟨p,0,needs,leaves,deeds,notes,rfl,hC.same s06,by decide,by omega,hg.dn,by have:=hg.d;omega,by have:=hg.l;omega,hg.l9,λls hl=>by have:=(hg.o ls hl).1;omega,λv H7 s7 n7=>?_⟩
 have rv:=New.rep (K:=K) n7
 obtain⟨da,rfl⟩:∃ b,v=.ref b:=by obtain⟨b,_,e,_⟩:=New.news n7;exact⟨b,e⟩
 nofun
 refine⟨da,ea,_,zaL ch4,rfl,rv,(hE.same s7).rep,by omega,λl hl=>⟨gd.2 l hl,zdB msm⟩,zbj _,m9,λv H8 s8 n8=>?_⟩
 have rv8:=New.rep (K:=K) n8
 obtain⟨ga,rfl⟩:∃ b,v=.ref b:=by obtain⟨b,_,e,_⟩:=New.news n8;exact⟨b,e⟩
 have s08:=s06.trans (s7.trans s8)
 obtain⟨dx,w1,w2,w3,w4,hp,r1,r2,r3,r4⟩:=hC.same s08
 obtain⟨y1,rfl⟩:∃ b,w1=.ref b:=by unfold zaq Rep at r1;obtain⟨a,_,e,_⟩:=r1;exact⟨a,e⟩
 nofun
 refine⟨p,(C 0),dx,_,_,rfl,hp,Z.c_Craft,Z.n_Craft_needs,zbH _ _ _ _,?_⟩
 nofun
 refine⟨ga,y1,_,needs,rfl,rv8,r1,by simp;omega,by have:=hg.n;omega,λv H9 s9 n9=>?_⟩
 exact q _ _ (s08.trans s9) (n9.back s08)
--LEN (obtain ⟨_, _, _, _, _, _, _, _, _, _, _, _, _, _, _, _, _, rfl, _⟩ := h; rfl)
inductive Q33 (K:Fg)(C:Nat->Addr)(vs:List V)(H:Hp)(Q:VK)(E:XK):Prop
 | mk (t na aa o g2 t2:Addr) (m g0 g1 t0 t1:Int) (notes after needs leaves:List (List Int)) (deeds:List D) (ns:List (List (List Int))):vs=[.ref t,.ref na,.ref aa,.ref o]->SqT K H t [.str "call",.int m,.ref g2,.ref t2]->SqT K H g2 [.int g0,.int g1]->SqT K H t2 [.int t0,.int t1]->Ls H na notes->Rep K H (zaq after) (.ref aa)->notes.length<=100->after.length<=100->(∀ l∈notes,l.length=9)->(∀ l∈after,l.length=9)->zbh K (C 0) H o needs leaves deeds ns->Good needs leaves deeds.length ns->(∀ v H',Same H H'->New H H' (.lst (((needs.map λl=>zaR l (zaL (ch2 4 (zaC g0) 5 (zaC g1)))).map λg=>zdJ g notes)++(after.map λl=>zaR l (zaL (ch2 t0 (zaC 6) t1 (zaC 7)))).map λg=>zdJ g (notes++leaves.map λl=>zaR l (zaL (ch2 4 (zaC g0) 5 (zaC g1)))))) v->Q v H')->Q33 K C vs H Q E
include B Z in
theorem zg0 (Q3a:Fn P w K mg b8 "eight_with" ["changes"] 2 (Q39 K))(Q36:Fn P w K mg b8 "each_from" ["goals","hypotheses"] 2 (Q35 K))(Q38:Fn P w K mg b8 "all_turned" ["lines","eight"] 3 (Q37 K))(Q0:Fn P w K mg b8 "bare" ["i"] 1 (zd9 K))(F:Fun K "call_duties" "call_duties" zdm f fd)(m:mg "call_duties"=some (.ref f)):Fn P w K mg b8 "call_duties" ["deed","notes","after","other"] 4 (Q33 K C):=by
 refine Fn.of (k:=3) F zbn m (λ_ _ _ _ _ _ us hl=>(by obtain⟨_,_,_,_,rfl⟩:=len4 hl;rfl)) (λvs H Q E h=>?_) (λcdv A outer s H vs Q E hr h=>?_)
 ·first
  | (obtain⟨_,_,_,_,_,_,_,_,_,_,_,_,_,_,_,_,_,rfl,_⟩:=h;rfl)
 obtain⟨t,na,aa,o,g2,t2,m,g0,g1,t0,t1,notes,after,needs,leaves,deeds,ns,rfl,hT,hG,hK,hN,hA,ln,lf,o9,a9,hC,hg,q⟩:=h
 refine⟨_,(zae (zau (i:=4) zbn.nd rfl (Or.inl rfl) (zaH (k_ix K) (pv 0) zac (λ_ _=>rfl)))
   (zae (zau (i:=5) zbn.nd rfl (Or.inl rfl) (zaH (k_ix K) (pv 0) zac (λ_ _=>rfl)))
   (zae (zau (i:=6) zbn.nd rfl (Or.inl rfl) (zak Q3a hr rfl (za0 (zfe (zbQ (za1 rfl B.c_ASKED_0) (zak Q0 hr rfl (zaK (zaH (k_ix K) (pv 4) zac (λ_ _=>rfl)) zab)) (zbQ (za1 rfl B.c_ASKED_1) (zak Q0 hr rfl (zaK (zaH (k_ix K) (pv 4) zac (λ_ _=>rfl)) zab)) zfd)) rfl rfl (by simp) (by simp)) zab)))
   (zae (zau (i:=7) zbn.nd rfl (Or.inl rfl) (zak Q3a hr rfl (za0 (zfe (zbQ (zaH (k_ix K) (pv 5) zac (λ_ _=>rfl)) (zak Q0 hr rfl (zaa (za1 rfl B.c_NEW_0) zab)) (zbQ (zaH (k_ix K) (pv 5) zac (λ_ _=>rfl)) (zak Q0 hr rfl (zaa (za1 rfl B.c_NEW_1) zab)) zfd)) rfl rfl (by simp) (by simp)) zab)))
   (zae (zau (i:=8) zbn.nd rfl (Or.inl rfl) (zak Q36 hr rfl (zay (zak Q38 hr rfl (zaO (zaU K (pv 3) rfl) (zaa (pv 6) zab))) (zaa (pv 1) zab))))
   (zai (zan (zat (zaF K) (pv 8) (zak Q36 hr rfl (zay (zak Q38 hr rfl (zaa (pv 2) (zaa (pv 7) zab))) (zaP (zat (zaF K) (pv 1) (zak Q38 hr rfl (zaO (zaU K (pv 3) rfl) (zaa (pv 6) zab)))) zab))))))))))),?_⟩
 walk_at "q"
 nofun
 refine za4 hT (v:=.ref g2) (zaA (j:=2) rfl) ?_
 nofun
 walk_at "q"
 nofun
 refine za4 hT (v:=.ref t2) (zaA (j:=3) rfl) ?_
 nofun
 walk_at "q"
 nofun
 refine zhk λdp hdp=>?_
 have u0:=zag hdp (.dK [])
 nofun
 refine za4 (u0.tup hG) (v:=.int g0) zbt ?_
 nofun
 refine zcS λv H1 s1 n1=>?_
 obtain⟨b1,rfl,b10,b11⟩:=New.iif.mp n1
 nofun
 refine za4 ((u0.trans s1).tup hG) (v:=.int g1) (zaA (j:=1) rfl) ?_
 nofun
 refine zcS λv H2 s2 n2=>?_
 obtain⟨b2,rfl,b20,b21⟩:=New.iif.mp n2
 nofun
 have d2:H2 dp=some (.dK []):=s2 _ _ (s1 _ _ zad)
 have ne:∀ {b:Addr}{l:List Int},H2 b=some (.lst (l.map V.int))->b≠dp:=λe z=>by rw[z,d2] at e;cases e
 have f1:=s2 _ _ b11
 refine⟨d2,[(.inl 4,.ref b1),(.inl 5,.ref b2)],rfl,by simp,?_⟩
 have s03:Same H (upd H2 dp (.dK (zbB [] [(.inl 4,.ref b1),(.inl 5,.ref b2)]))):=(u0.trans (s1.trans s2)).put hdp
 nofun
 refine⟨dp,_,ch2 4 (zaC g0) 5 (zaC g1),rfl,zad,zob (zap g0) (zap g1) (by rw[zam (ne f1)];exact f1) (by rw[zam (ne b21)];exact b21),λea H4 s4 ea0 hE=>?_⟩
 have s04:=s03.trans s4
 have e9:∀ l∈zaL (ch2 4 (zaC g0) 5 (zaC g1)),l.length=9:=zbb (λi=>zap i) (zh7 (zap g0) (zap g1))
 have esm:∀ l∈zaL (ch2 4 (zaC g0) 5 (zaC g1)),Sm l:=zbb (λi=>zbY i) (zh7 (zbY g0) (zbY g1))
 have elen:=zbj (ch2 4 (zaC g0) 5 (zaC g1))
 generalize zaL (ch2 4 (zaC g0) 5 (zaC g1))=giving at hE e9 esm elen q
 nofun
 walk_at "q"
 nofun
 refine zhk λdq hdq=>?_
 have w0:=zag hdq (.dK [])
 nofun
 refine za4 ((s04.trans w0).tup hK) (v:=.int t0) zbt ?_
 nofun
 refine zcS λv H5 s5 n5=>?_
 obtain⟨b3,rfl,b30,b31⟩:=New.iif.mp n5
 nofun
 refine za4 ((s04.trans (w0.trans s5)).tup hK) (v:=.int t1) (zaA (j:=1) rfl) ?_
 nofun
 refine zcS λv H6 s6 n6=>?_
 obtain⟨b4,rfl,b40,b41⟩:=New.iif.mp n6
 nofun
 have d6:H6 dq=some (.dK []):=s6 _ _ (s5 _ _ zad)
 have ne6:∀ {b:Addr}{l:List Int},H6 b=some (.lst (l.map V.int))->b≠dq:=λe z=>by rw[z,d6] at e;cases e
 have f3:=s6 _ _ b31
 refine⟨d6,[(.inl t0,.ref b3),(.inl t1,.ref b4)],rfl,by simp,?_⟩
 have s47:Same H4 (upd H6 dq (.dK (zbB [] [(.inl t0,.ref b3),(.inl t1,.ref b4)]))):=(w0.trans (s5.trans s6)).put hdq
 nofun
 refine⟨dq,_,ch2 t0 (zaC 6) t1 (zaC 7),rfl,zad,zob (zap 6) (zap 7) (by rw[zam (ne6 f3)];exact f3) (by rw[zam (ne6 b41)];exact b41),λta H8 s8 ta0 hF=>?_⟩
 have s48:=s47.trans s8
 have s08:=s04.trans s48
 have k9:∀ l∈zaL (ch2 t0 (zaC 6) t1 (zaC 7)),l.length=9:=zbb (λi=>zap i) (zh7 (zap 6) (zap 7))
 have ksm:∀ l∈zaL (ch2 t0 (zaC 6) t1 (zaC 7)),Sm l:=zbb (λi=>zbY i) (zh7 (zbY 6) (zbY 7))
 have klen:=zbj (ch2 t0 (zaC 6) t1 (zaC 7))
 generalize zaL (ch2 t0 (zaC 6) t1 (zaC 7))=taking at hF k9 ksm klen q
 obtain⟨dx,w1,w2,w3,w4,hp,r1,r2,r3,r4⟩:=hC
 obtain⟨y1,rfl⟩:∃ b,w1=.ref b:=by unfold zaq Rep at r1;obtain⟨a,_,e,_⟩:=r1;exact⟨a,e⟩
 obtain⟨y2,rfl⟩:∃ b,w2=.ref b:=by unfold zaq Rep at r2;obtain⟨a,_,e,_⟩:=r2;exact⟨a,e⟩
 nofun
 walk_at "q"
 nofun
 refine⟨o,(C 0),dx,_,_,rfl,s08 _ _ hp,Z.c_Craft,Z.n_Craft_needs,zbH _ _ _ _,?_⟩
 nofun
 have hE8:=hE.same s48
 refine⟨y1,ea,needs,giving,rfl,Rep.same s08 _ r1,hE8.rep,by have:=hg.n;omega,λl hl=>⟨hg.n9 l hl,zdB esm⟩,elen,e9,λv H9 s9 n9=>?_⟩
 have rv9:=New.rep (K:=K) n9
 obtain⟨ga,rfl⟩:∃ b,v=.ref b:=by obtain⟨b,_,e,_⟩:=New.news n9;exact⟨b,e⟩
 nofun
 have hN9:=hN.same (s08.trans s9)
 refine⟨ga,na,_,notes,rfl,rv9,hN9.rep,by simp;have:=hg.n;omega,by omega,λv1 Ha sa n1'=>?_⟩
 have s0a:=s08.trans (s9.trans sa)
 nofun
 refine⟨aa,ta,after,taking,rfl,Rep.same s0a _ hA,(hF.same (s9.trans sa)).rep,by omega,λl hl=>⟨a9 l hl,zdB ksm⟩,klen,k9,λv Hb sb nb=>?_⟩
 have rvb:=New.rep (K:=K) nb
 obtain⟨ha,rfl⟩:∃ b,v=.ref b:=by obtain⟨b,_,e,_⟩:=New.news nb;exact⟨b,e⟩
 have s0b:=s0a.trans sb
 nofun
 refine⟨o,(C 0),dx,_,_,rfl,s0b _ _ hp,Z.c_Craft,Z.n_Craft_leaves,zbm _ _ _ _,?_⟩
 nofun
 refine⟨y2,ea,leaves,giving,rfl,Rep.same s0b _ r2,(hE8.same (s9.trans (sa.trans sb))).rep,by have:=hg.l;omega,λl hl=>⟨hg.l9 l hl,zdB esm⟩,elen,e9,λv Hc sc nc=>?_⟩
 obtain⟨la,rfl,la0,hL⟩:=nc.ls
 have s0c:=s0b.trans sc
 obtain⟨xs,hxs,lxs⟩:=(hN.same s0c).len
 have hLl:=hL.len
 obtain⟨bs,hbs,lbs,ibs⟩:=hL
 rw[zlm] at lbs
 nofun
 refine zbe hxs hbs (zal (by rw[zlm];have:=hg.l;omega)) λp7 hp7=>?_
 have hM:=Ls.more (p:=p7) (bs:=bs) (ms:=leaves.map λl=>zaR l giving) (hN.same s0c) hxs (by rw[zlm];exact lbs) ibs hp7
 have t7:=zag hp7 (.lst (xs++bs.map V.ref))
 nofun
 refine⟨ha,p7,_,notes++leaves.map λl=>zaR l giving,rfl,Rep.same (sc.trans t7) _ rvb,hM.rep,by simp;omega,by simp;have:=hg.l;omega,λv2 Hd sd nd=>?_⟩
 obtain⟨a1,vs1,fa1,rfl,z1,y1',r1',_⟩:=New.lso n1'
 obtain⟨a2,vs2,fa2,rfl,z2,y2',r2',_⟩:=New.lso nd
 have l1:=r1'.length
 have l2:=r2'.length
 simp only[zlm] at l1 l2
 have sad:=sb.trans (sc.trans (t7.trans sd))
 nofun
 refine zbe (sad _ _ y1') y2' (zal (by have:=hg.n;omega)) λp8 hp8=>?_
 exact q _ _ ((s0a.trans sad).trans (zag hp8 _)) (New.cat (n1'.back (s08.trans s9)) s0a sad (nd.back (sb.trans (sc.trans t7))) (sad _ _ y1') y2' hp8)
theorem zjP {H:Hp}{a c d:Addr}{l k j:List Int}(h:H a=some (.lst (l.map V.int)))(h':H c=some (.lst (k.map V.int)))(h2:H d=some (.lst (j.map V.int))):∀ (i:Nat) b m,[a,c,d][i]?=some b->[l,k,j][i]?=some m->H b=some (.lst (m.map V.int)):=λi b m e1 e2=>by
 cases i with
 | zero=>simp at e1 e2;subst e1;subst e2;exact h
 | succ i=>exact zcA h' h2 i b m (by simpa using e1) (by simpa using e2)
inductive Q2d (K:Fg)(vs:List V)(H:Hp)(Q:VK)(E:XK):Prop
 | mk (t na aa la:Addr) (h by':Int) (line:List Int) (notes after:List (List Int)):vs=[.ref t,.ref na,.ref aa]->SqT K H t [.str "part",.int h,.ref la,.int by']->H la=some (.lst (line.map V.int))->line.length=9->(-1000000<by'/\by'<1000000)->Ls H na notes->Rep K H (zaq after) (.ref aa)->notes.length<=100->after.length<=100->(∀ l∈after,l.length=9)->(∀ v H',Same H H'->New H H' (.lst ((after.map λl=>zaR l (zaL (ch1 h (zaC 6)))).map λg=>zdJ g (notes++[zdu line by',greatest line by']))) v->Q v H')->Q2d K vs H Q E
include B Z in
theorem zg1 (Q3:Fn P w K mg b8 "summed" ["lines","weights"] 1 (Q1 K))(Q36:Fn P w K mg b8 "each_from" ["goals","hypotheses"] 2 (Q35 K))(Q38:Fn P w K mg b8 "all_turned" ["lines","eight"] 3 (Q37 K))(Q0:Fn P w K mg b8 "bare" ["i"] 1 (zd9 K))(Q3b:Fn P w K mg b8 "constant" ["number"] 1 (zb6 K))(Q3a:Fn P w K mg b8 "eight_with" ["changes"] 2 (Q39 K))(F:Fun K "part_duties" "part_duties" zdj f fd)(m:mg "part_duties"=some (.ref f)):Fn P w K mg b8 "part_duties" ["deed","notes","after"] 4 (Q2d K):=by
 refine Fn.of (k:=3) F zbG m (λ_ _ _ _ _ _ us hl=>(by obtain⟨_,_,_,rfl⟩:=len3 hl;rfl)) (λvs H Q E h=>?_) (λcdv A outer s H vs Q E hr h=>?_)
 ·first
  | (obtain⟨_,_,_,_,_,_,_,_,_,rfl,_⟩:=h;rfl)
 obtain⟨t,na,aa,la,h,by',line,notes,after,rfl,hT,hla,l9,hby,hN,hA,ln,lf,a9,q⟩:=h
 refine⟨_,(zae (zau (i:=3) zbG.nd rfl (Or.inl rfl) (zaH (k_ix K) (pv 0) zac (λ_ _=>rfl)))
   (zae (zau (i:=4) zbG.nd rfl (Or.inl rfl) (zaH (k_ix K) (pv 0) zac (λ_ _=>rfl)))
   (zae (zau (i:=5) zbG.nd rfl (Or.inl rfl) (zak Q3 hr rfl (zbR (zaE (zaa (pv 3) (zay (zak Q0 hr rfl (zaa (za1 rfl B.c_NEW_0) zab)) zab))) (zbR (zaE (zaj zac (zhO (zeL zcL (pv 4)) zab))) zab))))
   (zae (zau (i:=6) zbG.nd rfl (Or.inl rfl) (zak Q3 hr rfl (zbR (zaE (zay (zak Q0 hr rfl (zaa (za1 rfl B.c_NEW_0) zab)) (zay (zak Q3b hr rfl (zaP (zat zih (pv 4) zac) zab)) (zaa (pv 3) zab)))) (zbR (zaE (zaa (pv 4) (zaj zac (zhO (zeL zcL zac) zab)))) zab))))
   (zai (zan (zak Q36 hr rfl (zay (zak Q38 hr rfl (zaa (pv 2) (zay (zak Q3a hr rfl (za0 (zfe (zbQ (zaH (k_ix K) (pv 0) zac (λ_ _=>rfl)) (zak Q0 hr rfl (zaa (za1 rfl B.c_NEW_0) zab)) zfd) rfl rfl (by simp) (by simp)) zab)) zab))) (zaP (zat (zaF K) (pv 1) (zaE (zaa (pv 5) (zaa (pv 6) zab)))) zab))))))))),?_⟩
 walk_at "q"
 nofun
 refine za4 hT (v:=.ref la) (zaA (j:=2) rfl) ?_
 nofun
 walk_at "q"
 nofun
 refine za4 hT (v:=.int by') (zaA (j:=3) rfl) ?_
 nofun
 walk_at "q"
 nofun
 refine zcS λv H1 s1 n1=>?_
 obtain⟨b1,rfl,b10,b11⟩:=New.iif.mp n1
 nofun
 refine⟨(by walk_at "sm"),λp hp=>?_⟩
 have t1:=zag hp (.lst [V.ref la,.ref b1])
 nofun
 refine⟨(by walk_at "sm"),λp2 hp2=>?_⟩
 have t2:=zag hp2 (.lst [V.int 1,.int (-by')])
 have s02:=s1.trans (t1.trans t2)
 nofun
 refine⟨p,p2,[line,zaC 6],[1,-by'],rfl,zcb (bs:=[la,b1]) (t2 _ _ zad) rfl (zcA (s02 _ _ hla) ((t1.trans t2) _ _ b11)),SqL.of zad,rfl,by simp,λl hl=>?_,λi l w _ e2 n _=>?_,λv H3 s3 n3=>?_⟩
 ·simp at hl;rcases hl with rfl | rfl
  ·exact l9
  ·exact zap 6
 ·have:w=1\/w=-by':=by
   have:=zmg e2
   simp at this;exact this
  rcases this with z | z <;> subst z <;> exact .inr ⟨by omega,by omega⟩
 obtain⟨fa,rfl,fa0,fa1⟩:=New.iif.mp n3
 have s03:=s02.trans s3
 nofun
 walk_at "q"
 nofun
 refine zcS λv H4 s4 n4=>?_
 obtain⟨b2,rfl,b20,b21⟩:=New.iif.mp n4
 nofun
 refine zfs λv H5 s5 n5=>?_
 obtain⟨c2,rfl,c20,c21⟩:=New.iif.mp n5
 nofun
 refine⟨(by walk_at "sm"),λp3 hp3=>?_⟩
 have t3:=zag hp3 (.lst [V.ref b2,.ref c2,.ref la])
 nofun
 refine⟨(by walk_at "sm"),λp4 hp4=>?_⟩
 have t4:=zag hp4 (.lst [V.int by',.int 1,.int (-1)])
 have s35:=s4.trans (s5.trans (t3.trans t4))
 nofun
 refine⟨p3,p4,[zaC 6,kL (by' - 1),line],[by',1,-1],rfl,zcb (bs:=[b2,c2,la]) (t4 _ _ zad) rfl (zjP ((s5.trans (t3.trans t4)) _ _ b21) ((t3.trans t4) _ _ c21) ((s03.trans s35) _ _ hla)),SqL.of zad,rfl,by simp,λl hl=>?_,λi l w _ e2 n _=>?_,λv H6 s6 n6=>?_⟩
 ·simp at hl;rcases hl with rfl | rfl | rfl
  ·exact zap 6
  ·exact zbf _
  ·exact l9
 ·have:w=by'\/w=1\/w=-1:=by
   have:=zmg e2
   simp at this;exact this
  rcases this with z | z | z <;> subst z <;> exact .inr ⟨by omega,by omega⟩
 obtain⟨ta,rfl,ta0,ta1⟩:=New.iif.mp n6
 have s36:=s35.trans s6
 have s06:=s03.trans s36
 nofun
 refine zhk λdp hdp=>?_
 have u0:=zag hdp (.dK [])
 nofun
 refine za4 ((s06.trans u0).tup hT) (v:=.int h) (zaA (j:=1) rfl) ?_
 nofun
 refine zcS λv H7 s7 n7=>?_
 obtain⟨b3,rfl,b30,b31⟩:=New.iif.mp n7
 nofun
 refine⟨s7 _ _ zad,[(.inl h,.ref b3)],rfl,by simp,?_⟩
 have b3d:b3≠dp:=λz=>by rw[z,zad] at b30;cases b30
 have s67:Same H6 (upd H7 dp (.dK (zbB [] [(.inl h,.ref b3)]))):=(u0.trans s7).put hdp
 have s07:=s06.trans s67
 nofun
 refine⟨dp,_,ch1 h (zaC 6),rfl,zad,zmE (zap 6) (by rw[zam b3d];exact b31),λea H8 s8 ea0 hE=>?_⟩
 have s08:=s07.trans s8
 have m9:∀ l∈zaL (ch1 h (zaC 6)),l.length=9:=zbb (λi=>zap i) (zfr (zap 6))
 have msm:∀ l∈zaL (ch1 h (zaC 6)),Sm l:=zbb (λi=>zbY i) (zfr (zbY 6))
 nofun
 refine⟨aa,ea,after,zaL (ch1 h (zaC 6)),rfl,Rep.same s08 _ hA,hE.rep,by omega,λl hl=>⟨a9 l hl,zdB msm⟩,zbj _,m9,λv H9 s9 n9=>?_⟩
 have gv:=New.rep (K:=K) n9
 obtain⟨ga,rfl⟩:∃ b,v=.ref b:=by obtain⟨b,_,e,_⟩:=New.news n9;exact⟨b,e⟩
 have s09:=s08.trans s9
 have s69:=s67.trans (s8.trans s9)
 nofun
 refine⟨(by walk_at "sm"),λp5 hp5=>?_⟩
 have t5:=zag hp5 (.lst [V.ref fa,.ref ta])
 obtain⟨xs,hxs,lxs⟩:=(hN.same s09).len
 nofun
 refine zbe (t5 _ _ hxs) zad (zal (by simp;omega)) λp6 hp6=>?_
 have hL:=Ls.more (p:=p6) (bs:=[fa,ta]) (ms:=[zdu line by',greatest line by']) ((hN.same s09).same t5) (t5 _ _ hxs) rfl (zcA (t5 _ _ (s69 _ _ (s36 _ _ fa1))) (t5 _ _ (s69 _ _ ta1))) hp6
 have t6:=zag hp6 (.lst (xs++[V.ref fa,.ref ta]))
 have t56:=t5.trans t6
 nofun
 refine⟨ga,p6,_,notes++[zdu line by',greatest line by'],rfl,Rep.same t56 _ gv,hL.rep,by simp;omega,by simp;omega,λv Ha sa na'=>?_⟩
 exact q _ _ (s09.trans (t56.trans sa)) (na'.back (s09.trans t56))
inductive Q2f (K:Fg)(vs:List V)(H:Hp)(Q:VK)(E:XK):Prop
 | mk (t na aa:Addr) (h lo hi:Int) (notes after:List (List Int)):vs=[.ref t,.ref na,.ref aa]->SqT K H t [.str "draw",.int h,.int lo,.int hi]->Ls H na notes->Rep K H (zaq after) (.ref aa)->notes.length<=100->after.length<=100->(∀ l∈after,l.length=9)->(∀ v H',Same H H'->New H H' (.lst ((after.map λl=>zaR l (zaL (ch1 h (zaC 6)))).map λg=>zdJ g (notes++[zeE lo,zgu hi]))) v->Q v H')->Q2f K vs H Q E
include B Z in
theorem zg2 (Q3:Fn P w K mg b8 "summed" ["lines","weights"] 1 (Q1 K))(Q36:Fn P w K mg b8 "each_from" ["goals","hypotheses"] 2 (Q35 K))(Q38:Fn P w K mg b8 "all_turned" ["lines","eight"] 3 (Q37 K))(Q0:Fn P w K mg b8 "bare" ["i"] 1 (zd9 K))(Q3b:Fn P w K mg b8 "constant" ["number"] 1 (zb6 K))(Q3a:Fn P w K mg b8 "eight_with" ["changes"] 2 (Q39 K))(F:Fun K "draw_duties" "draw_duties" zdk f fd)(m:mg "draw_duties"=some (.ref f)):Fn P w K mg b8 "draw_duties" ["deed","notes","after"] 4 (Q2f K):=by
 refine Fn.of (k:=3) F zc3 m (λ_ _ _ _ _ _ us hl=>(by obtain⟨_,_,_,rfl⟩:=len3 hl;rfl)) (λvs H Q E h=>?_) (λcdv A outer s H vs Q E hr h=>?_)
 ·first
  | (obtain⟨_,_,_,_,_,_,_,_,rfl,_⟩:=h;rfl)
 obtain⟨t,na,aa,h,lo,hi,notes,after,rfl,hT,hN,hA,ln,lf,a9,q⟩:=h
 refine⟨_,(zae (zau (i:=3) zc3.nd rfl (Or.inl rfl) (zak Q3 hr rfl (zbR (zaE (zay (zak Q0 hr rfl (zaa (za1 rfl B.c_NEW_0) zab)) (zay (zak Q3b hr rfl (zaK (zaH (k_ix K) (pv 0) zac (λ_ _=>rfl)) zab)) zab))) (zbR (zaE (zaj zac (zhO (zeL zcL zac) zab))) zab))))
   (zae (zau (i:=4) zc3.nd rfl (Or.inl rfl) (zak Q3 hr rfl (zbR (zaE (zay (zak Q3b hr rfl (zaK (zaH (k_ix K) (pv 0) zac (λ_ _=>rfl)) zab)) (zay (zak Q0 hr rfl (zaa (za1 rfl B.c_NEW_0) zab)) zab))) (zbR (zaE (zaj zac (zhO (zeL zcL zac) zab))) zab))))
   (zai (zan (zak Q36 hr rfl (zay (zak Q38 hr rfl (zaa (pv 2) (zay (zak Q3a hr rfl (za0 (zfe (zbQ (zaH (k_ix K) (pv 0) zac (λ_ _=>rfl)) (zak Q0 hr rfl (zaa (za1 rfl B.c_NEW_0) zab)) zfd) rfl rfl (by simp) (by simp)) zab)) zab))) (zaP (zat (zaF K) (pv 1) (zaE (zaa (pv 3) (zaa (pv 4) zab)))) zab))))))),?_⟩
 obtain⟨c6,hc6⟩:=B.c_NEW_0
 walk_at "q"
 nofun
 refine zcS λv H1 s1 n1=>?_
 obtain⟨b1,rfl,b10,b11⟩:=New.iif.mp n1
 nofun
 refine za4 (s1.tup hT) (v:=.int lo) (zaA (j:=2) rfl) ?_
 nofun
 refine zfs λv H2 s2 n2=>?_
 obtain⟨c1,rfl,c10,c11⟩:=New.iif.mp n2
 nofun
 refine⟨(by walk_at "sm"),λp hp=>?_⟩
 have t1:=zag hp (.lst [V.ref b1,.ref c1])
 nofun
 refine⟨(by walk_at "sm"),λp2 hp2=>?_⟩
 have t2:=zag hp2 (.lst [V.int 1,.int (-1)])
 have s02:=s1.trans (s2.trans (t1.trans t2))
 nofun
 refine⟨p,p2,[zaC 6,kL lo],[1,-1],rfl,zcb (bs:=[b1,c1]) (t2 _ _ zad) rfl (zcA ((s2.trans (t1.trans t2)) _ _ b11) ((t1.trans t2) _ _ c11)),SqL.of zad,rfl,by simp,λl hl=>?_,λi l w _ e2 n _=>?_,λv H3 s3 n3=>?_⟩
 ·simp at hl;rcases hl with rfl | rfl
  ·exact zap 6
  ·exact zbf lo
 ·have:w=1\/w=-1:=by
   have:=zmg e2
   simp at this;exact this
  rcases this with z | z <;> subst z <;> exact .inr ⟨by decide,by decide⟩
 obtain⟨fa,rfl,fa0,fa1⟩:=New.iif.mp n3
 have s03:=s02.trans s3
 nofun
 walk_at "q"
 nofun
 refine za4 (s03.tup hT) (v:=.int hi) (zaA (j:=3) rfl) ?_
 nofun
 refine zfs λv H4 s4 n4=>?_
 obtain⟨c2,rfl,c20,c21⟩:=New.iif.mp n4
 nofun
 refine zcS λv H5 s5 n5=>?_
 obtain⟨b2,rfl,b20,b21⟩:=New.iif.mp n5
 nofun
 refine⟨(by walk_at "sm"),λp3 hp3=>?_⟩
 have t3:=zag hp3 (.lst [V.ref c2,.ref b2])
 nofun
 refine⟨(by walk_at "sm"),λp4 hp4=>?_⟩
 have t4:=zag hp4 (.lst [V.int 1,.int (-1)])
 have s35:=s4.trans (s5.trans (t3.trans t4))
 nofun
 refine⟨p3,p4,[kL hi,zaC 6],[1,-1],rfl,zcb (bs:=[c2,b2]) (t4 _ _ zad) rfl (zcA ((s5.trans (t3.trans t4)) _ _ c21) ((t3.trans t4) _ _ b21)),SqL.of zad,rfl,by simp,λl hl=>?_,λi l w _ e2 n _=>?_,λv H6 s6 n6=>?_⟩
 ·simp at hl;rcases hl with rfl | rfl
  ·exact zbf hi
  ·exact zap 6
 ·have:w=1\/w=-1:=by
   have:=zmg e2
   simp at this;exact this
  rcases this with z | z <;> subst z <;> exact .inr ⟨by decide,by decide⟩
 obtain⟨ta,rfl,ta0,ta1⟩:=New.iif.mp n6
 have s36:=s35.trans s6
 have s06:=s03.trans s36
 nofun
 refine zhk λdp hdp=>?_
 have u0:=zag hdp (.dK [])
 nofun
 refine za4 ((s06.trans u0).tup hT) (v:=.int h) (zaA (j:=1) rfl) ?_
 nofun
 refine zcS λv H7 s7 n7=>?_
 obtain⟨b3,rfl,b30,b31⟩:=New.iif.mp n7
 nofun
 refine⟨s7 _ _ zad,[(.inl h,.ref b3)],rfl,by simp,?_⟩
 have b3d:b3≠dp:=λz=>by rw[z,zad] at b30;cases b30
 have s67:Same H6 (upd H7 dp (.dK (zbB [] [(.inl h,.ref b3)]))):=(u0.trans s7).put hdp
 have s07:=s06.trans s67
 nofun
 refine⟨dp,_,ch1 h (zaC 6),rfl,zad,zmE (zap 6) (by rw[zam b3d];exact b31),λea H8 s8 ea0 hE=>?_⟩
 have s08:=s07.trans s8
 have m9:∀ l∈zaL (ch1 h (zaC 6)),l.length=9:=zbb (λi=>zap i) (zfr (zap 6))
 have msm:∀ l∈zaL (ch1 h (zaC 6)),Sm l:=zbb (λi=>zbY i) (zfr (zbY 6))
 nofun
 refine⟨aa,ea,after,zaL (ch1 h (zaC 6)),rfl,Rep.same s08 _ hA,hE.rep,by omega,λl hl=>⟨a9 l hl,zdB msm⟩,zbj _,m9,λv H9 s9 n9=>?_⟩
 have gv:=New.rep (K:=K) n9
 obtain⟨ga,rfl⟩:∃ b,v=.ref b:=by obtain⟨b,_,e,_⟩:=New.news n9;exact⟨b,e⟩
 have s09:=s08.trans s9
 have s69:=s67.trans (s8.trans s9)
 nofun
 refine⟨(by walk_at "sm"),λp5 hp5=>?_⟩
 have t5:=zag hp5 (.lst [V.ref fa,.ref ta])
 obtain⟨xs,hxs,lxs⟩:=(hN.same s09).len
 nofun
 refine zbe (t5 _ _ hxs) zad (zal (by simp;omega)) λp6 hp6=>?_
 have hL:=Ls.more (p:=p6) (bs:=[fa,ta]) (ms:=[zeE lo,zgu hi]) ((hN.same s09).same t5) (t5 _ _ hxs) rfl (zcA (t5 _ _ (s69 _ _ (s36 _ _ fa1))) (t5 _ _ (s69 _ _ ta1))) hp6
 have t6:=zag hp6 (.lst (xs++[V.ref fa,.ref ta]))
 have t56:=t5.trans t6
 nofun
 refine⟨ga,p6,_,notes++[zeE lo,zgu hi],rfl,Rep.same t56 _ gv,hL.rep,by simp;omega,by simp;omega,λv Ha sa na'=>?_⟩
 exact q _ _ (s09.trans (t56.trans sa)) (na'.back (s09.trans t56))
inductive Q31 (K:Fg)(vs:List V)(H:Hp)(Q:VK)(E:XK):Prop
 | mk (la na ta aa:Addr) (line:List Int) (notes there after:List (List Int)):vs=[.ref la,.ref na,.ref ta,.ref aa]->H la=some (.lst (line.map V.int))->line.length=9->Ls H na notes->Rep K H (zaq there) (.ref ta)->Rep K H (zaq after) (.ref aa)->notes.length<=100->there.length<=100->after.length<=100->(∀ v H',Same H H'->New H H' (.lst ((there.map λg=>zdJ g (notes++[line]))++after.map λg=>zdJ g (notes++[zgt line]))) v->Q v H')->Q31 K vs H Q E
include B Z in
theorem zg3 (Q3:Fn P w K mg b8 "summed" ["lines","weights"] 1 (Q1 K))(Q36:Fn P w K mg b8 "each_from" ["goals","hypotheses"] 2 (Q35 K))(Q3b:Fn P w K mg b8 "constant" ["number"] 1 (zb6 K))(F:Fun K "turn_duties" "turn_duties" zdl f fd)(m:mg "turn_duties"=some (.ref f)):Fn P w K mg b8 "turn_duties" ["line","notes","there","after"] 3 (Q31 K):=by
 refine Fn.of (k:=2) F zep m (λ_ _ _ _ _ _ us hl=>(by obtain⟨_,_,_,_,rfl⟩:=len4 hl;rfl)) (λvs H Q E h=>?_) (λcdv A outer s H vs Q E hr h=>?_)
 ·first
  | (obtain⟨_,_,_,_,_,_,_,_,rfl,_⟩:=h;rfl)
 obtain⟨la,na,ta,aa,line,notes,there,after,rfl,hla,l9,hN,hT,hA,ln,lt,lf,q⟩:=h
 refine⟨_,(zae (zau (i:=4) zep.nd rfl (Or.inl rfl) (zak Q3 hr rfl (zbR (zaE (zaa (pv 0) (zay (zak Q3b hr rfl (zaj zac zab)) zab))) (zbR (zaE (zhO (zeL zcL zac) (zhO (zeL zcL zac) zab))) zab))))
   (zai (zan (zat (zaF K) (zak Q36 hr rfl (zaa (pv 2) (zaP (zat (zaF K) (pv 1) (zaE (zaa (pv 0) zab))) zab))) (zak Q36 hr rfl (zaa (pv 3) (zaP (zat (zaF K) (pv 1) (zaE (zaa (pv 4) zab))) zab))))))),?_⟩
 walk_at "q"
 nofun
 refine zfs λv H1 s1 n1=>?_
 obtain⟨ca,rfl,ca0,ca1⟩:=New.iif.mp n1
 nofun
 refine⟨(by walk_at "sm"),λp hp=>?_⟩
 have t1:=zag hp (.lst [V.ref la,.ref ca])
 nofun
 refine⟨(by walk_at "sm"),λp2 hp2=>?_⟩
 have t2:=zag hp2 (.lst [V.int (-1),.int (-1)])
 have s12:=s1.trans (t1.trans t2)
 nofun
 refine⟨p,p2,[line,kL 1],[-1,-1],rfl,zcb (bs:=[la,ca]) (t2 _ _ zad) rfl (zcA (s12 _ _ hla) ((t1.trans t2) _ _ ca1)),SqL.of zad,rfl,by simp,λl hl=>?_,λi l w _ e2 n _=>?_,λv H2 s2 n2=>?_⟩
 ·simp at hl;rcases hl with rfl | rfl
  ·exact l9
  ·exact zbf 1
 ·have:w=-1:=by
   have:=zmg e2
   simp at this;exact this
  subst this;exact .inr ⟨by decide,by decide⟩
 obtain⟨ba,rfl,ba0,ba1⟩:=New.iif.mp n2
 have sA:=s12.trans s2
 obtain⟨xs,hxs,lxs⟩:=(hN.same sA).len
 nofun
 refine⟨(by walk_at "sm"),λp3 hp3=>?_⟩
 have t3:=zag hp3 (.lst [V.ref la])
 nofun
 refine zbe (t3 _ _ hxs) zad (zal (by simp;omega)) λp4 hp4=>?_
 have hL4:=Ls.more (p:=p4) (bs:=[la]) (ms:=[line]) ((hN.same sA).same t3) (t3 _ _ hxs) rfl (zeT (t3 _ _ (sA _ _ hla))) hp4
 have t4:=zag hp4 (.lst (xs++[V.ref la]))
 have sB:=sA.trans (t3.trans t4)
 nofun
 refine⟨ta,p4,there,notes++[line],rfl,Rep.same sB _ hT,hL4.rep,by omega,by simp;omega,λv1 H3 s3 n3=>?_⟩
 have sC:=sB.trans s3
 have sAC:=(t3.trans t4).trans s3
 nofun
 refine⟨(by walk_at "sm"),λp5 hp5=>?_⟩
 have t5:=zag hp5 (.lst [V.ref ba])
 nofun
 refine zbe (t5 _ _ (sAC _ _ hxs)) zad (zal (by simp;omega)) λp6 hp6=>?_
 have hL6:=Ls.more (p:=p6) (bs:=[ba]) (ms:=[zgt line]) ((hN.same sC).same t5) (t5 _ _ (sAC _ _ hxs)) rfl (zeT (t5 _ _ (sAC _ _ ba1))) hp6
 have t6:=zag hp6 (.lst (xs++[V.ref ba]))
 have t56:=t5.trans t6
 nofun
 refine⟨aa,p6,after,notes++[zgt line],rfl,Rep.same (sC.trans t56) _ hA,hL6.rep,by omega,by simp;omega,λv2 H4 s4 n4=>?_⟩
 obtain⟨a1,vs1,f1,rfl,z1,y1,r1,_⟩:=New.lso n3
 obtain⟨a2,vs2,f2,rfl,z2,y2,r2,_⟩:=New.lso n4
 have l1:=r1.length
 have l2:=r2.length
 simp only[zlm] at l1 l2
 have sD:=t56.trans s4
 nofun
 refine zbe (sD _ _ y1) y2 (zal (by omega)) λp7 hp7=>?_
 exact q _ _ ((sC.trans sD).trans (zag hp7 _)) (New.cat (n3.back sB) sC sD (n4.back t56) (sD _ _ y1) y2 hp7)
theorem znH:decide (("part" : Str) ="set")=false/\decide (("draw" : Str) ="set")=false/\decide (("draw" : Str) ="part")=false/\decide (("turn" : Str) ="set")=false/\decide (("turn" : Str) ="part")=false/\decide (("turn" : Str) ="draw")=false/\decide (("hold" : Str) ="set")=false/\decide (("hold" : Str) ="part")=false/\decide (("hold" : Str) ="draw")=false/\decide (("hold" : Str) ="turn")=false/\decide (("call" : Str) ="set")=false/\decide (("call" : Str) ="part")=false/\decide (("call" : Str) ="draw")=false/\decide (("call" : Str) ="turn")=false/\decide (("call" : Str) ="hold")=false:=by decide +kernel
inductive Q2b (K:Fg)(C:Nat->Addr)(vs:List V)(H:Hp)(Q:VK)(E:XK):Prop
 | mk (p ca:Addr) (place:Nat) (needs leaves:List (List Int)) (deeds:List Dd) (notes:List (List (List Int))) (kvs:List (Key × V)) (oath:Oath) (d:Dd):vs=[.ref p,.int place,.ref ca]->zdI K (C 0) H p needs leaves deeds notes->Good needs leaves deeds.length notes->deeds[place]?=some d->dOk deeds.length d->H ca=some (.dK kvs)->zmv K (C 0) H kvs oath d->(∀ v H',Same H H'->New H H' (.lst (zeY (dueL leaves notes place) (dueL leaves notes (place+1)) (dueL leaves notes) oath d)) v->Q v H')->Q2b K C vs H Q E
include B Z in
theorem zg4 (Q27:Fn P w K mg b8 "due_at" ["craft","place"] 3 (Q26 K C))(Q34:Fn P w K mg b8 "call_duties" ["deed","notes","after","other"] 4 (Q33 K C))(Q36:Fn P w K mg b8 "each_from" ["goals","hypotheses"] 2 (Q35 K))(Q2e:Fn P w K mg b8 "part_duties" ["deed","notes","after"] 4 (Q2d K))(Q30:Fn P w K mg b8 "draw_duties" ["deed","notes","after"] 4 (Q2f K))(Q32:Fn P w K mg b8 "turn_duties" ["line","notes","there","after"] 3 (Q31 K))(Q38:Fn P w K mg b8 "all_turned" ["lines","eight"] 3 (Q37 K))(Q3a:Fn P w K mg b8 "eight_with" ["changes"] 2 (Q39 K))(F:Fun K "deed_duties" "deed_duties" zdi f fd)(m:mg "deed_duties"=some (.ref f)):Fn P w K mg b8 "deed_duties" ["craft","place","crafts"] 5 (Q2b K C):=by
 refine Fn.of (k:=4) F zbF m (λ_ _ _ _ _ _ us hl=>(by obtain⟨_,_,_,rfl⟩:=len3 hl;rfl)) (λvs H Q E h=>?_) (λcdv A outer s H vs Q E hr h=>?_)
 ·first
  | (obtain⟨_,_,_,_,_,_,_,_,_,_,rfl,_⟩:=h;rfl)
 obtain⟨p,ca,place,needs,leaves,deeds,notes,kvs,oath,d,rfl,hT,hg,hd,ok,hca,hcl,q⟩:=h
 refine⟨_,(zae (zau (i:=3) zbF.nd rfl (Or.inl rfl) (zaH (k_ix K) (zaU K (pv 0) rfl) (pv 1) (λ_ _=>rfl)))
   (zae (zau (i:=4) zbF.nd rfl (Or.inl rfl) (zak Q27 hr rfl (zaa (pv 0) (zaa (pv 1) zab))))
   (zae (zau (i:=5) zbF.nd rfl (Or.inl rfl) (zak Q27 hr rfl (zaa (pv 0) (zaP (zat (zaF K) (pv 1) zac) zab))))
   (zae (zau (i:=6) zbF.nd rfl (Or.inl rfl) (zaH (k_ix K) (pv 3) zac (λ_ _=>rfl)))
   (zae (za2 (zaz (k_eq K hr) (pv 6) zca (zaw _)) (zai (zan (zak Q36 hr rfl (zay (zak Q38 hr rfl (zaa (pv 5) (zay (zak Q3a hr rfl (za0 (zfe (zbQ (zaH (k_ix K) (pv 3) zac (λ_ _=>rfl)) (zaH (k_ix K) (pv 3) zac (λ_ _=>rfl)) zfd) rfl rfl (by simp) (by simp)) zab)) zab))) (zaa (pv 4) zab))))) zav)
   (zae (za2 (zaz (k_eq K hr) (pv 6) zca (zaw _)) (zai (zan (zak Q2e hr rfl (zaa (pv 3) (zaa (pv 4) (zaa (pv 5) zab)))))) zav)
   (zae (za2 (zaz (k_eq K hr) (pv 6) zca (zaw _)) (zai (zan (zak Q30 hr rfl (zaa (pv 3) (zaa (pv 4) (zaa (pv 5) zab)))))) zav)
   (zae (za2 (zaz (k_eq K hr) (pv 6) zca (zaw _)) (zai (zan (zak Q32 hr rfl (zaK (zaH (k_ix K) (pv 3) zac (λ_ _=>rfl)) (zaa (pv 4) (zay (zak Q27 hr rfl (zaa (pv 0) (zaK (zaH (k_ix K) (pv 3) zac (λ_ _=>rfl)) zab))) (zaa (pv 5) zab))))))) zav)
   (zae (za2 (zaz (k_eq K hr) (pv 6) zca (zaw _)) (zai (zan (zat (zaF K) (zak Q36 hr rfl (zbR (zaE (zaK (zaH (k_ix K) (pv 3) zac (λ_ _=>rfl)) zab)) (zaa (pv 4) zab))) (zak Q36 hr rfl (zaa (pv 5) (zaP (zat (zaF K) (pv 4) (zaE (zaK (zaH (k_ix K) (pv 3) zac (λ_ _=>rfl)) zab))) zab)))))) zav)
   (zai (zan (zak Q34 hr rfl (zaa (pv 3) (zaa (pv 4) (zaa (pv 5) (zaK (zez (hr_u hr) (pv 2) (zaH (k_ix K) (pv 3) zac (λ_ _=>rfl)) (λ_ _=>rfl)) zab)))))))))))))))),?_⟩
 obtain⟨k1,k2,k3,k4,k5,k6,k7,k8,k9,k10,k11,k12,k13,k14,k15⟩:=znH
 have lp:place<deeds.length:=(zge.mp hd).1
 obtain⟨hC,dx,w1,w2,bd,w4,dvs,hp,hbd,hD⟩:=hT
 obtain⟨x,hx,rx⟩:=R2.get hD lp
 rw[List.getElem?_eq_getElem lp] at hd
 cases hd
 generalize hdd:deeds[place]=d at rx ok hcl q
 obtain⟨t,ys,rfl,htup⟩:=zmo rx
 walk_at "q"
 nofun
 refine⟨p,(C 0),dx,_,_,rfl,hp,Z.c_Craft,Z.n_Craft_deeds,zbq _ _ _ _,?_⟩
 nofun
 refine zbE (SqL.of hbd) (v:=.ref t) (zaA hx) ?_
 nofun
 have due:∀ {Hx:Hp}{Q':VK}(k:Int),Same H Hx->0<=k->k<=(deeds.length:Int)->(∀ a H',Same Hx H'->Hx a=none->Ls H' a (dueL leaves notes k)->Q' (.ref a) H')->Q26 K C [.ref p,.int k] Hx Q' E0:=λ{Hx Q'} k s k0 kn hq=>
  ⟨p,k,needs,leaves,deeds.map toD,notes,rfl,hC.same s,k0,by rw[zlm];exact kn,by rw[zlm];exact hg.dn,by rw[zlm];have:=hg.d;omega,by have:=hg.l;omega,hg.l9,λls hl=>by have:=(hg.o ls hl).1;omega,λv H' s' n'=>by obtain⟨a,rfl,a0,hL⟩:=n'.ls;exact hq a H' s' a0 hL⟩
 walk_at "q"
 nofun
 refine due _ (Same.refl _) (by omega) (by omega) λna H1 s1 na0 hN=>?_
 nofun
 walk_at "q"
 nofun
 refine due _ s1 (by omega) (by omega) λaa H2 s2 aa0 hA=>?_
 have s02:=s1.trans s2
 have hN2:=hN.same s2
 have gN:=hg.due (place:Int)
 have gA:=hg.due ((place:Int)+1)
 have h2:=s02 _ _ htup
 nofun
 walk_at "q"
 nofun
 refine za4 (SqT.of h2) zbt ?_
 nofun
 have rx2:zc0 H2 (toD d) (.ref t):=rx.sq s02.sq
 generalize dueL leaves notes (place:Int)=N at hN2 gN q
 generalize dueL leaves notes ((place:Int)+1)=A at hA gA q
 cases d with
 | set h l=>
  obtain⟨t',xs,et,hT2,px⟩:=zce rx2
  cases et
  obtain⟨x0,r,rfl,e0,px⟩:=zaB px
  obtain⟨x1,r,rfl,e1,px⟩:=zaB px
  obtain⟨x2,r,rfl,e2,px⟩:=zaB px
  cases zde px;cases zdv e0
  cases zco e1
  obtain⟨b2,rfl,hb2⟩:=zeW e2
  with_reducible refine ziG (λQ2 q2=>?_) (λNX=>?_)
  ·nofun
   rw[decide_eq_true (show zcD (Dd.set h l) ="set" from rfl)]
   exact q2
  nofun
  refine zhk λdp hdp=>?_
  have u0:=zag hdp (.dK [])
  nofun
  refine za4 (SqT.of (u0 _ _ hT2)) (v:=.int h) (zaA (j:=1) rfl) ?_
  nofun
  refine za4 (SqT.of (u0 _ _ hT2)) (v:=.ref b2) (zaA (j:=2) rfl) ?_
  nofun
  refine⟨zad,[(.inl h,.ref b2)],rfl,by simp,?_⟩
  have s23:Same H2 (upd (upd H2 dp (.dK [])) dp (.dK (zbB [] [(.inl h,.ref b2)]))):=u0.put hdp
  nofun
  refine⟨dp,_,ch1 h l,rfl,zad,zmE ok.1 (s23 _ _ hb2),λea H4 s4 ea0 hE=>?_⟩
  have s24:=s23.trans s4
  nofun
  refine⟨aa,ea,A,zaL (ch1 h l),rfl,(hA.same s24).rep,hE.rep,by omega,λz hz=>⟨gA.2 z hz,zdB (zbb (λi=>zbY i) (zfr ok.2))⟩,zbj _,zbb (λi=>zap i) (zfr ok.1),λv H5 s5 n5=>?_⟩
  have rv:=New.rep (K:=K) n5
  obtain⟨ga,rfl⟩:∃ b,v=.ref b:=by obtain⟨b,_,e,_⟩:=New.news n5;exact⟨b,e⟩
  have s25:=s24.trans s5
  nofun
  refine⟨ga,na,_,N,rfl,rv,(hN2.same s25).rep,by simp;omega,by omega,λv H6 s6 n6=>?_⟩
  exact q _ _ (s02.trans (s25.trans s6)) (n6.back (s02.trans s25))
 | part h l b=>
  obtain⟨t',xs,et,hT2,px⟩:=zce rx2
  cases et
  obtain⟨x0,r,rfl,e0,px⟩:=zaB px
  obtain⟨x1,r,rfl,e1,px⟩:=zaB px
  obtain⟨x2,r,rfl,e2,px⟩:=zaB px
  obtain⟨x3,r,rfl,e3,px⟩:=zaB px
  cases zde px;cases zdv e0
  cases zco e1
  obtain⟨b2,rfl,hb2⟩:=zeW e2
  cases zco e3
  with_reducible refine zcz (λQ2 q2=>?_) ?_
  ·nofun
   rw[show decide (zcD (Dd.part h l b) ="set")=false from k1]
   exact q2
  with_reducible refine ziG (λQ2 q2=>?_) (λNX=>?_)
  ·nofun
   rw[decide_eq_true (show zcD (Dd.part h l b) ="part" from rfl)]
   exact q2
  nofun
  refine⟨t,na,aa,b2,h,b,l,N,A,rfl,SqT.of hT2,hb2,ok.1,ok.2,hN2,hA.rep,by omega,by omega,gA.2,λv H3 s3 n3=>?_⟩
  exact q _ _ (s02.trans s3) (n3.back s02)
 | draw h lo hi=>
  obtain⟨t',xs,et,hT2,px⟩:=zce rx2
  cases et
  obtain⟨x0,r,rfl,e0,px⟩:=zaB px
  obtain⟨x1,r,rfl,e1,px⟩:=zaB px
  obtain⟨x2,r,rfl,e2,px⟩:=zaB px
  obtain⟨x3,r,rfl,e3,px⟩:=zaB px
  cases zde px;cases zdv e0
  cases zco e1
  cases zco e2
  cases zco e3
  with_reducible refine zcz (λQ2 q2=>?_) ?_
  ·nofun
   rw[show decide (zcD (Dd.draw h lo hi) ="set")=false from k2]
   exact q2
  with_reducible refine zcz (λQ2 q2=>?_) ?_
  ·nofun
   rw[show decide (zcD (Dd.draw h lo hi) ="part")=false from k3]
   exact q2
  with_reducible refine ziG (λQ2 q2=>?_) (λNX=>?_)
  ·nofun
   rw[decide_eq_true (show zcD (Dd.draw h lo hi) ="draw" from rfl)]
   exact q2
  nofun
  refine⟨t,na,aa,h,lo,hi,N,A,rfl,SqT.of hT2,hN2,hA.rep,by omega,by omega,gA.2,λv H3 s3 n3=>?_⟩
  exact q _ _ (s02.trans s3) (n3.back s02)
 | turn l p2=>
  obtain⟨t',xs,et,hT2,px⟩:=zce rx2
  cases et
  obtain⟨x0,r,rfl,e0,px⟩:=zaB px
  obtain⟨x1,r,rfl,e1,px⟩:=zaB px
  obtain⟨x2,r,rfl,e2,px⟩:=zaB px
  cases zde px;cases zdv e0
  obtain⟨b1,rfl,hb1⟩:=zeW e1
  cases zco e2
  with_reducible refine zcz (λQ2 q2=>?_) ?_
  ·nofun
   rw[show decide (zcD (Dd.turn l p2) ="set")=false from k4]
   exact q2
  with_reducible refine zcz (λQ2 q2=>?_) ?_
  ·nofun
   rw[show decide (zcD (Dd.turn l p2) ="part")=false from k5]
   exact q2
  with_reducible refine zcz (λQ2 q2=>?_) ?_
  ·nofun
   rw[show decide (zcD (Dd.turn l p2) ="draw")=false from k6]
   exact q2
  with_reducible refine ziG (λQ2 q2=>?_) (λNX=>?_)
  ·nofun
   rw[decide_eq_true (show zcD (Dd.turn l p2) ="turn" from rfl)]
   exact q2
  nofun
  refine za4 (SqT.of hT2) (v:=.ref b1) (zaA (j:=1) rfl) ?_
  nofun
  refine za4 (SqT.of hT2) (v:=.int p2) (zaA (j:=2) rfl) ?_
  nofun
  refine due _ s02 ok.2.1 ok.2.2 λta H3 s3 ta0 hTh=>?_
  have gT:=hg.due p2
  have s03:=s02.trans s3
  nofun
  refine⟨b1,na,ta,aa,l,N,_,A,rfl,s3 _ _ hb1,ok.1,hN2.same s3,hTh.rep,(hA.same s3).rep,by omega,by omega,by omega,λv H4 s4 n4=>?_⟩
  exact q _ _ (s03.trans s4) (n4.back s03)
 | hold l=>
  obtain⟨t',xs,et,hT2,px⟩:=zce rx2
  cases et
  obtain⟨x0,r,rfl,e0,px⟩:=zaB px
  obtain⟨x1,r,rfl,e1,px⟩:=zaB px
  cases zde px;cases zdv e0
  obtain⟨b1,rfl,hb1⟩:=zeW e1
  with_reducible refine zcz (λQ2 q2=>?_) ?_
  ·nofun
   rw[show decide (zcD (Dd.hold l) ="set")=false from k7]
   exact q2
  with_reducible refine zcz (λQ2 q2=>?_) ?_
  ·nofun
   rw[show decide (zcD (Dd.hold l) ="part")=false from k8]
   exact q2
  with_reducible refine zcz (λQ2 q2=>?_) ?_
  ·nofun
   rw[show decide (zcD (Dd.hold l) ="draw")=false from k9]
   exact q2
  with_reducible refine zcz (λQ2 q2=>?_) ?_
  ·nofun
   rw[show decide (zcD (Dd.hold l) ="turn")=false from k10]
   exact q2
  with_reducible refine ziG (λQ2 q2=>?_) (λNX=>?_)
  ·nofun
   rw[decide_eq_true (show zcD (Dd.hold l) ="hold" from rfl)]
   exact q2
  nofun
  refine za4 (SqT.of hT2) (v:=.ref b1) (zaA (j:=1) rfl) ?_
  nofun
  refine⟨(by walk_at "sm"),λp3 hp3=>?_⟩
  have t3:=zag hp3 (.lst [V.ref b1])
  nofun
  refine⟨p3,na,[l],N,rfl,zcb (bs:=[b1]) zad rfl (zeT (t3 _ _ hb1)),(hN2.same t3).rep,by simp,by omega,λv1 H3 s3 n3=>?_⟩
  have s23:=t3.trans s3
  nofun
  refine za4 (SqT.of (s23 _ _ hT2)) (v:=.ref b1) (zaA (j:=1) rfl) ?_
  nofun
  refine⟨(by walk_at "sm"),λp5 hp5=>?_⟩
  have t5:=zag hp5 (.lst [V.ref b1])
  obtain⟨xs,hxs,lxs⟩:=(hN2.same s23).len
  nofun
  refine zbe (t5 _ _ hxs) zad (zal (by simp;omega)) λp6 hp6=>?_
  have hL6:=Ls.more (p:=p6) (bs:=[b1]) (ms:=[l]) ((hN2.same s23).same t5) (t5 _ _ hxs) rfl (zeT (t5 _ _ (s23 _ _ hb1))) hp6
  have t6:=zag hp6 (.lst (xs++[V.ref b1]))
  have t56:=t5.trans t6
  nofun
  refine⟨aa,p6,A,N++[l],rfl,(hA.same (s23.trans t56)).rep,hL6.rep,by omega,by simp;omega,λv2 H4 s4 n4=>?_⟩
  obtain⟨a1,vs1,f1,rfl,z1,y1,r1,_⟩:=New.lso n3
  obtain⟨a2,vs2,f2,rfl,z2,y2,r2,_⟩:=New.lso n4
  have l1:=r1.length
  have l2:=r2.length
  simp only[zlm] at l1 l2
  have sD:=t56.trans s4
  nofun
  refine zbe (sD _ _ y1) y2 (zal (by simp at l1;omega)) λp7 hp7=>?_
  exact q _ _ ((s02.trans (s23.trans sD)).trans (zag hp7 _)) (New.cat (n3.back (s02.trans t3)) (s02.trans s23) sD (n4.back t56) (sD _ _ y1) y2 hp7)
 | call m g0 g1 t0 t1=>
  obtain⟨t',xs,et,hT2,px⟩:=zce rx2
  cases et
  obtain⟨x0,r,rfl,e0,px⟩:=zaB px
  obtain⟨x1,r,rfl,e1,px⟩:=zaB px
  obtain⟨x2,r,rfl,e2,px⟩:=zaB px
  obtain⟨x3,r,rfl,e3,px⟩:=zaB px
  cases zde px;cases zdv e0
  cases zco e1
  obtain⟨b2,rfl,hb2⟩:=ziO e2
  obtain⟨b3,rfl,hb3⟩:=ziO e3
  with_reducible refine zcz (λQ2 q2=>?_) ?_
  ·nofun
   rw[show decide (zcD (Dd.call m g0 g1 t0 t1) ="set")=false from k11]
   exact q2
  with_reducible refine zcz (λQ2 q2=>?_) ?_
  ·nofun
   rw[show decide (zcD (Dd.call m g0 g1 t0 t1) ="part")=false from k12]
   exact q2
  with_reducible refine zcz (λQ2 q2=>?_) ?_
  ·nofun
   rw[show decide (zcD (Dd.call m g0 g1 t0 t1) ="draw")=false from k13]
   exact q2
  with_reducible refine zcz (λQ2 q2=>?_) ?_
  ·nofun
   rw[show decide (zcD (Dd.call m g0 g1 t0 t1) ="turn")=false from k14]
   exact q2
  with_reducible refine zcz (λQ2 q2=>?_) ?_
  ·nofun
   rw[show decide (zcD (Dd.call m g0 g1 t0 t1) ="hold")=false from k15]
   exact q2
  obtain⟨o,od,ons,hv,hO,hgo⟩:=hcl
  nofun
  refine za4 (SqT.of hT2) (v:=.int m) (zaA (j:=1) rfl) ?_
  nofun
  refine⟨ca,.ref o,rfl,by rw[<-hv];exact DGet.k (k:=.inl m) (s02 _ _ hca),?_⟩
  nofun
  refine⟨t,na,aa,o,b2,b3,m,g0,g1,t0,t1,N,A,_,_,od,ons,rfl,SqT.of hT2,SqT.of hb2,SqT.of hb3,hN2,hA.rep,by omega,by omega,gN.2,gA.2,hO.same s02,hgo,λv H3 s3 n3=>?_⟩
  exact q _ _ (s02.trans s3) (n3.back s02)
inductive Q28 (K:Fg)(C:Nat->Addr)(vs:List V)(H:Hp)(Q:VK)(E:XK):Prop
  | mk (p ca:Addr) (needs leaves:List (List Int)) (deeds:List Dd) (notes:List (List (List Int))) (kvs:List (Key × V)) (oath:Oath):vs=[.ref p,.ref ca]->zdI K (C 0) H p needs leaves deeds notes->Good needs leaves deeds.length notes->(∀ d∈deeds,dOk deeds.length d)->H ca=some (.dK kvs)->(∀ m∈zaY deeds,m.natAbs<zbv)->(((∃ m∈zaY deeds,valV kvs (.inl m)=none)/\∀ H',Same H H'->E (.ref (C 4)) none H')\/
   ((∀ m∈zaY deeds,(valV kvs (.inl m)).isSome=true)/\(∀ d∈deeds,zmv K (C 0) H kvs oath d)/\(zgv needs leaves deeds notes oath).length<=1000/\∀ v H',Same H H'->New H H' (.lst (zgv needs leaves deeds notes oath)) v->Q v H'))->Q28 K C vs H Q E
include B Z in
theorem zmG (Qe:Fn P w K mg b8 "called_by" ["craft"] 1 (Qd K C))(Q2a:Fn P w K mg b8 "first_duties" ["craft"] 4 (Q29 K C))(Q2c:Fn P w K mg b8 "deed_duties" ["craft","place","crafts"] 5 (Q2b K C))(F:Fun K "duties" "duties" zhw f fd)(m:mg "duties"=some (.ref f)):Fnx P w K mg b8 "duties" ["craft","crafts"] 6 (Q28 K C):=by
 refine⟨f,fd,F.okx (k:=5) ze4 (λvs H Q E h=>?_) (λcdv A outer s H vs Q E hr h=>?_),F.binds λ_ _ _ _ _ _ us hl=>(by obtain⟨_,_,rfl⟩:=len2 hl;rfl),F.kp,m⟩
 ·first
  | (obtain⟨_,_,_,_,_,_,_,_,rfl,_⟩:=h;rfl)
 obtain⟨p,ca,needs,leaves,deeds,notes,kvs,oath,rfl,hT,hg,hok,hca,hm,hc⟩:=h
 refine⟨_,(zae (zci PassesOwn.leaving rfl (zaT K (zak Qe hr rfl (zaa (pv 0) zab))) (zas (i:=2) ze4.nd rfl (Or.inl rfl)) (zai (za2 (zg8 (zf5 (hr_u hr) (pv 2) (pv 1))) (zai (zfR Z.e_Unmet rfl Z.m_Unmet rfl zhM (za0 (zqg (pv 2) (by decide +kernel) (by decide +kernel)) zab))) zav)))
   (zae (zau (i:=3) ze4.nd rfl (Or.inl rfl) (zak Q2a hr rfl (zaa (pv 0) zab)))
   (zae (zci PassesOwn.leaving rfl (zbs rfl B.range (zay (zar (zdV K) rfl B.len L2.boot_len (zaO (zaU K (pv 0) rfl) zab)) zab)) (zas (i:=4) ze4.nd rfl (Or.inl rfl)) (zai (zbd (zkz PySem.F.plainAttrs_list PySem.F.slot_list_extend PySem.F.type_list_extend zlz (pv 3) (zay (zak Q2c hr rfl (zaa (pv 0) (zaa (pv 4) (zaa (pv 1) zab)))) zab)))))
   (zai (zan (pv 3)))))),?_⟩
 have hT0:=hT
 obtain⟨hC,dx,w1,w2,bd,w4,dvs,hp,hbd,hD⟩:=hT
 walk_at "q"
 nofun
 refine⟨p,dx,bd,w1,w2,w4,dvs,deeds,rfl,hp,hbd,hD,by have:=hg.d;omega,λv H1 s1 n1=>?_⟩
 obtain⟨la,rfl,la0,la1⟩:=New.iif.mp n1
 have lc:(zaY deeds).length<=deeds.length:=List.length_filterMap_le _ _
 refine⟨la,rfl,⟨_,SqL.of la1⟩,?_⟩
 refine zgg (zaS (SqL.of la1)) (λi σ H2=>∃ x,A3 (σ=[some (.ref p),some (.ref ca),x,none,none]) (Same H1 H2) (∀ m∈(zaY deeds).take i,(valV kvs (.inl m)).isSome=true))
  ⟨none,rfl,Same.refl _,λm hm=>by simp at hm⟩ (λi σ H2 ⟨_,_,e,_⟩=>e) ?_ ?_
 ·rintro i v σ H2 H3 hi ⟨x,rfl,s2,hpre⟩ s3 hv
  rw[zgm] at hv
  obtain⟨m,hm',rfl⟩:=zme.mp hv
  have mm:=zmg hm'
  have s03:=s1.trans (s2.trans s3)
  nofun
  refine⟨ca,_,rfl,DGet.k (k:=.inl m) (s03 _ _ hca),?_⟩
  cases hv':valV kvs (.inl m) with
  | none=>
   nofun
   refine zei (λ_=>?_) (λz=>by cases z)
   nofun
   refine⟨hm m mm,λz=>?_⟩
   nofun
   refine⟨(by walk_at "sm"),?_⟩
   rcases hc with ⟨_,hE⟩ | ⟨hB,_⟩
   ·exact hE _ s03
   ·have:=hB m mm
    rw[hv'] at this;cases this
  | some y=>
   nofun
   refine zei (λz=>by cases z) (λ_=>?_)
   nofun
   refine⟨_,rfl,s2.trans s3,λk hk=>?_⟩
   rw[List.take_add_one,hm'] at hk
   rcases zma.mp hk with hk | hk
   ·exact hpre k hk
   ·simp at hk;subst hk;rw[hv'];rfl
 rintro σ H2 ⟨x,rfl,s2,hall⟩
 rw[zlm,List.take_of_length_le (Nat.le_refl _)] at hall
 rcases hc with ⟨⟨m,mm,hn⟩,_⟩ | ⟨_,hcl,hlen,q⟩
 ·have:=hall m mm
  rw[hn] at this;cases this
 have s02:=s1.trans s2
 walk_at "q"
 nofun
 refine⟨p,needs,leaves,deeds.map toD,notes,rfl,hC.same s02,by rw[zlm];exact hg,λv H3 s3 n3=>?_⟩
 have s03:=s02.trans s3
 obtain⟨ta,tvs,rfl,ta0,ac⟩:=(n3.back s02).acc
 nofun
 walk_at "q"
 nofun
 refine⟨p,(C 0),dx,_,_,rfl,s03 _ _ hp,Z.c_Craft,Z.n_Craft_deeds,zbq _ _ _ _,?_⟩
 nofun
 refine zeA (.inl (SqL.of (s03 _ _ hbd))) ?_
 rw[<-hD.1]
 refine zch (by omega) (by have:=hg.d;omega) ?_
 refine zhL (λi σ H4=>∃ x y vs,i<=deeds.length/\σ=[some (.ref p),some (.ref ca),x,some (.ref ta),y]/\Same H H4/\Free H H4/\Acc H ta H4 (ziP needs leaves notes++za6 leaves notes oath (deeds.take i) 0) vs)
  ⟨_,none,tvs,Nat.zero_le _,rfl,s03,s03.fr,by rw[List.take_zero];show Acc H ta H3 (_++[]) tvs;rw[List.append_nil];exact ac⟩ ?_ ?_
 ·rintro i σ H4 hi ⟨x',y,vs,him,rfl,s4,f4,ac4⟩
  have hi':i<deeds.length:=by have:i<((deeds.length:Int)).toNat:=hi;omega
  have eT:deeds=deeds.take i++deeds[i]::deeds.drop (i+1):=by rw[List.getElem_cons_drop,List.take_append_drop]
  have eS:deeds.take (i+1)=deeds.take i++[deeds[i]]:=by rw[List.take_add_one,List.getElem?_eq_getElem hi'];rfl
  have step:za6 leaves notes oath (deeds.take (i+1)) 0=za6 leaves notes oath (deeds.take i) 0++zeY (dueL leaves notes i) (dueL leaves notes ((i:Int)+1)) (dueL leaves notes) oath deeds[i]:=by
   rw[eS,zeF]
   congr 1
   show zeY _ _ _ _ _++[]=_
   rw[List.append_nil,List.length_take,Nat.zero_add,Nat.min_eq_left (by omega)]
  have short:(ziP needs leaves notes++za6 leaves notes oath (deeds.take (i+1)) 0).length<=1000:=by
   refine Nat.le_trans ?_ hlen
   unfold zgv
   have:=zeF leaves notes oath (deeds.take (i+1)) (deeds.drop (i+1)) 0
   rw[List.take_append_drop] at this
   rw[this]
   simp only[List.length_append];omega
  nofun
  refine⟨tyL ac4.get,?_⟩
  nofun
  rw[Int.zero_add]
  refine⟨p,ca,i,needs,leaves,deeds,notes,kvs,oath,deeds[i],rfl,zdI.same s4 hT0,hg,List.getElem?_eq_getElem hi',hok _ (List.getElem_mem hi'),s4 _ _ hca,(hcl _ (List.getElem_mem hi')).same s4,λv H5 s5 n5=>?_⟩
  obtain⟨b,zs,rfl,b0,ab⟩:=n5.acc
  have lz:=ab.len
  have lv:=ac4.len
  nofun
  refine⟨ta,b,vs,zs,rfl,rfl,s5 _ _ ac4.get,ab.get,?_,?_⟩
  ·rw[step] at short
   simp only[List.length_append] at short lv
   exact zal (by omega)
  ·refine⟨_,_,vs++zs,hi',rfl,(s4.trans s5).put ta0,f4.trans (s5.fr.trans zeP),?_⟩
   rw[step,<-List.append_assoc]
   exact ac4.ext f4 s5 n5 ab.get
 ·rintro σ H4 ⟨x',y,vs,him,rfl,s4,f4,ac4⟩
  nofun
  refine q _ _ s4 ?_
  rw[show ((deeds.length:Int)).toNat=deeds.length by omega,List.take_of_length_le (Nat.le_refl _)] at ac4
  exact ac4.new ta0
--LEN (rcases h with ⟨_, rfl, _⟩ | ⟨_, _, _, _, _, _, _, _, _, _, rfl, _⟩ <;> rfl)
def CB (w:Int):Prop:=-(2 ^ 62)<w/\w<2 ^ 62
def zia (K:Fg):Sp:=λvs H Q _=>(∃ d,vs=[d,.non]/\Q (.bl false) H)\/∃ (d r ga ha wa:Addr) (goal:List Int) (hyps:List (List Int)) (xs:List V) (whole:Int) (ws:List Int),vs=[.ref d,.ref r]/\SqT K H d [.ref ga,.ref ha]/\H ga=some (.lst (goal.map V.int))/\H ha=some (.lst xs)/\Reps K H (hyps.map nums) xs/\SqT K H r [.int whole,.ref wa]/\SqL K H wa (ws.map V.int)/\goal.length=9/\(∀ l∈hyps,l.length=9)/\hyps.length<=100/\ws.length<=1000/\CB whole/\(∀ w∈ws,CB w)/\
 ∀ H',Same H H'->Q (.bl (zgr goal hyps whole ws)) H'
theorem zo4 (ws:List Int):(ws.map λw=>decide (w<0)).any id=!ws.all λw=>decide (0<=w):=by
 induction ws with
 | nil=>rfl
 | cons w ws ih=>
  rw[zmc,List.any_cons,ih,List.all_cons,Bool.not_and]
  congr 1
  by_cases h:w<0
  ·rw[id,decide_eq_true h,decide_eq_false (by omega)];rfl
  ·rw[id,decide_eq_false h,decide_eq_true (by omega)];rfl
theorem zqy:(List.replicate (8:Int).toNat [V.int 0]).flatten=(List.replicate 8 (0:Int)).map V.int:=rfl
include B Z in
theorem znI (Q3:Fn P w K mg b8 "summed" ["lines","weights"] 1 (Q1 K))(F:Fun K "shows" "shows" zeq f fd)(m:mg "shows"=some (.ref f)):Fn P w K mg b8 "shows" ["duty","row"] 2 (zia K):=by
 refine Fn.of (k:=1) F zbU m (λ_ _ _ _ _ _ us hl=>(by obtain⟨_,_,rfl⟩:=len2 hl;rfl)) (λvs H Q E h=>?_) (λcdv A outer s H vs Q E hr h=>?_)
 ·first
  | (rcases h with ⟨_,rfl,_⟩ | ⟨_,_,_,_,_,_,_,_,_,_,rfl,_⟩ <;> rfl)
  | (obtain⟨rfl,_⟩:=h;rfl)
  | (obtain⟨_,rfl,_⟩:=h;rfl)
  | (obtain⟨_,_,rfl,_⟩:=h;rfl)
  | (obtain⟨_,_,_,rfl,_⟩:=h;rfl)
  | (obtain⟨_,_,_,_,rfl,_⟩:=h;rfl)
  | (obtain⟨_,_,_,_,_,rfl,_⟩:=h;rfl)
  | (obtain⟨_,_,_,_,_,_,rfl,_⟩:=h;rfl)
  | (obtain⟨_,_,_,_,_,_,_,rfl,_⟩:=h;rfl)
  | (obtain⟨_,_,_,_,_,_,_,_,rfl,_⟩:=h;rfl)
  | (obtain⟨_,_,_,_,_,_,_,_,_,rfl,_⟩:=h;rfl)
  | (obtain⟨_,_,_,_,_,_,_,_,_,_,rfl,_⟩:=h;rfl)
  | (obtain⟨_,_,_,_,_,_,_,_,_,_,_,rfl,_⟩:=h;rfl)
  | (obtain⟨_,_,_,_,_,_,_,_,_,_,_,_,rfl,_⟩:=h;rfl)
  | (obtain⟨_,_,_,_,_,_,_,_,_,_,_,_,_,rfl,_⟩:=h;rfl)
  | (obtain⟨_,_,_,_,_,_,_,_,_,_,_,_,_,_,rfl,_⟩:=h;rfl)
  | (obtain⟨_,_,_,_,_,_,_,_,_,_,_,_,_,_,_,rfl,_⟩:=h;rfl)
  | (obtain⟨_,_,_,_,_,_,_,_,_,_,_,_,_,_,_,_,rfl,_⟩:=h;rfl)
 rcases h with ⟨d,rfl,q⟩ | ⟨d,r,ga,ha,wa,goal,hyps,xs,whole,ws,rfl,hd,hga,hha,hx,hrr,hwa,l9,h9,hl,hlw,cw,cws,q⟩
 ·refine⟨_,(zae (za2 (zaz znO (pv 1) zfx (zaw _)) (zai (zan zdr)) zav)
   (zae (zau (i:=2) zbU.nd rfl (Or.inl rfl) (zaH (k_ix K) (pv 0) zac (λ_ _=>rfl)))
   (zae (zau (i:=3) zbU.nd rfl (Or.inl rfl) (zaH (k_ix K) (pv 0) zac (λ_ _=>rfl)))
   (zae (zau (i:=4) zbU.nd rfl (Or.inl rfl) (zaH (k_ix K) (pv 1) zac (λ_ _=>rfl)))
   (zae (zau (i:=5) zbU.nd rfl (Or.inl rfl) (zaH (k_ix K) (pv 1) zac (λ_ _=>rfl)))
   (zae (za2 (PW.pt (zhA (zaz zlh (pv 4) zac (zaw _)) (zhA (zaz (k_ne K hr) (zar (zdV K) rfl B.len L2.boot_len (zaa (pv 5) zab)) (zar (zdV K) rfl B.len L2.boot_len (zaa (pv 3) zab)) (zaw _)) (zfY (zbP (zar (zp4 K rfl) rfl B.any L2.zj7 (zcy (zaX rfl (COk.m (sc0:=zaf zeq) (N:=["duty","row","goal","hypotheses","whole","weights","rest"]) (N':=["duty","row","goal","hypotheses","whole","weights","rest","weight"]) (ms:=[false,false,false,false,false,false,false,true])) (zaT K (pv 5)) (λ_ _ _ _ _=>(zas (i:=7) (ndS (N:=["duty","row","goal","hypotheses","whole","weights","rest","weight"])) rfl (Or.inl rfl))) (λ_ _ _ _ _=>zaD) (λ_ _ _ _ _=>(zbg zlh (pv 7) zac (zaw _)))) zab))))))) (zai (zan zdr)) zav)
   (zae (zau (i:=6) zbU.nd rfl (Or.inl rfl) (zak Q3 hr rfl (zaP (zat (zaF K) (zaE (zaa (pv 2) zab)) (pv 3)) (zaP (zat (zaF K) (zaE (zaa (pv 4) zab)) (zaX rfl (COk.m (sc0:=zaf zeq) (N:=["duty","row","goal","hypotheses","whole","weights","rest"]) (N':=["duty","row","goal","hypotheses","whole","weights","rest","weight"]) (ms:=[false,false,false,false,false,false,false,true])) (zaT K (pv 5)) (λ_ _ _ _ _=>(zas (i:=7) (ndS (N:=["duty","row","goal","hypotheses","whole","weights","rest","weight"])) rfl (Or.inl rfl))) (λ_ _ _ _ _=>zaD) (λ_ _ _ _ _=>(zeL zcL (pv 7))))) zab))))
   (zai (zan (zbA (zbg zok (zaH (k_ix K) (pv 6) zac (λ_ _=>rfl)) (zeL zcL (pv 4)) (zaw _)) (zb0 (zbg (k_eq K hr) (zhC (k_sl K) (pv 6) (zjj zac) zji) (zat zaV (zaE (zaj zac zab)) (za1 rfl B.c_FACTORS)) (zaw _))))))))))))),?_⟩
  ac_rfl
  refine⟨rfl,?_⟩
  rw[zoO]
  ac_rfl
  exact q
 refine⟨_,(zae (za2 (zaz znO (pv 1) zfx (zaw _)) (zai (zan zdr)) zav)
   (zae (zau (i:=2) zbU.nd rfl (Or.inl rfl) (zaH (k_ix K) (pv 0) zac (λ_ _=>rfl)))
   (zae (zau (i:=3) zbU.nd rfl (Or.inl rfl) (zaH (k_ix K) (pv 0) zac (λ_ _=>rfl)))
   (zae (zau (i:=4) zbU.nd rfl (Or.inl rfl) (zaH (k_ix K) (pv 1) zac (λ_ _=>rfl)))
   (zae (zau (i:=5) zbU.nd rfl (Or.inl rfl) (zaH (k_ix K) (pv 1) zac (λ_ _=>rfl)))
   (zae (za2 (PW.pt (zhA (zaz zlh (pv 4) zac (zaw _)) (zhA (zaz (k_ne K hr) (zar (zdV K) rfl B.len L2.boot_len (zaa (pv 5) zab)) (zar (zdV K) rfl B.len L2.boot_len (zaa (pv 3) zab)) (zaw _)) (zfY (zbP (zar (zp4 K rfl) rfl B.any L2.zj7 (zcy (zaX rfl (COk.m (sc0:=zaf zeq) (N:=["duty","row","goal","hypotheses","whole","weights","rest"]) (N':=["duty","row","goal","hypotheses","whole","weights","rest","weight"]) (ms:=[false,false,false,false,false,false,false,true])) (zaT K (pv 5)) (λ_ _ _ _ _=>(zas (i:=7) (ndS (N:=["duty","row","goal","hypotheses","whole","weights","rest","weight"])) rfl (Or.inl rfl))) (λ_ _ _ _ _=>zaD) (λ_ _ _ _ _=>(zbg zlh (pv 7) zac (zaw _)))) zab))))))) (zai (zan zdr)) zav)
   (zae (zau (i:=6) zbU.nd rfl (Or.inl rfl) (zak Q3 hr rfl (zaP (zat (zaF K) (zaE (zaa (pv 2) zab)) (pv 3)) (zaP (zat (zaF K) (zaE (zaa (pv 4) zab)) (zaX rfl (COk.m (sc0:=zaf zeq) (N:=["duty","row","goal","hypotheses","whole","weights","rest"]) (N':=["duty","row","goal","hypotheses","whole","weights","rest","weight"]) (ms:=[false,false,false,false,false,false,false,true])) (zaT K (pv 5)) (λ_ _ _ _ _=>(zas (i:=7) (ndS (N:=["duty","row","goal","hypotheses","whole","weights","rest","weight"])) rfl (Or.inl rfl))) (λ_ _ _ _ _=>zaD) (λ_ _ _ _ _=>(zeL zcL (pv 7))))) zab))))
   (zai (zan (zbA (zbg zok (zaH (k_ix K) (pv 6) zac (λ_ _=>rfl)) (zeL zcL (pv 4)) (zaw _)) (zb0 (zbg (k_eq K hr) (zhC (k_sl K) (pv 6) (zjj zac) zji) (zat zaV (zaE (zaj zac zab)) (za1 rfl B.c_FACTORS)) (zaw _))))))))))))),?_⟩
 have lx:=hx.length
 rw[zlm] at lx
 ac_rfl
 refine⟨rfl,?_⟩
 rw[zl1]
 ac_rfl
 refine za4 hd zbt ?_
 ac_rfl
 refine za4 hd (v:=.ref ha) (zaA (j:=1) rfl) ?_
 ac_rfl
 refine za4 hrr zbt ?_
 ac_rfl
 refine za4 hrr (v:=.ref wa) (zaA (j:=1) rfl) ?_
 ac_rfl
 have no:rowB hyps whole ws=false->∀ H',Same H H'->Q (.bl false) H':=λe H' s=>by
  have:=q H' s
  unfold zgr at this
  rwa [e,Bool.false_and] at this
 refine zei (λe=>?_) (λe=>?_)
 ·ac_rfl
  refine no ?_ _ (Same.refl _)
  unfold rowB
  rw[decide_eq_false (by have:=of_decide_eq_true e;omega)];rfl
 have w1:1<=whole:=by have:=of_decide_eq_false e;omega
 ac_rfl
 refine zeA (.inl hwa) ?_
 ac_rfl
 refine zeA (.inl (SqL.of hha)) ?_
 ac_rfl
 refine zei (λe=>?_) (λe=>?_)
 ·ac_rfl
  refine no ?_ _ (Same.refl _)
  have e1:¬ ((((ws.map V.int).length:Nat):Int)=(xs.length:Int)):=by simpa using e
  unfold rowB
  rw[decide_eq_false (show ¬ (ws.length=hyps.length) by rw[zlm] at e1;omega),Bool.false_and,Bool.and_false]
 have e1:(((ws.map V.int).length:Nat):Int)=(xs.length:Int):=by simpa using e
 have lw:ws.length=hyps.length:=by rw[zlm] at e1;omega
 ac_rfl
 refine⟨wa,rfl,⟨_,hwa⟩,?_⟩
 refine zaI (zaS hwa) ((ws.map λw=>decide (w<0)).map D.bl) (by simp) (zal (by simp;omega)) (λj x d' H4 R hj hd' s4 hx' hR=>?_) (λv H4 s4 n4=>?_)
 ·rw[zgm] at hx'
  obtain⟨w,hw,rfl⟩:=zme.mp hx'
  rw[zgm,zgm,hw] at hd'
  cases hd'
  ac_rfl
  exact hR _ _ (Same.refl _) New.bl
 obtain⟨ba,rfl,ba0,ba1⟩:=New.bls n4
 ac_rfl
 refine i_any (SqL.of ba1) ?_
 rw[zo4]
 ac_rfl
 refine zei (λe=>?_) (λe=>?_)
 ·ac_rfl
  refine no ?_ _ s4
  unfold rowB
  rw[show (ws.all λw=>decide (0<=w))=false by simpa using e,Bool.and_false,Bool.and_false]
 have hrow:rowB hyps whole ws=true:=by
  unfold rowB
  rw[decide_eq_true w1,decide_eq_true lw,show (ws.all λw=>decide (0<=w))=true by simpa using e];rfl
 ac_rfl
 refine⟨(by walk_at "sm"),λp hp=>?_⟩
 have s5:=s4.trans (zag hp (.lst [.ref ga]))
 ac_rfl
 refine zbe zad (s5 _ _ hha) (zal (by simp;omega)) λp2 hp2=>?_
 have s6:=s5.trans (zag hp2 (.lst ([.ref ga]++xs)))
 ac_rfl
 refine⟨(by walk_at "sm"),λp3 hp3=>?_⟩
 have s7:=s6.trans (zag hp3 (.lst [.int whole]))
 ac_rfl
 refine⟨wa,rfl,⟨_,s7.seq hwa⟩,?_⟩
 refine zaI (zaS (s7.seq hwa)) ((negs ws).map D.int) (by simp[negs]) (zal (by simp;omega)) (λj x d' H8 R hj hd' s8 hx' hR=>?_) (λv H8 s8 n8=>?_)
 ·rw[zgm] at hx'
  obtain⟨w,hw,rfl⟩:=zme.mp hx'
  unfold negs at hd'
  rw[zgm,zgm,hw] at hd'
  cases hd'
  ac_rfl
  exact hR _ _ (Same.refl _) New.int
 obtain⟨na,rfl,na0,na1⟩:=New.iif.mp n8
 ac_rfl
 refine zbe (s8 _ _ zad) na1 (zal (by simp[negs];omega)) λp4 hp4=>?_
 have s9:=s8.trans (zag hp4 (.lst ([.int whole]++(negs ws).map V.int)))
 have s09:=s7.trans s9
 ac_rfl
 have hL:Rep K (upd H8 p4 (.lst ([.int whole]++(negs ws).map V.int))) (.lst ((goal::hyps).map nums)) (.ref p2):=by
  unfold Rep
  refine⟨p2,[.ref ga]++xs,rfl,SqL.of (s9 _ _ (zag hp3 _ _ _ zad)),?_⟩
  rw[zmc]
  unfold Reps
  exact⟨_,_,rfl,za3.mpr ⟨ga,rfl,SqL.of (s09 _ _ hga)⟩,Reps.same s09 _ hx⟩
 refine⟨p2,p4,goal::hyps,whole::negs ws,rfl,hL,SqL.of zad,by simp[negs];omega,by simp;omega,λl hl=>?_,λi l w e1 e2 n hn=>?_,λv Ha sa na=>?_⟩
 ·rcases List.mem_cons.mp hl with hl | hl
  ·subst hl;exact l9
  ·exact h9 l hl
 ·refine .inr ?_
  cases i with
  | zero=>simp at e2;subst e2;unfold CB at cw;exact⟨by omega,by omega⟩
  | succ i=>
   have e2':(negs ws)[i]?=some w:=by simpa using e2
   unfold negs at e2'
   rw[zgm] at e2'
   obtain⟨u,hu,rfl⟩:=zme.mp e2'
   have:=cws u (zmg hu)
   unfold CB at this
   exact⟨by omega,by omega⟩
 obtain⟨ra,rfl,ra0,ra1⟩:=New.iif.mp na
 have hr9:(zmn goal hyps whole ws).length=9:=zaZ λl hl=>by
  rcases List.mem_cons.mp hl with hl | hl
  ·subst hl;exact l9
  ·exact h9 l hl
 obtain⟨c,fs,ec⟩:∃ c fs,zmn goal hyps whole ws=c::fs:=by
  cases e:zmn goal hyps whole ws with
  | nil=>rw[e] at hr9;simp at hr9
  | cons c fs=>exact⟨c,fs,rfl⟩
 have ra2:Ha ra=some (.lst ((c::fs).map V.int)):=by rw[<-ec];exact ra1
 have sf:=s09.trans sa
 have yes:∀ H',Same H H'->Q (.bl (decide (-whole<c) && decide (fs=List.replicate 8 0))) H':=λH' s=>by
  have:=q H' s
  unfold zgr zqs at this
  rw[hrow,ec,Bool.true_and] at this
  exact this
 ac_rfl
 refine zbE (SqL.of ra2) (v:=.int c) zbt ?_
 ac_rfl
 cases hb:decide (-whole<c) with
 | false=>
  ac_rfl
  have:=yes _ sf
  rw[hb,Bool.false_and] at this
  exact this
 | true=>
  ac_rfl
  refine i_slL (SqL.of ra2) λp5 hp5=>?_
  rw[show cutV ((c::fs).map V.int) (some 1) none=fs.map V.int from znm (k:=1) (by simp)]
  ac_rfl
  refine⟨(by walk_at "sm"),λp6 hp6=>?_⟩
  ac_rfl
  refine .inr ⟨p6,8,[.int 0],rfl,rfl,zad,by decide,by decide,by decide,λp7 hp7=>?_⟩
  rw[zqy]
  have t5:=zag hp5 (.lst (fs.map V.int))
  have t6:=zag hp6 (.lst [.int 0])
  have t7:=zag hp7 (.lst ((List.replicate 8 (0:Int)).map V.int))
  ac_rfl
  refine znc (d:=nums fs) (e:=nums (List.replicate 8 0)) (za3.mpr ⟨p5,rfl,SqL.of (t7 _ _ (t6 _ _ zad))⟩) (za3.mpr ⟨p7,rfl,SqL.of zad⟩) (Nat.le_trans (zeO _) (by decide)) ?_
  have:=yes _ (sf.trans (t5.trans (t6.trans t7)))
  rw[hb,Bool.true_and] at this
  unfold pyEq
  rw[zfh]
  exact this
def zcG (K:Fg):Sp:=λvs H Q _=>∃ n:Nat,vs=[.int n]/\n<=8/\∀ v H',Same H H'->New H H' (.lst ((zej n).map nums)) v->Q v H'
theorem zmH {n:Nat}(h:n<=8):(zej n).length<=256:=by
 rw[zfB]
 exact Nat.le_trans (Nat.pow_le_pow_right (by decide) h) (by decide)
theorem znJ {H:Hp}{p r:Addr}(hp:H p=none)(hr:(upd H p (.lst [])) r=none):New H (upd (upd H p (.lst [])) r (.lst [.ref p])) (.lst ((zej 0).map nums)) (.ref r):=by
 have s1:=zag hp (.lst [])
 have s2:=zag hr (.lst [.ref p])
 have pr:r≠p:=λz=>by rw[z,zad] at hr;cases hr
 refine New.lst (fp:=[p]) ?_ (by simp) (λb hb=>?_) (s1.free hr) (by simpa using pr) zad
 ·show zah _ [nums []] [.ref p] [p]
  exact zah.cany (f:=[p]) (fp:=[]) (RepF.line (ns:=[]) (s2 _ _ zad)) zah.nil
 ·rw[zms.mp hb];exact hp
include B Z in
theorem zeH (F:Fun K "noughts_and_ones" "noughts_and_ones" zbc f fd)(m:mg "noughts_and_ones"=some (.ref f)):Fn P w K mg b8 "noughts_and_ones" ["count"] 1 (zcG K):=by
 refine Fn.of (k:=0) F zbi m (λ_ _ _ _ _ _ us hl=>(by obtain⟨_,rfl⟩:=len1 hl;rfl)) (λvs H Q E h=>?_) (λcdv A outer s H vs Q E hr h=>?_)
 ·first
  | (obtain⟨_,rfl,_⟩:=h;rfl)
 obtain⟨n,rfl,hn,q⟩:=h
 refine⟨_,(zae (zau (i:=1) zbi.nd rfl (Or.inl rfl) (zaE (zbR (zaE zab) zab)))
   (zae (zci PassesOwn.never rfl (zbs rfl B.range (zaa (pv 0) zab)) (zas (i:=2) zbi.nd rfl (Or.inl rfl)) (zai (zau (i:=1) zbi.nd rfl (Or.inl rfl) (zat (zaF K) (zaX rfl (COk.m (sc0:=zaf zbc) (N:=["count","found","bit"]) (N':=["count","found","bit","weights"]) (ms:=[false,false,false,true])) (zaT K (pv 1)) (λ_ _ _ _ _=>(zas (i:=3) (ndS (N:=["count","found","bit","weights"])) rfl (Or.inl rfl))) (λ_ _ _ _ _=>zaD) (λ_ _ _ _ _=>(zat (zaF K) (pv 3) (zaE (zaj zac zab))))) (zaX rfl (COk.m (sc0:=zaf zbc) (N:=["count","found","bit"]) (N':=["count","found","bit","weights"]) (ms:=[false,false,false,true])) (zaT K (pv 1)) (λ_ _ _ _ _=>(zas (i:=3) (ndS (N:=["count","found","bit","weights"])) rfl (Or.inl rfl))) (λ_ _ _ _ _=>zaD) (λ_ _ _ _ _=>(zat (zaF K) (pv 3) (zaE (zaj zac zab)))))))))
   (zai (zan (pv 1))))),?_⟩
 ac_rfl
 refine⟨(by walk_at "sm"),λp1 hp1=>?_⟩
 ac_rfl
 refine⟨(by walk_at "sm"),λp2 hp2=>?_⟩
 have n0:=znJ hp1 hp2
 have s0:=(zag hp1 (.lst [])).trans (zag hp2 (.lst [.ref p1]))
 ac_rfl
 refine zch (by omega) (by omega) ?_
 refine zhL (λi σ H2=>∃ x fa,i<=n/\σ=[some (.int n),some (.ref fa),x]/\Same H H2/\New H H2 (.lst ((zej i).map nums)) (.ref fa))
  ⟨none,p2,Nat.zero_le _,rfl,s0,n0⟩ ?_ ?_
 ·rintro i σ H2 hi ⟨x,fa,him,rfl,s2,n2⟩
  have hi':i<n:=by have:i<((n:Int)).toNat:=hi;omega
  have lr:=zmH (n:=i) (by omega)
  obtain⟨_,ef,fa0,lsf⟩:=n2.ls
  cases ef
  obtain⟨vs,hvs,lvs⟩:=lsf.len
  ac_rfl
  refine⟨fa,rfl,⟨_,SqL.of hvs⟩,?_⟩
  refine zaI (zaS (SqL.of hvs)) (((zej i).map λr=>r++[0]).map nums) (by simp[lvs]) (zal (by omega)) (λj x' d H4 R hj hd s4 hx' hR=>?_) (λv H3 s3 n3=>?_)
  ·obtain⟨wa,r,rfl,hr',hwa⟩:=lsf.item hvs hx'
   rw[zgm,zgm,hr'] at hd;cases hd
   have lr2:=(zdd _ _ (zmg hr')).1
   ac_rfl
   refine⟨(by walk_at "sm"),λp hp=>?_⟩
   have t1:=zag hp (.lst [.int 0])
   ac_rfl
   refine zbe (t1 _ _ (s4 _ _ hwa)) zad (zal (by simp;omega)) λp' hp'=>?_
   exact hR _ _ (t1.trans (zag hp' _)) (New.iif.mpr ⟨p',rfl,t1.free hp',by rw[zad,List.map_append];rfl⟩)
  ac_rfl
  refine⟨fa,rfl,⟨_,SqL.of (s3 _ _ hvs)⟩,?_⟩
  refine zaI (zaS (SqL.of (s3 _ _ hvs))) (((zej i).map λr=>r++[1]).map nums) (by simp[lvs]) (zal (by omega)) (λj x' d H4 R hj hd s4 hx' hR=>?_) (λv' H4 s4 n4=>?_)
  ·obtain⟨wa,r,rfl,hr',hwa⟩:=lsf.item hvs hx'
   rw[zgm,zgm,hr'] at hd;cases hd
   have lr2:=(zdd _ _ (zmg hr')).1
   ac_rfl
   refine⟨(by walk_at "sm"),λp hp=>?_⟩
   have t1:=zag hp (.lst [.int 1])
   ac_rfl
   refine zbe (t1 _ _ (s4 _ _ (s3 _ _ hwa))) zad (zal (by simp;omega)) λp' hp'=>?_
   exact hR _ _ (t1.trans (zag hp' _)) (New.iif.mpr ⟨p',rfl,t1.free hp',by rw[zad,List.map_append];rfl⟩)
  obtain⟨a1,vs1,f1,rfl,z1,y1,r1,_⟩:=New.lso n3
  obtain⟨a2,vs2,f2,rfl,z2,y2,r2,_⟩:=New.lso n4
  have l1:=r1.length
  have l2:=r2.length
  simp only[zlm] at l1 l2
  ac_rfl
  refine zbe (s4 _ _ y1) y2 (zal (by omega)) λp hp=>?_
  ac_rfl
  refine⟨_,p,by omega,rfl,(s2.trans (s3.trans s4)).trans (zag hp _),?_⟩
  have:=New.cat (n3.back s2) (s2.trans s3) s4 n4 (s4 _ _ y1) y2 hp
  rw[<-List.map_append] at this
  exact this
 ·rintro σ H2 ⟨x,fa,him,rfl,s2,n2⟩
  ac_rfl
  exact q _ _ s2 n2
inductive Q3d (K:Fg)(vs:List V)(H:Hp)(Q:VK)(E:XK):Prop
 | mk (d ga ha:Addr) (goal:List Int) (hyps:List (List Int)) (xs:List V):vs=[.ref d]->SqT K H d [.ref ga,.ref ha]->H ga=some (.lst (goal.map V.int))->H ha=some (.lst xs)->Reps K H (hyps.map nums) xs->goal.length=9->(∀ l∈hyps,l.length=9)->hyps.length<=8->(∀ v H',Same H H'->New H H' (rowD (zb5 goal hyps)) v->Q v H')->Q3d K vs H Q E
theorem zo5 {n:Nat}{r:List Int}(h:r∈zej n):∀ w∈r,CB w:=λw hw=>by
 have:=(zdd _ _ h).2 w hw
 unfold CB
 rcases this with z | z <;> exact⟨by omega,by omega⟩
include B Z in
theorem zmI (Q3e:Fn P w K mg b8 "noughts_and_ones" ["count"] 1 (zcG K))(Q3c:Fn P w K mg b8 "shows" ["duty","row"] 2 (zia K))(F:Fun K "sought" "sought" zhx f fd)(m:mg "sought"=some (.ref f)):Fn P w K mg b8 "sought" ["duty"] 3 (Q3d K):=by
 refine Fn.of (k:=2) F ze5 m (λ_ _ _ _ _ _ us hl=>(by obtain⟨_,rfl⟩:=len1 hl;rfl)) (λvs H Q E h=>?_) (λcdv A outer s H vs Q E hr h=>?_)
 ·first
  | (obtain⟨_,_,_,_,_,_,rfl,_⟩:=h;rfl)
 obtain⟨d,ga,ha,goal,hyps,xs,rfl,hd,hga,hha,hx,l9,h9,hl,q⟩:=h
 obtain⟨gw,g_WHOLES,hT⟩:=B.t_WHOLES
 have lx:=hx.length
 rw[zlm] at lx
 refine⟨_,(zae (zau (i:=1) ze5.nd rfl (Or.inl rfl) (zak Q3e hr rfl (zay (zar (zdV K) rfl B.len L2.boot_len (zaK (zaH (k_ix K) (pv 0) zac (λ_ _=>rfl)) zab)) zab)))
   (zae (zci PassesOwn.never rfl (zhi K (zbu rfl g_WHOLES)) (zas (i:=2) ze5.nd rfl (Or.inl rfl)) (zai (zci PassesOwn.never rfl (zaT K (pv 1)) (zas (i:=3) ze5.nd rfl (Or.inl rfl)) (zai (za2 (zbP (zak Q3c hr rfl (zaa (pv 0) (zn3 (zdP (zaa (pv 2) (zaa (pv 3) zab))) zab)))) (zai (zan (zdP (zaa (pv 2) (zaa (pv 3) zab))))) zav)))))
   (zai (zan zfx)))),?_⟩
 ac_rfl
 refine za4 hd (v:=.ref ha) (zaA (j:=1) rfl) ?_
 ac_rfl
 refine zeA (.inl (SqL.of hha)) ?_
 ac_rfl
 refine⟨xs.length,rfl,by omega,λv H1 s1 n1=>?_⟩
 rw[<-lx] at n1
 obtain⟨ra,rfl,ra0,lsr⟩:=n1.ls
 obtain⟨vs,hvs,lvs⟩:=lsr.len
 have lr:=zmH (n:=hyps.length) hl
 ac_rfl
 refine⟨gw,rfl,⟨_,hT _⟩,?_⟩
 refine zgg (n:=4) (zeg (xs:=([1,2,3,4]:List Int).map V.int) (hT H1)) (λi σ H2=>∃ x y,A3 (σ=[some (.ref d),some (.ref ra),x,y]) (Same H1 H2) ((([1,2,3,4]:List Int).take i).findSome? (zhT goal hyps)=none))
  ⟨none,none,rfl,Same.refl _,rfl⟩ (λi σ H2 ⟨_,_,_,e,_⟩=>e) ?_ ?_
 ·rintro i v σ H2 H3 hi ⟨x,y,rfl,s2,f2⟩ s3 hv
  rw[zgm] at hv
  obtain⟨w,hw,rfl⟩:=zme.mp hv
  have w4:1<=w/\w<=4:=by
   have:=zmg hw
   simp at this
   omega
  have s13:=s2.trans s3
  ac_rfl
  refine⟨ra,rfl,⟨_,SqL.of (s13 _ _ hvs)⟩,?_⟩
  refine zgg (zaS (SqL.of (s13 _ _ hvs))) (λj σ H4=>∃ y,A3 (σ=[some (.ref d),some (.ref ra),some (.int w),y]) (Same H3 H4) (((zej hyps.length).take j).findSome? (ziM goal hyps w)=none))
   ⟨y,rfl,Same.refl _,rfl⟩ (λi σ H2 ⟨_,_,e,_⟩=>e) ?_ ?_
  ·rintro j v σ H4 H5 hj ⟨y',rfl,s4,f4⟩ s5 hv
   obtain⟨wa,r,rfl,hr',hwa⟩:=lsr.item hvs hv
   have hm:=zmg hr'
   have lr2:=(zdd _ _ hm).1
   have s15:=s13.trans (s4.trans s5)
   have s05:=s1.trans s15
   ac_rfl
   refine⟨(by walk_at "sm"),λT hTT=>?_⟩
   have t1:=zag hTT (.tup [.int w,.ref wa])
   have s06:=s05.trans t1
   ac_rfl
   refine .inr ⟨d,T,ga,ha,wa,goal,hyps,xs,w,r,rfl,s06.tup hd,s06 _ _ hga,s06 _ _ hha,Reps.same s06 _ hx,SqT.of zad,SqL.of (t1 _ _ (s15 _ _ hwa)),l9,h9,by omega,by omega,by unfold CB;exact⟨by omega,by omega⟩,zo5 hm,λH7 s7=>?_⟩
   have s17:=s15.trans (t1.trans s7)
   cases hb:zgr goal hyps w r with
   | true=>
    ac_rfl
    refine⟨(by walk_at "sm"),λT2 hT2=>?_⟩
    have e1:ziM goal hyps w r=some (w,r):=by unfold ziM;rw[if_pos hb]
    have e2:zhT goal hyps w=some (w,r):=zhU f4 hr' e1
    have e3:zb5 goal hyps=some (w,r):=zhU f2 hw e2
    have n7:New H H7 (nums r) (.ref wa):=(New.item (d:=nums r) n1 hvs (by rw[zgm,hr'];rfl) hv).same s17
    refine q _ _ ((s1.trans s17).trans (zag hT2 _)) ?_
    rw[e3]
    exact n7.pairT hT2
   | false=>
    ac_rfl
    refine⟨_,rfl,s4.trans (s5.trans (t1.trans s7)),zgs f4 hr' ?_⟩
    unfold ziM
    rw[if_neg (by rw[hb];decide)]
  ·rintro σ H4 ⟨y',rfl,s4,f4⟩
   refine⟨_,_,rfl,s13.trans s4,zgs f2 hw ?_⟩
   exact zkg f4 (by omega)
 ·rintro σ H2 ⟨x,y,rfl,s2,f2⟩
  ac_rfl
  refine q _ _ (s1.trans s2) ?_
  have e3:zb5 goal hyps=none:=zkg f2 (by decide)
  rw[e3]
  exact New.non
inductive Q3f (K:Fg)(C:Nat->Addr)(vs:List V)(H:Hp)(Q:VK)(E:XK):Prop
 | mk (ha dx:Addr):vs=[.ref ha]->H ha=some (.ins (C 7) dx [])->(∀ la va H',H la=none->H va=none->la≠va->OffA [ha] H H'->H' ha=some (.ins (C 7) dx (hfl la va))->H' la=some (.dK [])->H' va=some (.dK [])->Q .non H')->Q3f K C vs H Q E
include B Z in
theorem zo6 (F:Fun K "__init__" "Hall.__init__" zcr f fd)(M:Mk K (C 7) f):Mkr P w K mg b8 "Hall" (C 7) ["self"] 1 (Q3f K C):=by
 refine⟨f,fd,M,F.ok (k:=0) zfI (λvs H Q E h=>?_) (λcdv A outer s H vs Q E hr h=>?_),F.binds λ_ _ _ _ _ _ us hl=>(by obtain⟨_,rfl⟩:=len1 hl;rfl),Z.m_Hall⟩
 ·first
  | (obtain⟨_,_,rfl,_⟩:=h;rfl)
 obtain⟨ha,dx,rfl,hh,q⟩:=h
 refine⟨_,(zae (zhb (pv 0) zfN rfl)
   (zai (zhb (pv 0) zfN rfl))),?_⟩
 walk_at "q"
 nofun
 intro la la0
 have e1:(upd H la (.dK [])) ha=some (.ins (C 7) dx []):=by rw[zam (zax hh la0)];exact hh
 nofun
 refine⟨ha,(C 7),dx,[],rfl,e1,Z.c_Hall,Z.n_Hall_laid,by show 0<1000;decide,?_⟩
 nofun
 intro va va0
 have nha:va≠ha:=λz=>by rw[z,zad] at va0;cases va0
 have nla:va≠la:=λz=>by rw[z,zam (zax hh la0).symm,zad] at va0;cases va0
 have v0:H va=none:=by rw[zam nha,zam nla] at va0;exact va0
 nofun
 refine⟨ha,(C 7),dx,_,rfl,by rw[zam nha.symm,zad],Z.c_Hall,Z.n_Hall_vouched,Nat.lt_of_lt_of_le (zdz (n:=1) (by decide)) (by decide),?_⟩
 have nl:la≠ha:=(zax hh la0).symm
 refine q la va _ la0 v0 nla.symm (λb o n e=>?_) zad ?_ ?_
 ·have n1:b≠ha:=λz=>n (by simp[z])
  rw[zam n1,zam (zax e v0),zam n1,zam (zax e la0)]
  exact e
 ·rw[zam nl,zam nla.symm,zam nl,zad]
 ·rw[zam nha,zad]
inductive Q52 (K:Fg)(C:Nat->Addr)(vs:List V)(H:Hp)(Q:VK)(E:XK):Prop
 | mk (ha la va:Addr) (n:Int) (ks:List Int) (cr:Int->Cr) (ws:List Int) (fp:List Addr):vs=[.ref ha,.int n]->HAt (C 7) (C 0) H ha la va ks cr ws fp->(∀ H' ws',OffA [va] H H'->HAt (C 7) (C 0) H' ha la va ks cr ws' fp->(∀ m,m∈ws'↔m∈ws/\m≠n)->Q .non H')->Q52 K C vs H Q E
include B Z in
theorem zgM (F:Fun K "release" "Hall.release" zcY f fd)(M:Meth K (C 7) "release" f):Mth CX0 P w K mg b8 (C 7) "release" ["self","number"] 1 (Q52 K C):=by
 refine⟨f,fd,M,F.ok (k:=0) zgE (λvs H Q E h=>?_) (λcdv A outer s H vs Q E hr h=>?_),F.binds λ_ _ _ _ _ _ us hl=>(by obtain⟨_,_,rfl⟩:=len2 hl;rfl)⟩
 ·first
  | (obtain⟨_,_,_,_,_,_,_,_,rfl,_⟩:=h;rfl)
 obtain⟨ha,la,va,n,ks,cr,ws,fp,rfl,hA,q⟩:=h
 refine⟨_,(zai (zbd (zm2 (zaU K (pv 0) rfl) (pv 1) zfx ⟨rfl,rfl,rfl,rfl⟩))),?_⟩
 obtain⟨dx,hh⟩:=hA.ins
 obtain⟨kvs,hva,hk⟩:=hA.vou
 nofun
 refine⟨ha,(C 7),dx,_,_,rfl,hh,Z.c_Hall,Z.n_Hall_vouched,zeh _ _,?_⟩
 refine⟨va,rfl,.inl ⟨_,.inl hva⟩,?_⟩
 nofun
 refine⟨kvs,.inl n,hva,rfl,λv hv=>?_,λhv=>?_⟩
 ·nofun
  refine q _ _ (zdx (by simp)) (hA.putV hk.drop λm hm=>hA.sub m (List.mem_filter.mp hm).1) λm=>?_
  rw[List.mem_filter,decide_eq_true_eq]
 ·nofun
  refine q _ ws (Same.refl _).offA hA λm=>⟨λhm=>⟨hm,λz=>?_⟩,λhm=>hm.1⟩
  subst z
  obtain⟨v,e,_⟩:=hk.2.2 m hm
  rw[e] at hv;cases hv
inductive Q50 (K:Fg)(C:Nat->Addr)(vs:List V)(H:Hp)(Q:VK)(E:XK):Prop
 | mk (ha la va:Addr) (n:Int) (ks:List Int) (cr:Int->Cr) (ws:List Int) (fp:List Addr):vs=[.ref ha,.int n]->HAt (C 7) (C 0) H ha la va ks cr ws fp->(∀ v H',Same H H'->New H H' (nums (zd5 ks cr n)) v->Q v H')->Q50 K C vs H Q E
include B Z in
theorem zft (Qe:Fn P w K mg b8 "called_by" ["craft"] 1 (Qd K C))(F:Fun K "called_at" "Hall.called_at" zcg f fd)(M:Meth K (C 7) "called_at" f):Mth CX0 P w K mg b8 (C 7) "called_at" ["self","number"] 2 (Q50 K C):=by
 refine⟨f,fd,M,F.ok (k:=1) zfp (λvs H Q E h=>?_) (λcdv A outer s H vs Q E hr h=>?_),F.binds λ_ _ _ _ _ _ us hl=>(by obtain⟨_,_,rfl⟩:=len2 hl;rfl)⟩
 ·first
  | (obtain⟨_,_,_,_,_,_,_,_,rfl,_⟩:=h;rfl)
 obtain⟨ha,la,va,n,ks,cr,ws,fp,rfl,hA,q⟩:=h
 refine⟨_,(zae (za2 (zg8 (zlD (hr_u hr) (pv 1) (zaU K (pv 0) rfl))) (zai (zan (zak Qe hr rfl (zaK (zez (hr_u hr) (zaU K (pv 0) rfl) (pv 1) (λ_ _=>rfl)) zab)))) zav)
   (zai (zan (zaE zab)))),?_⟩
 obtain⟨dx,hh⟩:=hA.ins
 obtain⟨kvs,hla,hk⟩:=hA.laid
 unfold zd5 at q
 walk_at "q"
 nofun
 refine⟨ha,(C 7),dx,_,_,rfl,hh,Z.c_Hall,Z.n_Hall_laid,zcE _ _,?_⟩
 refine⟨la,_,rfl,DGet.k (k:=.inl n) hla,?_⟩
 by_cases hm:n∈ks
 ·obtain⟨v,hv,p,f,rfl,hC,hf⟩:=hk.2.2 n hm
  rw[if_pos hm] at q
  have rt:=hA.rt n hm
  obtain⟨_,dx',w1,w2,b3,w4,dvs,hp,hb3,hD⟩:=hC.t (K:=K) rt.nine.d9
  rw[hv]
  nofun
  refine zei (λ_=>?_) (λz=>by cases z)
  nofun
  refine⟨ha,(C 7),dx,_,_,rfl,hh,Z.c_Hall,Z.n_Hall_laid,zcE _ _,?_⟩
  nofun
  refine⟨la,.ref p,rfl,by rw[<-hv];exact DGet.k (k:=.inl n) hla,?_⟩
  nofun
  exact⟨p,dx',b3,w1,w2,w4,dvs,(cr n).deeds,rfl,hp,hb3,hD,by have:=rt.nine.d;omega,q⟩
 ·rw[if_neg hm] at q
  rw[hk.no hm]
  nofun
  refine zei (λz=>by cases z) (λ_=>?_)
  nofun
  refine⟨(by walk_at "sm"),λp hp=>?_⟩
  exact q _ _ (zag hp _) (New.iif.mpr ⟨p,rfl,hp,zad⟩)
inductive Q54 (K:Fg)(C:Nat->Addr)(vs:List V)(H:Hp)(Q:VK)(E:XK):Prop
 | mk (ha la va:Addr) (n:Int) (ks:List Int) (cr:Int->Cr) (ws:List Int) (fp:List Addr):vs=[.ref ha,.int n]->HAt (C 7) (C 0) H ha la va ks cr ws fp->(∀ H' ws',OffA [va] H H'->HAt (C 7) (C 0) H' ha la va ks cr ws' fp->(∀ m,m∈ws'↔m∈ws/\n∉zd5 ks cr m)->Q .non H')->Q54 K C vs H Q E
include B Z in
theorem zdC (Q51:Mth CX0 P w K mg b8 (C 7) "called_at" ["self","number"] 2 (Q50 K C))(Q53:Mth CX0 P w K mg b8 (C 7) "release" ["self","number"] 1 (Q52 K C))(F:Fun K "release_callers" "Hall.release_callers" zbo f fd)(M:Meth K (C 7) "release_callers" f):Mth CX0 P w K mg b8 (C 7) "release_callers" ["self","number"] 3 (Q54 K C):=by
 refine⟨f,fd,M,F.ok (k:=2) zbV (λvs H Q E h=>?_) (λcdv A outer s H vs Q E hr h=>?_),F.binds λ_ _ _ _ _ _ us hl=>(by obtain⟨_,_,rfl⟩:=len2 hl;rfl)⟩
 ·first
  | (obtain⟨_,_,_,_,_,_,_,_,rfl,_⟩:=h;rfl)
 obtain⟨ha,la,va,n,ks,cr,ws,fp,rfl,hA,q⟩:=h
 refine⟨_,(zai (zci PassesOwn.never rfl (zaT K (zc7 (zkG rfl) rfl B.list L2.zcx (zaO (zaU K (pv 0) rfl) zab))) (zas (i:=2) zbV.nd rfl (Or.inl rfl)) (zai (za2 (zaz (k_in K) (pv 1) (zdF Q51 Z.c_Hall hr zff (pv 0) (zaa (pv 2) zab)) rfl) (zai (zbd (zdF Q53 Z.c_Hall hr zff (pv 0) (zaa (pv 2) zab)))) zav)))),?_⟩
 obtain⟨dx,hh⟩:=hA.ins
 obtain⟨kvs,hva,hk⟩:=hA.vou
 have nd:=hk.2.1
 nofun
 refine⟨ha,(C 7),dx,_,_,rfl,hh,Z.c_Hall,Z.n_Hall_vouched,zeh _ _,?_⟩
 nofun
 refine zoU hva hk.1 λl hl=>?_
 have s0:=zag hl (.lst (ws.map V.int))
 have nlv:l≠va:=(zax hva hl).symm
 refine⟨l,rfl,⟨_,SqL.of zad⟩,?_⟩
 refine zeB (xs:=ws.map V.int) (λi σ H'=>∃ x ws',A4 (σ=[some (.ref ha),some (.int n),x]) (OffA [va] (upd H l (.lst (ws.map V.int))) H') (HAt (C 7) (C 0) H' ha la va ks cr ws' fp) (∀ m,m∈ws'↔m∈ws/\(m∈ws.take i->n∉zd5 ks cr m)))
  ⟨none,ws,rfl,(Same.refl _).offA,hA.same s0,λm=>by simp⟩ (λi σ H' _ ⟨_,_,_,e,_,_⟩=>SqL.of (e _ _ (by simp[nlv]) zad)) ?_ ?_
 ·rintro i v σ H2 hv ⟨x,ws',rfl,o2,hA2,hm2⟩
  rw[zgm] at hv
  obtain⟨m0,hm0,rfl⟩:=zme.mp hv
  obtain⟨dx2,hh2⟩:=hA2.ins
  nofun
  refine⟨ha,dx2,_,rfl,hh2,zdy (by decide +kernel) (by decide +kernel),?_⟩
  nofun
  refine⟨ha,la,va,m0,ks,cr,ws',fp,rfl,hA2,λv H3 s3 n3=>?_⟩
  obtain⟨ca,rfl,ca0,ca1⟩:=New.iif.mp n3
  refine i_inI (SqL.of ca1) ?_
  have tk:∀ m,m∈ws.take (i+1)↔m∈ws.take i\/m=m0:=λm=>by
   rw[List.take_add_one,hm0];simp
  by_cases hc:n∈zd5 ks cr m0
  ·rw[decide_eq_true hc]
   nofun
   refine⟨ha,dx2,_,rfl,s3 _ _ hh2,zdy (by decide +kernel) (by decide +kernel),?_⟩
   nofun
   refine⟨ha,la,va,m0,ks,cr,ws',fp,rfl,hA2.same s3,λH4 ws4 o4 hA4 hm4=>?_⟩
   nofun
   refine⟨_,ws4,rfl,o2.trans (s3.offA.trans o4),hA4,λm=>?_⟩
   rw[hm4,hm2,tk]
   constructor
   ·rintro⟨⟨h1,h2⟩,h3⟩
    exact⟨h1,λz=>by rcases z with z | z;exact h2 z;exact absurd z h3⟩
   ·rintro⟨h1,h2⟩
    exact⟨⟨h1,λz=>h2 (.inl z)⟩,λz=>h2 (.inr z) (by rw[z];exact hc)⟩
  ·rw[decide_eq_false hc]
   nofun
   refine⟨_,ws',rfl,o2.trans s3.offA,hA2.same s3,λm=>?_⟩
   rw[hm2,tk]
   constructor
   ·rintro⟨h1,h2⟩
    exact⟨h1,λz=>by rcases z with z | z;exact h2 z;rw[z];exact hc⟩
   ·rintro⟨h1,h2⟩
    exact⟨h1,λz=>h2 (.inl z)⟩
 ·rintro σ H2 ⟨x,ws',rfl,o2,hA2,hm2⟩
  nofun
  refine q _ ws' (s0.offA.trans o2) hA2 λm=>?_
  rw[hm2,zlm,List.take_of_length_le (Nat.le_refl _)]
  exact⟨λh=>⟨h.1,h.2 h.1⟩,λh=>⟨h.1,λ_=>h.2⟩⟩
inductive Q56 (K:Fg)(C:Nat->Addr)(vs:List V)(H:Hp)(Q:VK)(E:XK):Prop
 | mk (p q:Addr) (n1 l1 n2 l2:List (List Int)) (d1 d2:List D) (o1 o2:List (List (List Int))):vs=[.ref p,.ref q]->zbh K (C 0) H p n1 l1 d1 o1->zbh K (C 0) H q n2 l2 d2 o2->Q (.bl (decide (n1=n2) && decide (l1=l2))) H->Q56 K C vs H Q E
include B Z in
theorem zi2 (F:Fun K "same_oath" "same_oath" zes f fd)(m:mg "same_oath"=some (.ref f)):Fn P w K mg b8 "same_oath" ["craft","other"] 1 (Q56 K C):=by
 refine Fn.of (k:=0) F ziW m (λ_ _ _ _ _ _ us hl=>(by obtain⟨_,_,rfl⟩:=len2 hl;rfl)) (λvs H Q E h=>?_) (λcdv A outer s H vs Q E hr h=>?_)
 ·first
  | (obtain⟨_,_,_,_,_,_,_,_,_,_,rfl,_⟩:=h;rfl)
 obtain⟨p,q,n1,l1,n2,l2,d1,d2,o1,o2,rfl,hP,hQ,k⟩:=h
 refine⟨_,(zai (zan (zbA (zbg (k_eq K hr) (zaU K (pv 0) rfl) (zaU K (pv 1) rfl) (zaw _)) (zb0 (zbg (k_eq K hr) (zaU K (pv 0) rfl) (zaU K (pv 1) rfl) (zaw _)))))),?_⟩
 obtain⟨dx,w1,w2,w3,w4,hp,r1,r2,_,_⟩:=hP
 obtain⟨dy,u1,u2,u3,u4,hq,t1,t2,_,_⟩:=hQ
 obtain⟨a1,rfl⟩:∃ b,w1=.ref b:=by unfold zaq Rep at r1;obtain⟨a,_,e,_⟩:=r1;exact⟨a,e⟩
 obtain⟨a2,rfl⟩:∃ b,w2=.ref b:=by unfold zaq Rep at r2;obtain⟨a,_,e,_⟩:=r2;exact⟨a,e⟩
 obtain⟨b1,rfl⟩:∃ b,u1=.ref b:=by unfold zaq Rep at t1;obtain⟨a,_,e,_⟩:=t1;exact⟨a,e⟩
 obtain⟨b2,rfl⟩:∃ b,u2=.ref b:=by unfold zaq Rep at t2;obtain⟨a,_,e,_⟩:=t2;exact⟨a,e⟩
 nofun
 refine⟨p,(C 0),dx,_,_,rfl,hp,Z.c_Craft,Z.n_Craft_needs,zbH _ _ _ _,?_⟩
 nofun
 refine⟨q,(C 0),dy,_,_,rfl,hq,Z.c_Craft,Z.n_Craft_needs,zbH _ _ _ _,?_⟩
 refine znc r1 t1 (Nat.le_trans (zdX _) (by decide)) ?_
 rw[zhs]
 refine zc9 (λe=>?_) (λe=>by rw[e,Bool.false_and] at k;exact k)
 rw[e,Bool.true_and] at k
 nofun
 refine⟨p,(C 0),dx,_,_,rfl,hp,Z.c_Craft,Z.n_Craft_leaves,zbm _ _ _ _,?_⟩
 nofun
 refine⟨q,(C 0),dy,_,_,rfl,hq,Z.c_Craft,Z.n_Craft_leaves,zbm _ _ _ _,?_⟩
 refine znc r2 t2 (Nat.le_trans (zdX _) (by decide)) ?_
 rw[zhs]
 exact k
inductive Q40 (K:Fg)(C:Nat->Addr)(vs:List V)(H:Hp)(Q:VK)(E:XK):Prop
 | mk (ha la va p:Addr) (n:Int) (ks:List Int) (cr:Int->Cr) (ws:List Int) (fp:List Addr) (c:Cr):vs=[.ref ha,.int n,.ref p]->HAt (C 7) (C 0) H ha la va ks cr ws fp->zdI K (C 0) H p c.needs c.leaves c.deeds c.notes->c.Nine->n.natAbs<zbv->(n∈ks\/ks.length<60)->(c.right=false->∀ H',Same H H'->E (.ref (C 2)) none H')->(c.right=true->∀ H' ks' ws' fp',OffA [la,va] H H'->HAt (C 7) (C 0) H' ha la va ks' (setC cr n c) ws' fp'->(∀ m,m∈ks'↔m∈ks\/m=n)->(n∈ks->ks'=ks)->(n∉ks->ks'=ks++[n])->
  (∀ m,m∈ws'↔m∈ws/\m≠n/\(n∈ks->¬ ((cr n).needs=c.needs/\(cr n).leaves=c.leaves)->n∉zd5 ks cr m))->(∀ b∈fp',b∈fp\/H b=none)->Q .non H')->Q40 K C vs H Q E
include B Z in
theorem zjQ (Q53:Mth CX0 P w K mg b8 (C 7) "release" ["self","number"] 1 (Q52 K C))(Qc:Fn P w K mg b8 "copied_craft" ["craft"] 4 (Qb K C))(G_right:Fn P w K mg b8 "right" ["craft"] 7 (Qf K C))(Q55:Mth CX0 P w K mg b8 (C 7) "release_callers" ["self","number"] 3 (Q54 K C))(Q57:Fn P w K mg b8 "same_oath" ["craft","other"] 1 (Q56 K C))(F:Fun K "lay" "Hall.lay" zfa f fd)(M:Meth K (C 7) "lay" f):Mth (CX1 P w) P w K mg b8 (C 7) "lay" ["self","number","craft"] 8 (Q40 K C):=by
 refine⟨f,fd,M,F.okx (k:=7) zjK (λvs H Q E h=>?_) (λcdv A outer s H vs Q E hr h=>?_),F.binds λ_ _ _ _ _ _ us hl=>(by obtain⟨_,_,_,rfl⟩:=len3 hl;rfl)⟩
 ·first
  | (obtain⟨_,_,_,_,_,_,_,_,_,_,rfl,_⟩:=h;rfl)
 obtain⟨ha,la,va,p,n,ks,cr,ws,fp,c,rfl,hA,hT,nine,hn,hfew,qE,qQ⟩:=h
 refine⟨_,(zae (za2 (zdD (zbP (zak G_right hr rfl (zaa (pv 2) zab)))) (zai (zfR Z.e_BadSheet rfl Z.m_BadSheet rfl zhM (za0 (zqg (pv 1) (by decide +kernel) (by decide +kernel)) zab))) zav)
   (zae (za2 (PW.pt (znM (zg8 (zlD (hr_u hr) (pv 1) (zaU K (pv 0) rfl))) (zk8 (zdD (zbP (zak Q57 hr rfl (zaK (zez (hr_u hr) (zaU K (pv 0) rfl) (pv 1) (λ_ _=>rfl)) (zaa (pv 2) zab)))))))) (zai (zbd (zdF Q55 Z.c_Hall hr zff (pv 0) (zaa (pv 1) zab)))) zav)
   (zae (zbd (zdF Q53 Z.c_Hall hr zff (pv 0) (zaa (pv 1) zab)))
   (zai (zf6 (hr_u hr) (zaU K (pv 0) rfl) (pv 1) (zak Qc hr rfl (zaa (pv 2) zab)) rfl))))),?_⟩
 have g1:=nine.n
 have g2:=nine.l
 have g3:=nine.d
 have g4:=nine.o
 walk_at "q"
 nofun
 refine⟨p,c.needs,c.leaves,c.deeds,c.notes,rfl,hT.1,by omega,by omega,by omega,by omega,nine.n9,nine.l9,nine.d9,λls hl=>⟨by have:=(nine.o9 ls hl).1;omega,(nine.o9 ls hl).2⟩,λH1 s1=>?_⟩
 cases hr':zdH c.needs c.leaves c.deeds c.notes with
 | false=>
  nofun
  refine⟨hn,λz=>?_⟩
  nofun
  exact⟨(by walk_at "sm"),qE hr' _ s1⟩
 | true=>
 have qQ:=qQ hr'
 clear qE
 have rtc:c.Rt:=⟨nine,hr'⟩
 nofun
 have hA1:=hA.same s1
 have hT1:=zdI.same s1 hT
 have oA:∀ {Hx:Hp},OffA [va] H1 Hx->zdI K (C 0) Hx p c.needs c.leaves c.deeds c.notes:=λ{Hx} o=>by
  obtain⟨kv,hv,_⟩:=hA1.vou
  have nd:=o.nod λa ha=>by rw[zms.mp ha];exact⟨_,hv⟩
  obtain⟨k0,dx,w1,w2,b3,w4,dvs,k1,k2,k3⟩:=hT1
  exact⟨k0.nod nd,dx,w1,w2,b3,w4,dvs,nd _ _ k1 (λ_ z=>by cases z),nd _ _ k2 (λ_ z=>by cases z),R2.mono k3 λ_ _ z=>z.sq nd.sq⟩
 -- who called it by another oath is let go
 with_reducible refine zem (λσ H'=>σ=[some (.ref ha),some (.int n),some (.ref p)]/\∃ ws',OffA [va] H1 H'/\HAt (C 7) (C 0) H' ha la va ks cr ws' fp/\∀ m,m∈ws'↔m∈ws/\(n∈ks->¬ ((cr n).needs=c.needs/\(cr n).leaves=c.leaves)->n∉zd5 ks cr m)) (λNX tail=>?_) ?_
 ·obtain⟨dx,hh⟩:=hA1.ins
  obtain⟨kvs,hla,hk⟩:=hA1.laid
  nofun
  refine⟨ha,(C 7),dx,_,_,rfl,hh,Z.c_Hall,Z.n_Hall_laid,zcE _ _,?_⟩
  refine⟨la,_,rfl,DGet.k (k:=.inl n) hla,?_⟩
  by_cases hm:n∈ks
  ·obtain⟨v,hv,q,f,rfl,hC,hf⟩:=hk.2.2 n hm
   rw[hv]
   nofun
   refine zei (λ_=>?_) (λz=>by cases z)
   nofun
   refine⟨ha,(C 7),dx,_,_,rfl,hh,Z.c_Hall,Z.n_Hall_laid,zcE _ _,?_⟩
   nofun
   refine⟨la,.ref q,rfl,by rw[<-hv];exact DGet.k (k:=.inl n) hla,?_⟩
   nofun
   refine⟨q,p,(cr n).needs,(cr n).leaves,c.needs,c.leaves,_,_,_,_,rfl,hC.at,hT1.1,?_⟩
   cases hs:(decide ((cr n).needs=c.needs) && decide ((cr n).leaves=c.leaves)) with
   | true=>
    nofun
    rw[Bool.and_eq_true,decide_eq_true_eq,decide_eq_true_eq] at hs
    exact tail _ _ ⟨rfl,ws,(Same.refl _).offA,hA1,λm=>⟨λz=>⟨z,λ_ w=>absurd hs w⟩,λz=>z.1⟩⟩
   | false=>
    have hs':¬ ((cr n).needs=c.needs/\(cr n).leaves=c.leaves):=λz=>by
     rw[decide_eq_true z.1,decide_eq_true z.2] at hs;cases hs
    nofun
    refine⟨ha,dx,_,rfl,hh,zdy (by decide +kernel) (by decide +kernel),?_⟩
    nofun
    refine⟨ha,la,va,n,ks,cr,ws,fp,rfl,hA1,λH2 ws2 o2 hA2 hm2=>?_⟩
    nofun
    refine tail _ _ ⟨rfl,ws2,o2,hA2,λm=>?_⟩
    rw[hm2]
    exact⟨λz=>⟨z.1,λ_ _=>z.2⟩,λz=>⟨z.1,z.2 hm hs'⟩⟩
  ·rw[hk.no hm]
   nofun
   refine zei (λz=>by cases z) (λ_=>?_)
   nofun
   exact tail _ _ ⟨rfl,ws,(Same.refl _).offA,hA1,λm=>⟨λz=>⟨z,λw=>absurd w hm⟩,λz=>z.1⟩⟩
 rintro σ H2 ⟨rfl,ws2,o2,hA2,hm2⟩
 obtain⟨dx2,hh2⟩:=hA2.ins
 walk_at "q"
 nofun
 refine⟨ha,dx2,_,rfl,hh2,zdy (by decide +kernel) (by decide +kernel),?_⟩
 nofun
 refine⟨ha,la,va,n,ks,cr,ws2,fp,rfl,hA2,λH3 ws3 o3 hA3 hm3=>?_⟩
 have o13:=o2.trans o3
 nofun
 refine⟨p,c,rfl,oA o13,nine,λq f H4 s4 hC hf fn=>?_⟩
 have hA4:=hA3.same s4
 obtain⟨dx4,hh4⟩:=hA4.ins
 obtain⟨kvs,hla,hk⟩:=hA4.laid
 nofun
 refine⟨ha,(C 7),dx4,_,_,rfl,hh4,Z.c_Hall,Z.n_Hall_laid,zcE _ _,?_⟩
 nofun
 have hkl:=hk.len
 have h60:=hA.few
 refine⟨la,_,rfl,DPut.k (k:=.inl n) hla (zbl (by omega)),?_⟩
 have nd5:NoD H4 (upd H4 la (.dK (putK kvs (.inl n) (.ref q)))):=zdw hla
 obtain⟨kv,hva,hkv⟩:=hA4.vou
 have put:=hk.put' (m:=n) (v:=.ref q) (P':=CrIn (C 0) (upd H4 la (.dK (putK kvs (.inl n) (.ref q)))) (setC cr n c) (f++fp)) ⟨q,f,rfl,by unfold setC;rw[if_pos rfl];exact hC.nod nd5,λb hb=>List.mem_append_left _ hb⟩ (λk v ne ⟨p',f',e1,e2,e3⟩=>⟨p',f',e1,by unfold setC;rw[if_neg ne];exact e2.nod nd5,λb hb=>List.mem_append_right _ (e3 b hb)⟩)
 have kss:∀ m,m∈(if n∈ks then ks else ks++[n])↔m∈ks\/m=n:=λm=>by
  by_cases z:n∈ks
  ·rw[if_pos z]
   exact⟨.inl,λw=>by rcases w with w | w;exact w;rw[w];exact z⟩
  ·rw[if_neg z];simp
 refine qQ _ (if n∈ks then ks else ks++[n]) ws3 (f++fp) ?_ ⟨?_,⟨_,zad,put⟩,⟨kv,by rw[zam hA4.ne.symm];exact hva,hkv⟩,hA4.ne,λm hm=>?_,?_,λm hm=>?_,λb hb=>?_⟩ kss (λz=>by rw[if_pos z]) (λz=>by rw[if_neg z]) (λm=>?_) (λb hb=>?_)
 ·refine OffA.trans (s1.offA.trans ?_) (s4.offA.trans (zdx (by simp)))
  exact OffA.putDict o13 λb hb=>by rw[zms.mp hb];simp
 ·exact⟨dx4,nd5 _ _ hh4 (λ_ z=>by cases z)⟩
 ·unfold setC
  by_cases z:m=n
  ·rw[if_pos z];exact rtc
  ·rw[if_neg z]
   exact hA.rt m (by rcases (kss m).mp hm with w | w;exact w;exact absurd w z)
 ·by_cases z:n∈ks
  ·rw[if_pos z];exact hA.few
  ·rw[if_neg z,List.length_append,List.length_singleton]
   rcases hfew with w | w
   ·exact absurd w z
   ·omega
 ·exact (kss m).mpr (.inl (hA4.sub m hm))
 ·rcases zma.mp hb with z | z
  ·obtain⟨o,e,n⟩:=hC.hasN b z
   exact⟨o,nd5 b o e n,n⟩
  ·obtain⟨o,e,n⟩:=hA4.has b z
   exact⟨o,nd5 b o e n,n⟩
 ·rw[hm3,hm2]
  exact⟨λz=>⟨z.1.1,z.2,z.1.2⟩,λz=>⟨⟨z.1,z.2.2⟩,z.2.1⟩⟩
 ·rcases zma.mp hb with z | z
  ·right
   have e3:=hf b z
   cases eb:H b with
   | none=>rfl
   | some o=>
    exfalso
    by_cases nb:b=va
    ·obtain⟨kv3,hv3,_⟩:=hA3.vou
     rw[nb,hv3] at e3;cases e3
    ·have:=o13 b o (by simp[nb]) (s1 _ _ eb)
     rw[this] at e3;cases e3
  ·exact .inl z
inductive Q4c (K:Fg)(C:Nat->Addr)(vs:List V)(H:Hp)(Q:VK)(E:XK):Prop
 | mk (ha dx la va:Addr) (n:Int) (kvs:List (Key × V)):vs=[.ref ha,.int n]->H ha=some (.ins (C 7) dx (hfl la va))->H la=some (.dK kvs)->n.natAbs<zbv->(valV kvs (.inl n)=none->E (.ref (C 3)) none H)->((valV kvs (.inl n)).isSome=true->Q .non H)->Q4c K C vs H Q E
include B Z in
theorem ze8 (F:Fun K "must_stand" "Hall.must_stand" zb2 f fd)(M:Meth K (C 7) "must_stand" f):Mth (CX1 P w) P w K mg b8 (C 7) "must_stand" ["self","number"] 1 (Q4c K C):=by
 refine⟨f,fd,M,F.okx (k:=0) ze6 (λvs H Q E h=>?_) (λcdv A outer s H vs Q E hr h=>?_),F.binds λ_ _ _ _ _ _ us hl=>(by obtain⟨_,_,rfl⟩:=len2 hl;rfl)⟩
 ·first
  | (obtain⟨_,_,_,_,_,_,rfl,_⟩:=h;rfl)
 obtain⟨ha,dx,la,va,n,kvs,rfl,hh,hla,hn,qE,qQ⟩:=h
 refine⟨_,(zai (za2 (zg8 (zf5 (hr_u hr) (pv 1) (zaU K (pv 0) rfl))) (zai (zfR Z.e_NoCraft rfl Z.m_NoCraft rfl zhM (za0 (zn9 (pv 1) (by decide +kernel)) zab))) zav)),?_⟩
 nofun
 refine⟨ha,(C 7),dx,_,_,rfl,hh,Z.c_Hall,Z.n_Hall_laid,zcE _ _,?_⟩
 refine⟨la,_,rfl,DGet.k (k:=.inl n) hla,?_⟩
 cases hv:valV kvs (.inl n) with
 | none=>
  nofun
  refine zei (λ_=>?_) (λz=>by cases z)
  nofun
  refine⟨hn,λz=>?_⟩
  nofun
  exact⟨(by walk_at "sm"),qE hv⟩
 | some y=>
  nofun
  refine zei (λz=>by cases z) (λ_=>?_)
  nofun
  exact qQ (by rw[hv];rfl)
inductive Q42 (K:Fg)(C:Nat->Addr)(vs:List V)(H:Hp)(Q:VK)(E:XK):Prop
 | mk (ha la va:Addr) (n:Int) (ks:List Int) (cr:Int->Cr) (ws:List Int) (fp:List Addr):vs=[.ref ha,.int n]->HAt (C 7) (C 0) H ha la va ks cr ws fp->n.natAbs<zbv->(n∉ks->E (.ref (C 3)) none H)->(n∈ks->∀ H' ws',OffA [la,va] H H'->HAt (C 7) (C 0) H' ha la va (ks.filter λk=>decide (k≠n)) cr ws' fp->(∀ m,m∈ws'↔m∈ws/\m≠n/\n∉zd5 ks cr m)->Q .non H')->Q42 K C vs H Q E
theorem HAt.dropL {cH cC:Addr}{H:Hp}{h la va:Addr}{ks vs:List Int}{cr:Int->Cr}{fp:List Addr}{kvs:List (Key × V)}{n:Int}(A:HAt cH cC H h la va ks cr vs fp)(hl:H la=some (.dK kvs))(s:∀ m∈vs,m≠n):HAt cH cC (upd H la (.dK (zbZ kvs (.inl n)))) h la va (ks.filter λk=>decide (k≠n)) cr vs fp where
 ins:=by
  obtain⟨dx,z⟩:=A.ins
  exact⟨dx,by rw[zam (zgN z hl (by intro w;cases w))];exact z⟩
 laid:=by
  obtain⟨kl,z,q⟩:=A.laid
  rw[hl] at z
  cases z
  exact⟨_,zad,(q.mono λm v ⟨p,f,e1,e2,e3⟩=>(⟨p,f,e1,e2.nod (zdw hl),e3⟩:CrIn cC (upd H la (.dK (zbZ kvs (.inl n)))) cr fp m v)).drop⟩
 vou:=by
  obtain⟨kv,z,q⟩:=A.vou
  exact⟨kv,by rw[zam A.ne.symm];exact z,q⟩
 ne:=A.ne
 rt:=λm hm=>A.rt m (List.mem_filter.mp hm).1
 few:=Nat.le_trans (List.length_filter_le _ _) A.few
 sub:=λm hm=>List.mem_filter.mpr ⟨A.sub m hm,decide_eq_true (s m hm)⟩
 has:=λb hb=>by
  obtain⟨o,z,n⟩:=A.has b hb
  exact⟨o,zdw hl b o z n,n⟩
include B Z in
theorem zi3 (Q4d:Mth (CX1 P w) P w K mg b8 (C 7) "must_stand" ["self","number"] 1 (Q4c K C))(Q55:Mth CX0 P w K mg b8 (C 7) "release_callers" ["self","number"] 3 (Q54 K C))(Q53:Mth CX0 P w K mg b8 (C 7) "release" ["self","number"] 1 (Q52 K C))(F:Fun K "tear" "Hall.tear" zer f fd)(M:Meth K (C 7) "tear" f):Mth (CX1 P w) P w K mg b8 (C 7) "tear" ["self","number"] 4 (Q42 K C):=by
 refine⟨f,fd,M,F.okx (k:=3) ziV (λvs H Q E h=>?_) (λcdv A outer s H vs Q E hr h=>?_),F.binds λ_ _ _ _ _ _ us hl=>(by obtain⟨_,_,rfl⟩:=len2 hl;rfl)⟩
 ·first
  | (obtain⟨_,_,_,_,_,_,_,_,rfl,_⟩:=h;rfl)
 obtain⟨ha,la,va,n,ks,cr,ws,fp,rfl,hA,hn,qE,qQ⟩:=h
 refine⟨_,(zae (zbd (zdF Q4d Z.c_Hall hr zgj (pv 0) (zaa (pv 1) zab)))
   (zae (zbd (zdF Q55 Z.c_Hall hr zff (pv 0) (zaa (pv 1) zab)))
   (zae (zbd (zdF Q53 Z.c_Hall hr zff (pv 0) (zaa (pv 1) zab)))
   (zai (zbd (zhH (zaU K (pv 0) rfl) (pv 1) ⟨rfl,rfl,rfl,rfl⟩)))))),?_⟩
 obtain⟨dx,hh⟩:=hA.ins
 obtain⟨kvs,hla,hk⟩:=hA.laid
 nofun
 walk_at "q"
 nofun
 refine⟨ha,dx,_,rfl,hh,zdy (by decide +kernel) (by decide +kernel),?_⟩
 nofun
 refine⟨ha,dx,la,va,n,kvs,rfl,hh,hla,hn,λz=>qE λhm=>?_,λz=>?_⟩
 ·obtain⟨v,e,_⟩:=hk.2.2 n hm
  rw[e] at z;cases z
 have hm:n∈ks:=Classical.byContradiction λw=>by rw[hk.no w] at z;cases z
 nofun
 walk_at "q"
 nofun
 refine⟨ha,dx,_,rfl,hh,zdy (by decide +kernel) (by decide +kernel),?_⟩
 nofun
 refine⟨ha,la,va,n,ks,cr,ws,fp,rfl,hA,λH1 ws1 o1 hA1 hm1=>?_⟩
 obtain⟨dx1,hh1⟩:=hA1.ins
 nofun
 walk_at "q"
 nofun
 refine⟨ha,dx1,_,rfl,hh1,zdy (by decide +kernel) (by decide +kernel),?_⟩
 nofun
 refine⟨ha,la,va,n,ks,cr,ws1,fp,rfl,hA1,λH2 ws2 o2 hA2 hm2=>?_⟩
 obtain⟨dx2,hh2⟩:=hA2.ins
 obtain⟨kv2,hla2,hk2⟩:=hA2.laid
 obtain⟨v,hv,_⟩:=hk2.2.2 n hm
 nofun
 refine⟨ha,(C 7),dx2,_,_,rfl,hh2,Z.c_Hall,Z.n_Hall_laid,zcE _ _,?_⟩
 refine⟨la,rfl,.inl ⟨_,.inl hla2⟩,?_⟩
 nofun
 refine⟨kv2,.inl n,v,hla2,rfl,hv,?_⟩
 nofun
 have o12:OffA [la,va] H H2:=(o1.trans o2).putDict λb hb=>by rw[zms.mp hb];simp
 refine qQ hm _ ws2 (o12.trans (zdx (by simp))) (hA2.dropL hla2 λm hm'=>((hm2 m).mp hm').2) λm=>?_
 rw[hm2,hm1]
 exact⟨λz=>⟨z.1.1,z.2,z.1.2⟩,λz=>⟨⟨z.1,z.2.2⟩,z.2.1⟩⟩
inductive Q44 (K:Fg)(C:Nat->Addr)(vs:List V)(H:Hp)(Q:VK)(E:XK):Prop
 | mk (ha la va:Addr) (ks:List Int) (cr:Int->Cr) (ws:List Int) (fp:List Addr):vs=[.ref ha]->HAt (C 7) (C 0) H ha la va ks cr ws fp->(∀ (l:Addr) (ns:List Int),H l=none->ns.Perm ks->ns.Pairwise (·<=·)->Q (.ref l) (upd H l (.lst (ns.map V.int))))->Q44 K C vs H Q E
include B Z in
theorem zfK (F:Fun K "standing" "Hall.standing" zcs f fd)(M:Meth K (C 7) "standing" f):Mth CX0 P w K mg b8 (C 7) "standing" ["self"] 1 (Q44 K C):=by
 refine⟨f,fd,M,F.ok (k:=0) zfJ (λvs H Q E h=>?_) (λcdv A outer s H vs Q E hr h=>?_),F.binds λ_ _ _ _ _ _ us hl=>(by obtain⟨_,rfl⟩:=len1 hl;rfl)⟩
 ·first
  | (obtain⟨_,_,_,_,_,_,_,rfl,_⟩:=h;rfl)
 obtain⟨ha,la,va,ks,cr,ws,fp,rfl,hA,q⟩:=h
 refine⟨_,(zai (zan (zar (zcc rfl) rfl B.sorted L2.zcB (zaO (zaU K (pv 0) rfl) zab)))),?_⟩
 obtain⟨dx,hh⟩:=hA.ins
 obtain⟨kvs,hla,hk⟩:=hA.laid
 have h60:=hA.few
 nofun
 refine⟨ha,(C 7),dx,_,_,rfl,hh,Z.c_Hall,Z.n_Hall_laid,zcE _ _,?_⟩
 nofun
 exact zoV hla hk.1 (by omega) q
inductive Q46 (K:Fg)(C:Nat->Addr)(vs:List V)(H:Hp)(Q:VK)(E:XK):Prop
 | mk (ha la va:Addr) (ks:List Int) (cr:Int->Cr) (ws:List Int) (fp:List Addr):vs=[.ref ha]->HAt (C 7) (C 0) H ha la va ks cr ws fp->(∀ ca H' kvs (ns:List Int) (F:Int->List Addr),Same H H'->H ca=none->H' ca=some (.dK kvs)->ns.Perm ks->ns.Pairwise (·<=·)->KVs (λm v=>∃ p,v=.ref p/\zbr (C 0) H' p (cr m) (F m)) kvs ns->(∀ m∈ns,∀ b∈F m,H b=none)->(∀ m∈ns,(F m).Nodup)->(∀ m∈ns,∀ k∈ns,m≠k->∀ b∈F m,b∉F k)->Q (.ref ca) H')->Q46 K C vs H Q E
include B Z in
theorem zg5 (Q45:Mth CX0 P w K mg b8 (C 7) "standing" ["self"] 1 (Q44 K C))(Qc:Fn P w K mg b8 "copied_craft" ["craft"] 4 (Qb K C))(F:Fun K "crafts" "Hall.crafts" zdo f fd)(M:Meth K (C 7) "crafts" f):Mth CX0 P w K mg b8 (C 7) "crafts" ["self"] 5 (Q46 K C):=by
 refine⟨f,fd,M,F.ok (k:=4) zc4 (λvs H Q E h=>?_) (λcdv A outer s H vs Q E hr h=>?_),F.binds λ_ _ _ _ _ _ us hl=>(by obtain⟨_,rfl⟩:=len1 hl;rfl)⟩
 ·first
  | (obtain⟨_,_,_,_,_,_,_,rfl,_⟩:=h;rfl)
 obtain⟨ha,la,va,ks,cr,ws,fp,rfl,hA,q⟩:=h
 refine⟨_,(zae (zau (i:=1) zc4.nd rfl (Or.inl rfl) zfN)
   (zae (zci PassesOwn.never rfl (zaT K (zjt Q45 Z.c_Hall hr zff (pv 0))) (zas (i:=2) zc4.nd rfl (Or.inl rfl)) (zai (zf6 (hr_u hr) (pv 1) (pv 2) (zak Qc hr rfl (zaK (zez (hr_u hr) (zaU K (pv 0) rfl) (pv 2) (λ_ _=>rfl)) zab)) rfl)))
   (zai (zan (pv 1))))),?_⟩
 obtain⟨dx,hh⟩:=hA.ins
 have h60:=hA.few
 walk_at "q"
 nofun
 intro ca ca0
 have s1:=zag ca0 (.dK [])
 nofun
 walk_at "q"
 nofun
 refine⟨ha,dx,_,rfl,s1 _ _ hh,zdy (by decide +kernel) (by decide +kernel),?_⟩
 nofun
 refine⟨ha,la,va,ks,cr,ws,fp,rfl,hA.same s1,λl ns l0 pm so=>?_⟩
 have s2:=zag l0 (.lst (ns.map V.int))
 have s12:=s1.trans s2
 have hca:=s2 _ _ (zad (H:=H) (a:=ca) (o:=.dK []))
 have nlc:l≠ca:=λz=>by rw[z,zad] at l0;cases l0
 have hl:(upd (upd H ca (.dK [])) l (.lst (ns.map V.int))) l=some (.lst (ns.map V.int)):=zad
 generalize (upd (upd H ca (.dK [])) l (.lst (ns.map V.int)))=H2 at s2 s12 hca hl
 have nnd:ns.Nodup:=pm.nodup_iff.mpr hA.nd
 have nlen:=pm.length_eq
 refine⟨l,rfl,⟨_,SqL.of hl⟩,?_⟩
 refine zeB (xs:=ns.map V.int) (λi σ H'=>E3 λx kvs F=>A8 (σ=[some (.ref ha),some (.ref ca),x]) (Same H H') (NoD H2 H') (H' ca=some (.dK kvs)) (KVs (λm v=>∃ p,v=.ref p/\zbr (C 0) H' p (cr m) (F m)) kvs (ns.take i)) ((∀ m∈ns.take i,∀ b∈F m,H b=none)) ((∀ m∈ns.take i,(F m).Nodup)) ((∀ m∈ns.take i,∀ k∈ns.take i,m≠k->∀ b∈F m,b∉F k)))
  ⟨none,[],(λ_=>[]:Int->List Addr),rfl,s12,(Same.refl _).nod,hca,by rw[List.take_zero];exact KVs.nil,λm hm=>by simp at hm,λm hm=>by simp at hm,λm hm=>by simp at hm⟩ (λi σ H' _ ⟨_,_,_,_,_,nd,_,_,_,_,_⟩=>SqL.of (nd _ _ hl (λ_ z=>by cases z))) ?_ ?_
 ·rintro i v σ H3 hv ⟨x,kvs,F,rfl,s3,nd3,hc3,hk3,f3,u3,d3⟩
  rw[zgm] at hv
  obtain⟨m,hm,rfl⟩:=zme.mp hv
  have hi:i<ns.length:=(zge.mp hm).1
  have mk:m∈ks:=pm.mem_iff.mp (zmg hm)
  have mt:m∉ns.take i:=zjH nnd hm
  have hA3:=hA.same s3
  obtain⟨dx3,hh3⟩:=hA3.ins
  obtain⟨kvl,hla,hkl⟩:=hA3.laid
  obtain⟨v,hv,p,f,rfl,hC,hf⟩:=hkl.2.2 m mk
  have rt:=hA.rt m mk
  nofun
  refine⟨ha,(C 7),dx3,_,_,rfl,hh3,Z.c_Hall,Z.n_Hall_laid,zcE _ _,?_⟩
  nofun
  refine⟨la,.ref p,rfl,by rw[<-hv];exact DGet.k (k:=.inl m) hla,?_⟩
  nofun
  refine⟨p,cr m,rfl,hC.t rt.nine.d9,rt.nine,λq fq H4 s4 hq fq0 fqn=>?_⟩
  have hc4:=s4 _ _ hc3
  have kl:=hk3.len
  rw[List.length_take] at kl
  nofun
  refine⟨ca,_,rfl,DPut.k (k:=.inl m) hc4 (zbl (by omega)),?_⟩
  have nd5:NoD H4 (upd H4 ca (.dK (putK kvs (.inl m) (.ref q)))):=zdw hc4
  have put:=hk3.put' (m:=m) (v:=.ref q) (P':=λk v=>∃ p,v=.ref p/\zbr (C 0) (upd H4 ca (.dK (putK kvs (.inl m) (.ref q)))) p (cr k) ((λj=>if j=m then fq else F j) k)) ⟨q,rfl,by simp only[if_pos];exact hq.nod nd5⟩ (λk v ne ⟨p',e1,e2⟩=>⟨p',e1,by simp only[if_neg ne];exact (e2.same s4).nod nd5⟩)
  rw[if_neg mt] at put
  have tk:ns.take (i+1)=ns.take i++[m]:=by rw[List.take_add_one,hm];rfl
  have old:∀ k∈ns.take i,∀ b∈F k,∃ o,H3 b=some o:=λk hk b hb=>by
   obtain⟨v,_,p',_,e2⟩:=hk3.2.2 k hk
   exact e2.has b hb
  refine⟨_,_,_,rfl,(s3.trans s4).put ca0,nd3.trans (s4.nod.trans nd5),zad,by rw[tk];exact put,λk hk b hb=>?_,λk hk=>?_,λk hk j hj ne b hb=>?_⟩
  ·rw[tk] at hk
   by_cases z:k=m
   ·simp only[z,if_pos] at hb
    exact s3.fr b (fq0 b hb)
   ·simp only[if_neg z] at hb
    refine f3 k ?_ b hb
    rcases zma.mp hk with w | w
    ·exact w
    ·exact absurd (zms.mp w) z
  ·rw[tk] at hk
   by_cases z:k=m
   ·simp only[z,if_pos];exact fqn
   ·simp only[if_neg z]
    refine u3 k ?_
    rcases zma.mp hk with w | w
    ·exact w
    ·exact absurd (zms.mp w) z
  ·rw[tk] at hk hj
   have inT:∀ {k},k∈ns.take i++[m]->¬ k=m->k∈ns.take i:=λ{k} hk z=>by
    rcases zma.mp hk with w | w
    ·exact w
    ·exact absurd (zms.mp w) z
   by_cases z:k=m
   ·have zj:¬ j=m:=λw=>ne (z.trans w.symm)
    simp only[if_pos z] at hb
    simp only[if_neg zj]
    intro w
    obtain⟨o,ho⟩:=old j (inT hj zj) b w
    rw[fq0 b hb] at ho;cases ho
   ·simp only[if_neg z] at hb
    by_cases zj:j=m
    ·simp only[if_pos zj]
     intro w
     obtain⟨o,ho⟩:=old k (inT hk z) b hb
     rw[fq0 b w] at ho;cases ho
    ·simp only[if_neg zj]
     exact d3 k (inT hk z) j (inT hj zj) ne b hb
 ·rintro σ H3 ⟨x,kvs,F,rfl,s3,nd3,hc3,hk3,f3,u3,d3⟩
  rw[zlm,List.take_of_length_le (Nat.le_refl _)] at hk3 f3 u3 d3
  nofun
  exact q ca H3 kvs ns F s3 ca0 hc3 pm so hk3 f3 u3 d3
def zmJ (rs:List (Int × List Int)):Prop:=∀ r∈rs,r.2.length<=1000/\CB r.1/\∀ w∈r.2,CB w
theorem zo7 {K:Fg}{H:Hp}{r:Int × List Int}{v:V}(h:Rep K H (zoZ r) v):∃ T wa,v=.ref T/\SqT K H T [.int r.1,.ref wa]/\SqL K H wa (r.2.map V.int):=by
 obtain⟨a,xs,rfl,hT,hx⟩:=zdY h
 unfold Reps at hx
 obtain⟨v1,r1,rfl,h1,hx⟩:=hx
 unfold Reps at hx
 obtain⟨v2,r2,rfl,h2,hx⟩:=hx
 unfold Reps at hx
 subst hx
 unfold Rep at h1
 subst h1
 obtain⟨wa,rfl,hw⟩:=za3.mp h2
 exact⟨a,wa,rfl,hT,hw⟩
inductive Q58 (K:Fg)(vs:List V)(H:Hp)(Q:VK)(E:XK):Prop
 | mk (da ra:Addr) (gs:List Du) (xs:List V) (rs:List (Int × List Int)) (ys:List V):vs=[.ref da,.ref ra]->SqL K H da xs->R2 (zhq H) gs xs->SqL K H ra ys->Reps K H (rs.map zoZ) ys->(∀ g∈gs,zgw g)->gs.length<=34->zmJ rs->(∀ H',Same H H'->Q (.bl (zkZ gs rs)) H')->Q58 K vs H Q E
include B Z in
theorem zi4 (Q3c:Fn P w K mg b8 "shows" ["duty","row"] 2 (zia K))(F:Fun K "all_shown" "all_shown" zdp f fd)(m:mg "all_shown"=some (.ref f)):Fn P w K mg b8 "all_shown" ["due","rows"] 3 (Q58 K):=by
 refine Fn.of (k:=2) F ziX m (λ_ _ _ _ _ _ us hl=>(by obtain⟨_,_,rfl⟩:=len2 hl;rfl)) (λvs H Q E h=>?_) (λcdv A outer s H vs Q E hr h=>?_)
 ·first
  | (obtain⟨_,_,_,_,_,_,rfl,_⟩:=h;rfl)
 obtain⟨da,ra,gs,xs,rs,ys,rfl,hda,hg,hra,hrp,gf,gl,rf,q⟩:=h
 refine⟨_,(zai (zan (zbA (zbg (k_eq K hr) (zar (zdV K) rfl B.len L2.boot_len (zaa (pv 0) zab)) (zar (zdV K) rfl B.len L2.boot_len (zaa (pv 1) zab)) (zaw _)) (zb0 (zar (ziA K rfl) rfl B.all L2.zcP (zcy (zaX rfl (COk.m (sc0:=zaf zdp) (N:=["due","rows"]) (N':=["due","rows","duty","row"]) (ms:=[false,false,true,true])) (zlT K rfl B.zip (zaa (pv 0) (zaa (pv 1) zab))) (λ_ _ _ _ _=>(zlU K (n:=2) rfl (zec (zas (i:=2) (ndS (N:=["due","rows","duty","row"])) rfl (Or.inl rfl)) (zec (zas (i:=3) (ndS (N:=["due","rows","duty","row"])) rfl (Or.inl rfl)) zjf)))) (λ_ _ _ _ _=>zaD) (λ_ _ _ _ _=>(zak Q3c hr rfl (zaa (pv 2) (zaa (pv 3) zab))))) zab)))))),?_⟩
 have lx:=hg.1
 have ly:=hrp.length
 rw[zlm] at ly
 nofun
 refine zeA (.inl hda) ?_
 nofun
 refine zeA (.inl hra) ?_
 nofun
 cases hb:decide (((xs.length:Nat):Int)=((ys.length:Nat):Int)) with
 | false=>
  nofun
  have:=q _ (Same.refl _)
  unfold zkZ at this
  rw[decide_eq_false (by have:=of_decide_eq_false hb;omega),Bool.false_and] at this
  exact this
 | true=>
  have hl:gs.length=rs.length:=by have:=of_decide_eq_true hb;omega
  nofun
  refine⟨da,ra,rfl,⟨_,hda⟩,⟨_,hra⟩,?_⟩
  refine zaI (n:=gs.length) (zhJ hda hra (by omega)) ((List.zipWith (λg r=>zgr g.1 g.2 r.1 r.2) gs rs).map D.bl) (by simp[hl]) (zal (by omega)) (λj x d H2 R hj hd s2 hx hR=>?_) (λv H2 s2 n2=>?_)
  ·obtain⟨T,u,z,rfl,hT,eu,ez⟩:=hx
   have jr:j<rs.length:=by omega
   have eg:gs[j]?=some gs[j]:=List.getElem?_eq_getElem hj
   have er:rs[j]?=some rs[j]:=List.getElem?_eq_getElem jr
   generalize gs[j]=g at eg
   generalize rs[j]=r at er
   rw[zgm,List.getElem?_zipWith,eg,er] at hd
   cases hd
   obtain⟨T2,ga,na,rfl,hT2,hga,hL⟩:=(hg.2 j g u eg eu).same s2
   obtain⟨k9,k4,k99⟩:=gf g (zmg eg)
   obtain⟨zs,hna,lzs,rzs⟩:=hL.out (K:=K)
   obtain⟨dd,hdd,hrep⟩:=hrp.get' ez
   rw[zgm,er] at hdd
   cases hdd
   obtain⟨T3,wa,rfl,hT3,hwa⟩:=zo7 (Rep.same s2 _ hrep)
   obtain⟨c1,c2,c3⟩:=rf r (zmg er)
   refine⟨T,_,rfl,SqT.of hT,rfl,⟨_,_,rfl,?_⟩⟩
   refine⟨_,_,rfl,?_⟩
   refine⟨rfl,?_⟩
   nofun
   exact .inr ⟨T2,T3,ga,na,wa,g.1,g.2,zs,r.1,r.2,rfl,SqT.of hT2,hga,hna,rzs,hT3,hwa,k9,k99,by omega,c1,c2,c3,λH3 s3=>hR _ _ s3 New.bl⟩
  obtain⟨ba,rfl,ba0,hba⟩:=New.bls n2
  nofun
  refine ziz (SqL.of hba) ?_
  have:=q _ s2
  unfold zkZ at this
  rw[decide_eq_true hl,Bool.true_and] at this
  exact this
inductive Q4e (K:Fg)(C:Nat->Addr)(vs:List V)(H:Hp)(Q:VK)(E:XK):Prop
 | mk (ha la va:Addr) (n:Int) (ks:List Int) (cr:Int->Cr) (ws:List Int) (fp:List Addr):vs=[.ref ha,.int n]->HAt (C 7) (C 0) H ha la va ks cr ws fp->n.natAbs<zbv->(n∉ks->E (.ref (C 3)) none H)->(n∈ks->(∃ m∈zaY (cr n).deeds,m∉ks)->∀ H',Same H H'->E (.ref (C 4)) none H')->(n∈ks->(∀ m∈zaY (cr n).deeds,m∈ks)->∀ v H',Same H H'->New H H' (.lst (((cr n).gs cr).map duD)) v->Q v H')->Q4e K C vs H Q E
include B Z in
theorem zfu (Q4d:Mth (CX1 P w) P w K mg b8 (C 7) "must_stand" ["self","number"] 1 (Q4c K C))(G_duties:Fnx P w K mg b8 "duties" ["craft","crafts"] 6 (Q28 K C))(F:Fun K "duties_at" "Hall.duties_at" zcf f fd)(M:Meth K (C 7) "duties_at" f):Mth (CX1 P w) P w K mg b8 (C 7) "duties_at" ["self","number"] 7 (Q4e K C):=by
 refine⟨f,fd,M,F.okx (k:=6) zfo (λvs H Q E h=>?_) (λcdv A outer s H vs Q E hr h=>?_),F.binds λ_ _ _ _ _ _ us hl=>(by obtain⟨_,_,rfl⟩:=len2 hl;rfl)⟩
 ·first
  | (obtain⟨_,_,_,_,_,_,_,_,rfl,_⟩:=h;rfl)
 obtain⟨ha,la,va,n,ks,cr,ws,fp,rfl,hA,hn,q1,q2,q3⟩:=h
 refine⟨_,(zae (zbd (zdF Q4d Z.c_Hall hr zgj (pv 0) (zaa (pv 1) zab)))
   (zai (zan (zp9 G_duties hr rfl zgj (zaK (zez (hr_u hr) (zaU K (pv 0) rfl) (pv 1) (λ_ _=>rfl)) (zaO (zaU K (pv 0) rfl) zab)))))),?_⟩
 obtain⟨dx,hh⟩:=hA.ins
 obtain⟨kvs,hla,hk⟩:=hA.laid
 walk_at "q"
 nofun
 refine⟨ha,dx,_,rfl,hh,zdy (by decide +kernel) (by decide +kernel),?_⟩
 nofun
 refine⟨ha,dx,la,va,n,kvs,rfl,hh,hla,hn,λhv=>?_,λhv=>?_⟩
 ·refine q1 λz=>?_
  obtain⟨v,e,_⟩:=hk.2.2 n z
  rw[hv] at e;cases e
 have hm:n∈ks:=by
  refine Classical.byContradiction λz=>?_
  rw[hk.no z] at hv;cases hv
 obtain⟨v,hv,p,f,rfl,hC,hf⟩:=hk.2.2 n hm
 have rt:=hA.rt n hm
 nofun
 refine⟨ha,(C 7),dx,_,_,rfl,hh,Z.c_Hall,Z.n_Hall_laid,zcE _ _,?_⟩
 nofun
 refine⟨la,.ref p,rfl,by rw[<-hv];exact DGet.k (k:=.inl n) hla,?_⟩
 nofun
 refine⟨ha,(C 7),dx,_,_,rfl,hh,Z.c_Hall,Z.n_Hall_laid,zcE _ _,?_⟩
 nofun
 refine⟨p,la,(cr n).needs,(cr n).leaves,(cr n).deeds,(cr n).notes,kvs,zmw cr,rfl,hC.t rt.nine.d9,rt.good,rt.dok,hla,rt.calledMost,?_⟩
 by_cases hu:∃ m∈zaY (cr n).deeds,m∉ks
 ·obtain⟨m,mm,mk⟩:=hu
  exact .inl ⟨⟨m,mm,hk.no mk⟩,q2 hm ⟨m,mm,mk⟩⟩
 ·have hall:∀ m∈zaY (cr n).deeds,m∈ks:=λm mm=>Classical.byContradiction λz=>hu ⟨m,mm,z⟩
  refine .inr ⟨λm mm=>?_,λd hd=>?_,?_,λv H' s' n'=>q3 hm hall v H' s' ?_⟩
  ·obtain⟨v,e,_⟩:=hk.2.2 m (hall m mm)
   rw[e];rfl
  ·cases d with
   | call m g0 g1 t0 t1=>
    have mk:=hall m (znz hd)
    obtain⟨v,e,o,fo,rfl,hO,_⟩:=hk.2.2 m mk
    have g:=(hA.rt m mk).good
    exact⟨o,_,_,e,hO.at,by rw[zlm];exact g⟩
   | _=>trivial
  ·rw[<-zhr,zlm]
   have:=(rt.gs (cr:=cr) λm mm=>hA.rt m (hall m mm)).1
   unfold Cr.gs at this
   omega
  ·unfold Cr.gs
   rw[zhr]
   exact n'
inductive Q48 (K:Fg)(C:Nat->Addr)(vs:List V)(H:Hp)(Q:VK)(E:XK):Prop
 | mk (ha la va ra:Addr) (n:Int) (ks:List Int) (cr:Int->Cr) (ws:List Int) (fp:List Addr) (rs:List (Int × List Int)) (ys:List V):vs=[.ref ha,.int n,.ref ra]->HAt (C 7) (C 0) H ha la va ks cr ws fp->n.natAbs<zbv->SqL K H ra ys->Reps K H (rs.map zoZ) ys->zmJ rs->(n∉ks->E (.ref (C 3)) none H)->(n∈ks->(∃ m∈zaY (cr n).deeds,m∉ks)->∀ H',Same H H'->E (.ref (C 4)) none H')->(n∈ks->(∀ m∈zaY (cr n).deeds,m∈ks)->zkZ ((cr n).gs cr) rs=false->∀ H',Same H H'->E (.ref (C 5)) none H')->(n∈ks->(∀ m∈zaY (cr n).deeds,m∈ks)->zkZ ((cr n).gs cr) rs=true->∀ H' ws',OffA [va] H H'->HAt (C 7) (C 0) H' ha la va ks cr ws' fp->(∀ m,m∈ws'↔m∈ws\/m=n)->Q .non H')->Q48 K C vs H Q E
include B Z in
theorem zib (Q59:Fn P w K mg b8 "all_shown" ["due","rows"] 3 (Q58 K))(Q4f:Mth (CX1 P w) P w K mg b8 (C 7) "duties_at" ["self","number"] 7 (Q4e K C))(F:Fun K "vouch" "Hall.vouch" zdO f fd)(M:Meth K (C 7) "vouch" f):Mth (CX1 P w) P w K mg b8 (C 7) "vouch" ["self","number","rows"] 8 (Q48 K C):=by
 refine⟨f,fd,M,F.okx (k:=7) zhZ (λvs H Q E h=>?_) (λcdv A outer s H vs Q E hr h=>?_),F.binds λ_ _ _ _ _ _ us hl=>(by obtain⟨_,_,_,rfl⟩:=len3 hl;rfl)⟩
 ·first
  | (obtain⟨_,_,_,_,_,_,_,_,_,_,_,rfl,_⟩:=h;rfl)
 obtain⟨ha,la,va,ra,n,ks,cr,ws,fp,rs,ys,rfl,hA,hn,hra,hrp,rf,q1,q2,q3,q4⟩:=h
 refine⟨_,(zae (za2 (zdD (zbP (zak Q59 hr rfl (zay (zdF Q4f Z.c_Hall hr zgj (pv 0) (zaa (pv 1) zab)) (zaa (pv 2) zab))))) (zai (zfR Z.e_NotShown rfl Z.m_NotShown rfl zhM (za0 (zn9 (pv 1) (by decide +kernel)) zab))) zav)
   (zai (zf6 (hr_u hr) (zaU K (pv 0) rfl) (pv 1) zdr rfl))),?_⟩
 obtain⟨dx,hh⟩:=hA.ins
 walk_at "q"
 nofun
 refine⟨ha,dx,_,rfl,hh,zdy (by decide +kernel) (by decide +kernel),?_⟩
 nofun
 refine⟨ha,la,va,n,ks,cr,ws,fp,rfl,hA,hn,q1,q2,λhm hall v H1 s1 n1=>?_⟩
 have q3:=q3 hm hall
 have q4:=q4 hm hall
 obtain⟨gl,gf⟩:=(hA.rt n hm).gs (cr:=cr) λm mm=>hA.rt m (hall m mm)
 generalize (cr n).gs cr=gs at *
 obtain⟨da,xs,dfp,rfl,da0,hda,hfr,_⟩:=New.lso n1
 have rX:=zah.duties hfr
 nofun
 refine⟨da,ra,gs,xs,rs,ys,rfl,SqL.of hda,rX,s1.seq hra,Reps.same s1 _ hrp,gf,gl,rf,λH2 s2=>?_⟩
 have s02:=s1.trans s2
 cases hb:zkZ gs rs with
 | false=>
  nofun
  refine⟨hn,λz=>?_⟩
  nofun
  exact⟨(by walk_at "sm"),q3 hb _ s02⟩
 | true=>
  have hA3:=hA.same s02
  obtain⟨dx3,hh3⟩:=hA3.ins
  obtain⟨kv,hva,hkv⟩:=hA3.vou
  nofun
  refine⟨ha,(C 7),dx3,_,_,rfl,hh3,Z.c_Hall,Z.n_Hall_vouched,zeh _ _,?_⟩
  nofun
  have kl:=hkv.len
  have vl:=hA3.vfew
  refine⟨va,_,rfl,DPut.k (k:=.inl n) hva (zbl (by omega)),?_⟩
  have put:=hkv.put (m:=n) (v:=.bl true) rfl
  have wss:∀ m,m∈(if n∈ws then ws else ws++[n])↔m∈ws\/m=n:=λm=>by
   by_cases z:n∈ws
   ·rw[if_pos z]
    exact⟨.inl,λw=>by rcases w with w | w;exact w;rw[w];exact z⟩
   ·rw[if_neg z];simp
  refine q4 hb _ _ (s02.offA.trans (zdx (by simp))) (hA3.putV put λm hm'=>?_) wss
  rcases (wss m).mp hm' with w | w
  ·exact hA.sub m w
  ·rw[w];exact hm
inductive Q4a (K:Fg)(C:Nat->Addr)(vs:List V)(H:Hp)(Q:VK)(E:XK):Prop
 | mk (ha la va:Addr) (n:Int) (ks:List Int) (cr:Int->Cr) (ws:List Int) (fp:List Addr):vs=[.ref ha,.int n]->HAt (C 7) (C 0) H ha la va ks cr ws fp->n.natAbs<zbv->(n∉ks->E (.ref (C 3)) none H)->(n∈ks->(∃ m∈zaY (cr n).deeds,m∉ks)->∀ H',Same H H'->E (.ref (C 4)) none H')->(n∈ks->(∀ m∈zaY (cr n).deeds,m∈ks)->∀ v H' ws',OffA [va] H H'->HAt (C 7) (C 0) H' ha la va ks cr ws' fp->(∀ m,m∈ws'↔m∈ws\/(m=n/\zfV ((cr n).gs cr)))->New H H' (.lst (((cr n).gs cr).map λg=>rowD (zb5 g.1 g.2))) v->Q v H')->Q4a K C vs H Q E
include B Z in
theorem zi5 (G_sought:Fn P w K mg b8 "sought" ["duty"] 3 (Q3d K))(Q4f:Mth (CX1 P w) P w K mg b8 (C 7) "duties_at" ["self","number"] 7 (Q4e K C))(F:Fun K "seek" "Hall.seek" zct f fd)(M:Meth K (C 7) "seek" f):Mth (CX1 P w) P w K mg b8 (C 7) "seek" ["self","number"] 8 (Q4a K C):=by
 refine⟨f,fd,M,F.okx (k:=7) zfD (λvs H Q E h=>?_) (λcdv A outer s H vs Q E hr h=>?_),F.binds λ_ _ _ _ _ _ us hl=>(by obtain⟨_,_,rfl⟩:=len2 hl;rfl)⟩
 ·first
  | (obtain⟨_,_,_,_,_,_,_,_,rfl,_⟩:=h;rfl)
 obtain⟨ha,la,va,n,ks,cr,ws,fp,rfl,hA,hn,q1,q2,q3⟩:=h
 refine⟨_,(zae (zc8 (i:=2) zfD.nd rfl rfl rfl (COk.m (sc0:=zaf zct) (N:=["self","number","rows"]) (N':=["self","number","rows","duty"]) (ms:=[false,false,false,true])) (zaT K (zdF Q4f Z.c_Hall hr zgj (pv 0) (zaa (pv 1) zab))) (λ_ _ _ _ _=>(zas (i:=3) (ndS (N:=["self","number","rows","duty"])) rfl (Or.inl rfl))) (λ_ _ _ _ _=>zaD) (λ_ _ _ _ _=>(zak G_sought hr rfl (zaa (pv 3) zab))))
   (zae (za2 (zbP (zar (ziA K rfl) rfl B.all L2.zcP (zcy (zaX rfl (COk.m (sc0:=zaf zct) (N:=["self","number","rows"]) (N':=["self","number","rows","row"]) (ms:=[false,false,false,true])) (zaT K (pv 2)) (λ_ _ _ _ _=>(zas (i:=3) (ndS (N:=["self","number","rows","row"])) rfl (Or.inl rfl))) (λ_ _ _ _ _=>zaD) (λ_ _ _ _ _=>(zbg zjg (pv 3) zfx (zaw _)))) zab))) (zai (zf6 (hr_u hr) (zaU K (pv 0) rfl) (pv 1) zdr rfl)) zav)
   (zai (zan (pv 2))))),?_⟩
 obtain⟨dx,hh⟩:=hA.ins
 walk_at "q"
 nofun
 refine⟨ha,dx,_,rfl,hh,zdy (by decide +kernel) (by decide +kernel),?_⟩
 nofun
 refine⟨ha,la,va,n,ks,cr,ws,fp,rfl,hA,hn,q1,q2,λhm hall v H1 s1 n1=>?_⟩
 have rt:=hA.rt n hm
 obtain⟨gl,gf⟩:=rt.gs (cr:=cr) λm mm=>hA.rt m (hall m mm)
 have q3:=q3 hm hall
 generalize (cr n).gs cr=gs at *
 obtain⟨da,xs,dfp,rfl,da0,hda,hfr,_⟩:=New.lso n1
 have rX:=zah.duties hfr
 have lx:=rX.1
 refine⟨da,rfl,⟨_,SqL.of hda⟩,?_⟩
 refine zaI (zaS (SqL.of hda)) (gs.map λg=>rowD (zb5 g.1 g.2)) (by rw[zlm];exact lx) (zal (by omega)) (λj x d H2 R hj hd s2 hx hR=>?_) (λv H2 s2 n2=>?_)
 ·rw[zgm] at hd
  obtain⟨g,hg,rfl⟩:=zme.mp hd
  obtain⟨T,ga,na,rfl,hT,hga,hL⟩:=(rX.2 j g x hg hx).same s2
  obtain⟨k9,k4,k99⟩:=gf g (zmg hg)
  obtain⟨ys,hna,lys,rys⟩:=hL.out (K:=K)
  nofun
  exact⟨T,ga,na,g.1,g.2,ys,rfl,SqT.of hT,hga,hna,rys,k9,k99,by omega,λv H3 s3 n3=>hR v H3 s3 n3⟩
 have s02:=s1.trans s2
 have n02:=n2.back s1
 obtain⟨ra,rvs,rfp,rfl,ra0,hra,hrr,_⟩:=New.lso n02
 have lr:=hrr.length
 rw[zlm] at lr
 nofun
 have hnon:∀ (j:Nat) g x,gs[j]?=some g->rvs[j]?=some x->decide (x=V.non)=!(zb5 g.1 g.2).isSome:=λj g x e1 e2=>by
  obtain⟨f,hf⟩:=zah.item hrr j (rowD (zb5 g.1 g.2)) x (by rw[zgm,e1];rfl) e2
  cases hs:zb5 g.1 g.2 with
  | none=>rw[hs] at hf;unfold rowD RepF at hf;rw[hf.1];rfl
  | some r=>
   obtain⟨w,r⟩:=r
   rw[hs] at hf
   unfold rowD RepF at hf
   obtain⟨a,_,e,_⟩:=hf
   rw[e,zl1];rfl
 -- are all of them found
 with_reducible refine zem (λσ H'=>σ=[some (.ref ha),some (.int n),some (.ref ra)]/\∃ ws',OffA [va] H2 H'/\HAt (C 7) (C 0) H' ha la va ks cr ws' fp/\(∀ m,m∈ws'↔m∈ws\/(m=n/\zfV gs))/\New H H' (.lst (gs.map λg=>rowD (zb5 g.1 g.2))) (.ref ra)) (λNX tail=>?_) ?_
 ·nofun
  refine⟨ra,rfl,⟨_,SqL.of hra⟩,?_⟩
  refine zaI (zaS (SqL.of hra)) ((gs.map λg=>(zb5 g.1 g.2).isSome).map D.bl) (by simp[lr]) (zal (by omega)) (λj x d H3 R hj hd s3 hx hR=>?_) (λv H3 s3 n3=>?_)
  ·rw[zgm,zgm] at hd
   obtain⟨b,hb,rfl⟩:=zme.mp hd
   obtain⟨g,hg,rfl⟩:=zme.mp hb
   nofun
   refine⟨rfl,?_⟩
   rw[hnon j g x hg hx,Bool.not_not]
   exact hR _ _ (Same.refl _) New.bl
  obtain⟨ba,rfl,ba0,hba⟩:=New.bls n3
  nofun
  refine ziz (SqL.of hba) ?_
  have s03:=s02.trans s3
  cases hb:(gs.map λg=>(zb5 g.1 g.2).isSome).all id with
  | true=>
   have af:zfV gs:=λg hg=>by
    rw[List.all_map,List.all_eq_true] at hb
    exact hb g hg
   have hA3:=hA.same s03
   obtain⟨dx3,hh3⟩:=hA3.ins
   obtain⟨kv,hva,hkv⟩:=hA3.vou
   nofun
   refine⟨ha,(C 7),dx3,_,_,rfl,hh3,Z.c_Hall,Z.n_Hall_vouched,zeh _ _,?_⟩
   nofun
   have kl:=hkv.len
   have vl:=hA3.vfew
   refine⟨va,_,rfl,DPut.k (k:=.inl n) hva (zbl (by omega)),?_⟩
   have put:=hkv.put (m:=n) (v:=.bl true) rfl
   have wss:∀ m,m∈(if n∈ws then ws else ws++[n])↔m∈ws\/m=n:=λm=>by
    by_cases z:n∈ws
    ·rw[if_pos z]
     exact⟨.inl,λw=>by rcases w with w | w;exact w;rw[w];exact z⟩
    ·rw[if_neg z];simp
   refine tail _ _ ⟨rfl,_,s3.offA.trans (zdx (by simp)),hA3.putV put λm hm'=>?_,λm=>?_,(n02.same s3).sq (zdw hva).sq⟩
   ·rcases (wss m).mp hm' with w | w
    ·exact hA.sub m w
    ·rw[w];exact hm
   ·rw[wss]
    exact⟨λz=>by rcases z with z | z;exact .inl z;exact .inr ⟨z,af⟩,λz=>by rcases z with z | z;exact .inl z;exact .inr z.1⟩
  | false=>
   have af:¬ zfV gs:=λz=>by
    have:(gs.map λg=>(zb5 g.1 g.2).isSome).all id=true:=by
     rw[List.all_map,List.all_eq_true];exact z
    rw[this] at hb;cases hb
   nofun
   exact tail _ _ ⟨rfl,ws,s3.offA,hA.same s03,λm=>⟨.inl,λz=>by rcases z with z | z;exact z;exact absurd z.2 af⟩,n02.same s3⟩
 rintro σ H3 ⟨rfl,ws3,o3,hA3,hm3,n3⟩
 nofun
 exact q3 _ _ ws3 (s02.offA.trans o3) hA3 hm3 n3
inductive Q5a (K:Fg)(vs:List V)(H:Hp)(Q:VK)(E:XK):Prop
 | mk (a:Addr) (k:Int) (ns:List Int):vs=[.ref a,.int k]->SqL K H a (ns.map V.int)->0<=k->Q (.int (cell ns k)) H->Q5a K vs H Q E
theorem zfG {H:Hp}{Q:VK}{E:XK}{a:Addr}{k:Int}{ns:List Int}(h:SqL K H a (ns.map V.int))(hk:0<=k)(q:Q (.int (cell ns k)) H):Q5a K [.ref a,.int k] H Q E:=⟨a,k,ns,rfl,h,hk,q⟩
include B Z in
theorem zi6 (F:Fun K "_law_cell_at" "_law_cell_at" zet f fd)(m:mg "_law_cell_at"=some (.ref f)):Fn P w K mg b8 "_law_cell_at" ["script","k"] 1 (Q5a K):=by
 refine Fn.of (k:=0) F ziY m (λ_ _ _ _ _ _ us hl=>(by obtain⟨_,_,rfl⟩:=len2 hl;rfl)) (λvs H Q E h=>?_) (λcdv A outer s H vs Q E hr h=>?_)
 ·first
  | (obtain⟨_,_,_,rfl,_⟩:=h;rfl)
 obtain⟨a,k,ns,rfl,hS,hk,q⟩:=h
 refine⟨_,(zae (za2 (zaz zlh (pv 1) (zar (zdV K) rfl B.len L2.boot_len (zaa (pv 0) zab)) (zaw _)) (zai (zan (zaH (k_ix K) (pv 0) (pv 1) (λ_ _=>rfl)))) zav)
   (zai (zan zac))),?_⟩
 ac_rfl
 refine zeA (.inl hS) ?_
 ac_rfl
 rw[zlm]
 unfold cell at q
 refine ite2 (λe=>?_) (λe=>?_)
 ·have e':k<(ns.length:Int):=of_decide_eq_true e
  ac_rfl
  have hl:k.toNat<ns.length:=by omega
  refine zbE hS (v:=.int (ns.getD k.toNat 0)) ?_ q
  have z:atI (ns.map V.int) ((k.toNat:Nat):Int)=some (.int (ns.getD k.toNat 0)):=zaA (by simp[hl])
  rwa [show ((k.toNat:Nat):Int)=k by omega] at z
 ·have e':¬ k<(ns.length:Int):=of_decide_eq_false (Bool.eq_false_iff.mpr e)
  ac_rfl
  have hl:ns.getD k.toNat 0=0:=by simp[List.getD,List.getElem?_eq_none (show ns.length<=k.toNat by omega)]
  rw[hl] at q
  exact q
inductive Q5c (K:Fg)(vs:List V)(H:Hp)(Q:VK)(E:XK):Prop
 | mk (c k m:Int):vs=[.int c,.int k,.int m]->0<m->Q (.int (mix c k m)) H->Q5c K vs H Q E
theorem zeI {H:Hp}{Q:VK}{E:XK}{c k m:Int}(h:0<m)(q:Q (.int (mix c k m)) H):Q5c K [.int c,.int k,.int m] H Q E:=⟨c,k,m,rfl,h,q⟩
include B Z in
theorem znK (F:Fun K "_law_mix" "_law_mix" zjb f fd)(m:mg "_law_mix"=some (.ref f)):Fn P w K mg b8 "_law_mix" ["cell","k","many"] 1 (Q5c K):=by
 refine Fn.of (k:=0) F znC m (λ_ _ _ _ _ _ us hl=>(by obtain⟨_,_,_,rfl⟩:=len3 hl;rfl)) (λvs H Q E h=>?_) (λcdv A outer s H vs Q E hr h=>?_)
 ·first
  | (obtain⟨_,_,_,rfl,_⟩:=h;rfl)
 obtain⟨c,k,m,rfl,hm,q⟩:=h
 refine⟨_,(zai (zan (zat zcK (zat zcZ (zat zcK (zat zaV (zat (zaF K) (zat zcK (pv 0) zac) zac) (zat (zaF K) zac (zat zaV zac (pv 1)))) zac) zac) (pv 2)))),?_⟩
 have h1:=Int.emod_nonneg c (show (2147483647:Int)≠0 by decide)
 have h2:=Int.emod_lt_of_pos c (show (0:Int)<2147483647 by decide)
 ac_rfl
 exact q
inductive Q5e (K:Fg)(vs:List V)(H:Hp)(Q:VK)(E:XK):Prop
 | mk (c k:Int):vs=[.int c,.int k]->(∀ H',Same H H'->Q (.int (number c k)) H')->Q5e K vs H Q E
theorem zic {H:Hp}{Q:VK}{E:XK}{c k:Int}(q:∀ H',Same H H'->Q (.int (number c k)) H'):Q5e K [.int c,.int k] H Q E:=⟨c,k,rfl,q⟩
include B Z in
theorem zjR (Q5d:Fn P w K mg b8 "_law_mix" ["cell","k","many"] 1 (Q5c K))(F:Fun K "_law_number" "_law_number" zfb f fd)(m:mg "_law_number"=some (.ref f)):Fn P w K mg b8 "_law_number" ["cell","k"] 2 (Q5e K):=by
 refine Fn.of (k:=1) F zgF m (λ_ _ _ _ _ _ us hl=>(by obtain⟨_,_,rfl⟩:=len2 hl;rfl)) (λvs H Q E h=>?_) (λcdv A outer s H vs Q E hr h=>?_)
 ·first
  | (obtain⟨_,_,rfl,_⟩:=h;rfl)
 obtain⟨c,k,rfl,q⟩:=h
 refine⟨_,(zae (zau (i:=2) zgF.nd rfl (Or.inl rfl) (zak Q5d hr rfl (zaa (pv 0) (zaa (pv 1) (zaj zac zab)))))
   (zae (za2 (zaz (k_eq K hr) (pv 2) zac (zaw _)) (zai (zan (zat zih (zat zcK (pv 0) (zat (zaF K) (zat zaV zac (zat zii zac zac)) zac)) (zat zii zac zac)))) zav)
   (zae (za2 (zaz (k_eq K hr) (pv 2) zac (zaw _)) (zai (zan (zaH (k_ix K) (zaE (zaP (zat zii zac zac) (zhO (zeL zcL (zat zii zac zac)) (zaj zac (zhO (zeL zcL zac) zab))))) (zak Q5d hr rfl (zaa (pv 0) (zaP (zat (zaF K) (pv 1) zac) (zaj zac zab)))) (λ_ _=>rfl)))) zav)
   (zai (zan (zat zih (zak Q5d hr rfl (zaa (pv 0) (zaP (zat (zaF K) (pv 1) zac) (zaj zac zab)))) zac)))))),?_⟩
 have n1:=zba (c:=c) (k:=k+1) (m:=4) (by decide)
 have n2:=zda (c:=c) (k:=k+1) (m:=4) (by decide)
 ac_rfl
 refine zeI (by decide) ?_
 ac_rfl
 refine ite2 (λe=>?_) (λe=>?_)
 ·have e':mix c k 9=0:=of_decide_eq_true e
  ac_rfl
  have q':=q H (Same.refl H)
  unfold number at q'
  rw[if_pos e'] at q'
  exact q'
 ·have e':¬ mix c k 9=0:=of_decide_eq_false (Bool.eq_false_iff.mpr e)
  ac_rfl
  refine ite2 (λe2=>?_) (λe2=>?_)
  ·have e2':mix c k 9=1:=of_decide_eq_true e2
   ac_rfl
   refine⟨by decide,λp hp=>?_⟩
   ac_rfl
   refine zeI (by decide) ?_
   have q':=q (upd H p (.lst [.int 1000000000,.int (-1000000000),.int 999999999,.int (-999999999)])) (zag hp _)
   unfold number at q'
   rw[if_neg e',if_pos e2'] at q'
   refine zbE (SqL.of zad) ?_ q'
   have c4:mix c (k+1) 4=0\/mix c (k+1) 4=1\/mix c (k+1) 4=2\/mix c (k+1) 4=3:=by omega
   rcases c4 with z | z | z | z <;> rw[z] <;> rfl
  ·have e2':¬ mix c k 9=1:=of_decide_eq_false (Bool.eq_false_iff.mpr e2)
   ac_rfl
   refine zeI (by decide) ?_
   ac_rfl
   have q':=q H (Same.refl H)
   unfold number at q'
   rw[if_neg e',if_neg e2'] at q'
   exact q'
inductive Q60 (K:Fg)(vs:List V)(H:Hp)(Q:VK)(E:XK):Prop
 | mk (c:Int) (za:Addr) (zs:List Int):vs=[.int c,.ref za]->SqL K H za (zs.map V.int)->(∀ v H',Same H H'->New H H' (nums (zbS c zs)) v->Q v H')->Q60 K vs H Q E
theorem zmK (zs:List Int):(zs.map V.int).all zdR=true:=by rw[List.all_map,List.all_eq_true];intro x _;rfl
include B Z in
theorem zi7 (Q5f:Fn P w K mg b8 "_law_number" ["cell","k"] 2 (Q5e K))(Q5d:Fn P w K mg b8 "_law_mix" ["cell","k","many"] 1 (Q5c K))(F:Fun K "_law_line_by" "_law_line_by" zdq f fd)(m:mg "_law_line_by"=some (.ref f)):Fn P w K mg b8 "_law_line_by" ["cell","zero"] 3 (Q60 K):=by
 refine Fn.of (k:=2) F zd8 m (λ_ _ _ _ _ _ us hl=>(by obtain⟨_,_,rfl⟩:=len2 hl;rfl)) (λvs H Q E h=>?_) (λcdv A outer s H vs Q E hr h=>?_)
 ·first
  | (obtain⟨_,_,_,rfl,_⟩:=h;rfl)
 obtain⟨c,za,zs,rfl,hZ,q⟩:=h
 refine⟨_,(zae (zc8 (i:=2) zd8.nd rfl rfl rfl (COk.m (sc0:=zaf zdq) (N:=["cell","zero","line","k"]) (N':=["cell","zero","line","k"]) (ms:=[false,false,false,true])) (zbs rfl B.range (zaj zac zab)) (λ_ _ _ _ _=>(zas (i:=3) (ndS (N:=["cell","zero","line","k"])) rfl (Or.inl rfl))) (λ_ _ _ _ _=>zaD) (λ_ _ _ _ _=>(zak Q5f hr rfl (zaa (pv 0) (zaP (zat zaV zac (pv 3)) zab)))))
   (zae (zci PassesOwn.never rfl (zbs rfl B.range (zaj zac zab)) (zas (i:=3) zd8.nd rfl (Or.inl rfl)) (zai (za2 (PW.pt (zhA (zaz (k_in K) (pv 3) (pv 1) rfl) (zfY (zaz (k_eq K hr) (zak Q5d hr rfl (zaa (pv 0) (zaP (zat (zaF K) zac (pv 3)) (zaj zac zab)))) zac (zaw _))))) (zai (zla zac (zk9 (pv 2) (zat (zaF K) (pv 3) zac) zhD))) zav)))
   (zai (zan (pv 2))))),?_⟩
 ac_rfl
 refine zch (by decide) (by decide) ?_
 refine zaI (n:=9) zbL (((List.range 9).map λ(j:Nat)=>number c (5 * (0+(j:Int)))).map D.int) (by simp) (by decide) (λi x d H1 R hi hd s1 hx hR=>?_) (λv H1 s1 n1=>?_)
 ·subst hx
  rw[List.map_map] at hd
  have hd':=zdW hd
  subst hd'
  ac_rfl
  refine zic λH2 s2=>?_
  exact hR _ _ s2 New.int
 obtain⟨la,rfl,la0,la1⟩:=New.iif.mp n1
 rw[<-zkN c zs] at la1
 ac_rfl
 refine zch (by decide) (by decide) ?_
 refine zhL (λi σ H2=>∃ x,i<=8/\σ=[some (.int c),some (.ref za),some (.ref la),x]/\Same H H2/\H2 la=some (.lst ((zd0 c zs i).map V.int)))
  ⟨none,by decide,rfl,s1,la1⟩ ?_ ?_
 ·rintro i σ H2 hi ⟨x,_,rfl,s2,e2⟩
  have i8:i<8:=hi
  have step:∀ b:Bool,zeU c zs i=b->(b=true->(ixN ((zd0 c zs i).map V.int).length (0+(i:Int)+1)=some (i+1))):=λb hb _=>by
   rw[zlm,ziK]
   unfold ixN
   rw[if_pos (by omega),if_pos (by omega)]
   congr 1
   omega
  have yes:zeU c zs i=true->∃ x,i+1<=8/\[some (V.int c),some (.ref za),some (.ref la),some (.int (0+(i:Int)))]=[some (.int c),some (.ref za),some (.ref la),x]/\Same H (upd H2 la (.lst (((zd0 c zs i).map V.int).set (i+1) (.int 0))))/\(upd H2 la (.lst (((zd0 c zs i).map V.int).set (i+1) (.int 0)))) la=some (.lst ((zd0 c zs (i+1)).map V.int)):=λhb=>by
   refine⟨_,by omega,rfl,λd o e=>?_,?_⟩
   ·rw[zam (zax e la0)];exact s2 _ _ e
   ·rw[zad,<-zmb i8 hb,List.map_set]
  ac_rfl
  refine i_in (neg:=false) (.inl (s2.seq hZ)) rfl (zmK zs) ?_
  cases hb1:inV (.int (0+(i:Int))) (zs.map V.int) with
  | true=>
   have hb:zeU c zs i=true:=by unfold zeU;rw[hb1];rfl
   show ∃ k,V.bl true=.bl k/\_
   ac_rfl
   refine zj6 e2 (step true hb rfl) ?_
   exact yes hb
  | false=>
   show ∃ k,V.bl false=.bl k/\_
   ac_rfl
   refine zeI (by decide) ?_
   ac_rfl
   cases hb2:decide (mix c (60+(0+(i:Int))) 3=0) with
   | true=>
    have hb:zeU c zs i=true:=by unfold zeU;rw[hb1,hb2];rfl
    ac_rfl
    refine zj6 e2 (step true hb rfl) ?_
    exact yes hb
   | false=>
    have hb:zeU c zs i=false:=by unfold zeU;rw[hb1,hb2];rfl
    ac_rfl
    exact⟨_,by omega,rfl,s2,by rw[<-zkM hb];exact e2⟩
 ·rintro σ H2 ⟨x,_,rfl,s2,e2⟩
  ac_rfl
  refine q _ _ s2 (New.iif.mpr ⟨la,rfl,la0,?_⟩)
  rw[<-zmd]
  exact e2
inductive Q64 (K:Fg)(vs:List V)(H:Hp)(Q:VK)(E:XK):Prop
 | mk (c:Int) (za:Addr) (zs:List Int):vs=[.int c,.ref za]->SqL K H za (zs.map V.int)->(∀ v H',Same H H'->New H H' (zaq (zcd c zs)) v->Q v H')->Q64 K vs H Q E
include B Z in
theorem zid (Q61:Fn P w K mg b8 "_law_line_by" ["cell","zero"] 3 (Q60 K))(Q5d:Fn P w K mg b8 "_law_mix" ["cell","k","many"] 1 (Q5c K))(F:Fun K "_law_lines_by" "_law_lines_by" zcJ f fd)(m:mg "_law_lines_by"=some (.ref f)):Fn P w K mg b8 "_law_lines_by" ["cell","zero"] 4 (Q64 K):=by
 refine Fn.of (k:=3) F zh0 m (λ_ _ _ _ _ _ us hl=>(by obtain⟨_,_,rfl⟩:=len2 hl;rfl)) (λvs H Q E h=>?_) (λcdv A outer s H vs Q E hr h=>?_)
 ·first
  | (obtain⟨_,_,_,rfl,_⟩:=h;rfl)
 obtain⟨c,za,zs,rfl,hZ,q⟩:=h
 refine⟨_,(zai (zan (zaX rfl (COk.m (sc0:=zaf zcJ) (N:=["cell","zero"]) (N':=["cell","zero","k"]) (ms:=[false,false,true])) (zbs rfl B.range (zay (zak Q5d hr rfl (zaa (pv 0) (zaj zac (zaj zac zab)))) zab)) (λ_ _ _ _ _=>(zas (i:=2) (ndS (N:=["cell","zero","k"])) rfl (Or.inl rfl))) (λ_ _ _ _ _=>zaD) (λ_ _ _ _ _=>(zak Q61 hr rfl (zaP (zat (zaF K) (pv 0) (zat zaV zac (pv 2))) (zaa (pv 1) zab))))))),?_⟩
 have h1:=zba (c:=c) (k:=20) (m:=3) (by decide)
 have h2:=zda (c:=c) (k:=20) (m:=3) (by decide)
 ac_rfl
 refine zeI (by decide) ?_
 ac_rfl
 refine zch (by omega) (by omega) ?_
 refine zaI zbL ((zcd c zs).map nums) (by simp[zcd]) (zal (by omega)) (λi x d H1 R hi hd s1 hx hR=>?_) (λv H1 s1 n1=>?_)
 ·subst hx
  unfold zcd at hd
  rw[List.map_map] at hd
  have hd':=zdW hd
  subst hd'
  ac_rfl
  refine⟨_,za,zs,rfl,s1.seq hZ,λv H2 s2 n2=>?_⟩
  exact hR _ _ s2 n2
 exact q _ _ s1 n1
inductive Q62 (K:Fg)(vs:List V)(H:Hp)(Q:VK)(E:XK):Prop
 | mk (c count:Int):vs=[.int c,.int count]->0<=count->(∀ v H',Same H H'->New H H' (zmi c count) v->Q v H')->Q62 K vs H Q E
include B Z in
theorem zi8 (Q61:Fn P w K mg b8 "_law_line_by" ["cell","zero"] 3 (Q60 K))(Q5d:Fn P w K mg b8 "_law_mix" ["cell","k","many"] 1 (Q5c K))(Q5f:Fn P w K mg b8 "_law_number" ["cell","k"] 2 (Q5e K))(F:Fun K "_law_deed_by" "_law_deed_by" zeu f fd)(m:mg "_law_deed_by"=some (.ref f)):Fn P w K mg b8 "_law_deed_by" ["cell","count"] 4 (Q62 K):=by
 refine Fn.of (k:=3) F zbN m (λ_ _ _ _ _ _ us hl=>(by obtain⟨_,_,rfl⟩:=len2 hl;rfl)) (λvs H Q E h=>?_) (λcdv A outer s H vs Q E hr h=>?_)
 ·first
  | (obtain⟨_,_,rfl,_⟩:=h;rfl)
 obtain⟨c,count,rfl,hc,q⟩:=h
 refine⟨_,(zae (zau (i:=2) zbN.nd rfl (Or.inl rfl) (zak Q61 hr rfl (zaP (zat zcZ (pv 0) zac) (zbR (zaE (zaj zac (zaj zac zab))) zab))))
   (zae (zau (i:=3) zbN.nd rfl (Or.inl rfl) (zak Q5d hr rfl (zaa (pv 0) (zaj zac (zaj zac zab)))))
   (zae (zau (i:=4) zbN.nd rfl (Or.inl rfl) (zak Q5d hr rfl (zaa (pv 0) (zaj zac (zaj zac zab)))))
   (zae (za2 (zaz (k_eq K hr) (pv 4) zac (zaw _)) (zai (zan (zdP (zaj zca (zaa (pv 3) (zaa (pv 2) zab)))))) zav)
   (zae (za2 (zaz (k_eq K hr) (pv 4) zac (zaw _)) (zai (zan (zdP (zaj zca (zaa (pv 3) (zaa (pv 2) (zaK (zaH (k_ix K) (zaE (zaj zac (zaj zac (zaP (zat (zaF K) zac (zak Q5d hr rfl (zaa (pv 0) (zaj zac (zaj zac zab))))) (zaj zac zab))))) (zak Q5d hr rfl (zaa (pv 0) (zaj zac (zaj zac zab)))) (λ_ _=>rfl)) zab))))))) zav)
   (zae (za2 (zaz (k_eq K hr) (pv 4) zac (zaw _)) (zae (zau (i:=5) zbN.nd rfl (Or.inl rfl) (zak Q5f hr rfl (zaP (zat zcZ (pv 0) zac) (zaj zac zab))))
   (zai (zan (zdP (zaj zca (zaa (pv 3) (zaa (pv 5) (zay (zar (c_max rfl) rfl B.max L2.zng (zaa (pv 5) (zay (zak Q5f hr rfl (zaP (zat zcZ (pv 0) zac) (zaj zac zab))) zab))) zab)))))))) zav)
   (zae (za2 (zaz (k_eq K hr) (pv 4) zac (zaw _)) (zai (zan (zdP (zaj zca (zaa (pv 2) (zay (zak Q5d hr rfl (zaa (pv 0) (zaj zac (zaP (zat (zaF K) (pv 1) zac) zab)))) zab)))))) zav)
   (zae (za2 (zaz (k_eq K hr) (pv 4) zac (zaw _)) (zai (zan (zdP (zaj zca (zaa (pv 2) zab))))) zav)
   (zae (zau (i:=6) zbN.nd rfl (Or.inl rfl) (zdP (zay (zak Q5d hr rfl (zaa (pv 0) (zaj zac (zaj zac zab)))) (zay (zak Q5d hr rfl (zaa (pv 0) (zaj zac (zaj zac zab)))) zab))))
   (zai (zan (zdP (zaj zca (zay (zak Q5d hr rfl (zaa (pv 0) (zaj zac (zaj zac zab)))) (zaa (pv 6) (zn3 (zdP (zaa (pv 3) (zaP (zat zcK (zat (zaF K) (zat (zaF K) (pv 3) zac) (zak Q5d hr rfl (zaa (pv 0) (zaj zac (zaj zac zab))))) zac) zab))) zab)))))))))))))))),?_⟩
 have k0:=zba (c:=c) (k:=6) (m:=4) (by decide)
 have k1:=zda (c:=c) (k:=6) (m:=4) (by decide)
 unfold zmi at q
 ac_rfl
 refine⟨by decide,λp hp=>?_⟩
 ac_rfl
 refine⟨_,p,[6,7],rfl,SqL.of zad,λv H1 s1 n1=>?_⟩
 obtain⟨la,rfl,la0,la1⟩:=New.iif.mp n1
 have s0:=(zag hp (.lst [.int 6,.int 7])).trans s1
 have la2:H la=none:=(zag hp _).free la0
 ac_rfl
 refine zeI (by decide) ?_
 ac_rfl
 refine zeI (by decide) ?_
 ac_rfl
 refine ite2 (λe=>?_) (λe=>?_)
 ·have e':mix c 4 6=0:=of_decide_eq_true e
  rw[if_pos e'] at q
  ac_rfl
  refine⟨by show 3<=sizeLine;decide,λt ht=>?_⟩
  refine q _ _ (s0.trans (zag ht _)) (New.tup (fp:=[la]) (zah.cstr (zah.cint (zah.cany (f:=[la]) (RepF.line (zag ht _ _ _ la1)) zah.nil))) (by simp) (λb m=>by rw[zms.mp m];exact la2) zad)
 have e0:¬ mix c 4 6=0:=of_decide_eq_false (Bool.eq_false_iff.mpr e)
 rw[if_neg e0] at q
 ac_rfl
 refine ite2 (λe=>?_) (λe=>?_)
 ·have e':mix c 4 6=1:=of_decide_eq_true e
  rw[if_pos e'] at q
  ac_rfl
  refine zeI (by decide) ?_
  ac_rfl
  refine⟨by show 4<=sizeLine;decide,λm hm=>?_⟩
  have s2:=zag hm (.lst [.int 1,.int 1000,.int (1+mix c 5 1000),.int 2])
  ac_rfl
  refine zeI (by decide) ?_
  refine zbE (SqL.of zad) (v:=.int (byOf c)) ?_ ?_
  ·unfold byOf
   have c4:mix c 6 4=0\/mix c 6 4=1\/mix c 6 4=2\/mix c 6 4=3:=by omega
   rcases c4 with z | z | z | z <;> rw[z] <;> rfl
  ac_rfl
  refine⟨by show 4<=sizeLine;decide,λt ht=>?_⟩
  refine q _ _ (s0.trans (s2.trans (zag ht _))) (New.tup (fp:=[la]) (zah.cstr (zah.cint (zah.cany (f:=[la]) (RepF.line (zag ht _ _ _ (s2 _ _ la1))) (zah.cint zah.nil)))) (by simp) (λb m=>by rw[zms.mp m];exact la2) zad)
 have e1:¬ mix c 4 6=1:=of_decide_eq_false (Bool.eq_false_iff.mpr e)
 rw[if_neg e1] at q
 ac_rfl
 refine ite2 (λe=>?_) (λe=>?_)
 ·have e':mix c 4 6=2:=of_decide_eq_true e
  rw[if_pos e'] at q
  ac_rfl
  refine zic λH2 s2=>?_
  ac_rfl
  refine zic λH3 s3=>?_
  ac_rfl
  refine i_max ?_
  ac_rfl
  refine⟨by show 4<=sizeLine;decide,λt ht=>?_⟩
  refine q _ _ (s0.trans (s2.trans (s3.trans (zag ht _)))) (New.tup (fp:=[]) (zah.cstr (zah.cint (zah.cint (zah.cint zah.nil)))) (by simp) (λb m=>by cases m) zad)
 have e2:¬ mix c 4 6=2:=of_decide_eq_false (Bool.eq_false_iff.mpr e)
 rw[if_neg e2] at q
 ac_rfl
 refine ite2 (λe=>?_) (λe=>?_)
 ·have e':mix c 4 6=3:=of_decide_eq_true e
  rw[if_pos e'] at q
  ac_rfl
  refine zeI (by omega) ?_
  ac_rfl
  refine⟨by show 3<=sizeLine;decide,λt ht=>?_⟩
  refine q _ _ (s0.trans (zag ht _)) (New.tup (fp:=[la]) (zah.cstr (zah.cany (f:=[la]) (RepF.line (zag ht _ _ _ la1)) (zah.cint zah.nil))) (by simp) (λb m=>by rw[zms.mp m];exact la2) zad)
 have e3:¬ mix c 4 6=3:=of_decide_eq_false (Bool.eq_false_iff.mpr e)
 rw[if_neg e3] at q
 ac_rfl
 refine ite2 (λe=>?_) (λe=>?_)
 ·have e':mix c 4 6=4:=of_decide_eq_true e
  rw[if_pos e'] at q
  ac_rfl
  refine⟨by show 2<=sizeLine;decide,λt ht=>?_⟩
  refine q _ _ (s0.trans (zag ht _)) (New.tup (fp:=[la]) (zah.cstr (zah.cany (f:=[la]) (RepF.line (zag ht _ _ _ la1)) zah.nil)) (by simp) (λb m=>by rw[zms.mp m];exact la2) zad)
 have e4:¬ mix c 4 6=4:=of_decide_eq_false (Bool.eq_false_iff.mpr e)
 rw[if_neg e4] at q
 ac_rfl
 refine zeI (by decide) ?_
 ac_rfl
 refine zeI (by decide) ?_
 ac_rfl
 refine⟨by show 2<=sizeLine;decide,λg hg=>?_⟩
 have s2:=zag hg (.tup [.int (mix c 10 4),.int (mix c 11 4)])
 ac_rfl
 refine zeI (by decide) ?_
 ac_rfl
 refine zeI (by decide) ?_
 ac_rfl
 refine⟨by show 2<=sizeLine;decide,λu hu'=>?_⟩
 have s3:=zag hu' (.tup [.int (mix c 3 4),.int ((mix c 3 4+1+mix c 13 3) % 4)])
 refine⟨by show 4<=sizeLine;decide,λt ht=>?_⟩
 have s4:=zag ht (.tup [.str "call",.int (mix c 12 100),.ref g,.ref u])
 refine q _ _ (s0.trans (s2.trans (s3.trans s4))) (New.tup (fp:=[]) (zah.cstr (zah.cint (zah.cany (f:=[]) (RepF.pair (s4 _ _ (s3 _ _ zad))) (zah.cany (f:=[]) (RepF.pair (s4 _ _ zad)) zah.nil)))) (by simp) (λb m=>by cases m) zad)
inductive Q66 (K:Fg)(vs:List V)(H:Hp)(Q:VK)(E:XK):Prop
 | mk (a:Addr) (start count:Int) (ns:List Int):vs=[.ref a,.int start,.int count]->SqL K H a (ns.map V.int)->0<=start->0<=count->count<=8->(∀ v H',Same H H'->New H H' (zmj ns start count) v->Q v H')->Q66 K vs H Q E
include B Z in
theorem zie (Q65:Fn P w K mg b8 "_law_lines_by" ["cell","zero"] 4 (Q64 K))(Q5b:Fn P w K mg b8 "_law_cell_at" ["script","k"] 1 (Q5a K))(Q63:Fn P w K mg b8 "_law_deed_by" ["cell","count"] 4 (Q62 K))(F:Fun K "_law_parts_by" "_law_parts_by" zb9 f fd)(m:mg "_law_parts_by"=some (.ref f)):Fn P w K mg b8 "_law_parts_by" ["script","start","count"] 5 (Q66 K):=by
 refine Fn.of (k:=4) F zbW m (λ_ _ _ _ _ _ us hl=>(by obtain⟨_,_,_,rfl⟩:=len3 hl;rfl)) (λvs H Q E h=>?_) (λcdv A outer s H vs Q E hr h=>?_)
 ·first
  | (obtain⟨_,_,_,_,rfl,_⟩:=h;rfl)
 obtain⟨a,start,count,ns,rfl,hS,hst,hc0,hc8,q⟩:=h
 refine⟨_,(zae (zau (i:=3) zbW.nd rfl (Or.inl rfl) (zak Q65 hr rfl (zay (zak Q5b hr rfl (zaa (pv 0) (zaa (pv 1) zab))) (zbR (zaE (zaj zac (zaj zac (zaj zac (zaj zac (zaj zac (zaj zac zab))))))) zab))))
   (zae (zau (i:=4) zbW.nd rfl (Or.inl rfl) (zak Q65 hr rfl (zay (zak Q5b hr rfl (zaa (pv 0) (zaP (zat (zaF K) (pv 1) zac) zab))) (zbR (zaE (zaj zac (zaj zac (zaj zac (zaj zac zab))))) zab))))
   (zae (zc8 (i:=5) zbW.nd rfl rfl rfl (COk.m (sc0:=zaf zb9) (N:=["script","start","count","needs","leaves","deeds","notes"]) (N':=["script","start","count","needs","leaves","deeds","notes","k"]) (ms:=[false,false,false,false,false,false,false,true])) (zbs rfl B.range (zaa (pv 2) zab)) (λ_ _ _ _ _=>(zas (i:=7) (ndS (N:=["script","start","count","needs","leaves","deeds","notes","k"])) rfl (Or.inl rfl))) (λ_ _ _ _ _=>zaD) (λ_ _ _ _ _=>(zak Q63 hr rfl (zay (zak Q5b hr rfl (zaa (pv 0) (zaP (zat (zaF K) (zat (zaF K) (pv 1) zac) (pv 7)) zab))) (zaa (pv 2) zab)))))
   (zae (zc8 (i:=6) zbW.nd rfl rfl rfl (COk.m (sc0:=zaf zb9) (N:=["script","start","count","needs","leaves","deeds","notes"]) (N':=["script","start","count","needs","leaves","deeds","notes","k"]) (ms:=[false,false,false,false,false,false,false,true])) (zbs rfl B.range (zaa (pv 2) zab)) (λ_ _ _ _ _=>(zas (i:=7) (ndS (N:=["script","start","count","needs","leaves","deeds","notes","k"])) rfl (Or.inl rfl))) (λ_ _ _ _ _=>zaD) (λ_ _ _ _ _=>(zak Q65 hr rfl (zaP (zat zcZ (zak Q5b hr rfl (zaa (pv 0) (zaP (zat (zaF K) (zat (zaF K) (pv 1) zac) (pv 7)) zab))) zac) (zbR (zaE (zaj zac (zaj zac zab))) zab)))))
   (zai (zan (zaE (zaa (pv 3) (zaa (pv 4) (zaa (pv 5) (zaa (pv 6) zab))))))))))),?_⟩
 ac_rfl
 refine zfG hS hst ?_
 ac_rfl
 refine⟨by show 6<=sizeLine;decide,λp hp=>?_⟩
 have r1:=zag hp (.lst [.int 0,.int 1,.int 2,.int 3,.int 6,.int 7])
 ac_rfl
 refine⟨_,p,[0,1,2,3,6,7],rfl,SqL.of zad,λv1 H1 s1 n1=>?_⟩
 have t1:=r1.trans s1
 ac_rfl
 refine zfG (t1.seq hS) (by omega) ?_
 ac_rfl
 refine⟨by show 4<=sizeLine;decide,λp2 hp2=>?_⟩
 have r2:=zag hp2 (.lst [.int 0,.int 1,.int 2,.int 3])
 ac_rfl
 refine⟨_,p2,[0,1,2,3],rfl,SqL.of zad,λv2 H2 s2 n2=>?_⟩
 have t2:=t1.trans (r2.trans s2)
 ac_rfl
 refine zch (by omega) (by omega) ?_
 refine zaI zbL (zho ns start count) (by simp[zho]) (zal (by omega)) (λi x d H3 R hi hd s3 hx hR=>?_) (λv3 H3 s3 n3=>?_)
 ·subst hx
  unfold zho at hd
  have hd':=zdW hd
  subst hd'
  ac_rfl
  refine zfG ((t2.trans s3).seq hS) (by omega) ?_
  ac_rfl
  refine⟨_,_,rfl,hc0,λv H4 s4 n4=>?_⟩
  exact hR _ _ s4 n4
 have t3:=t2.trans s3
 ac_rfl
 refine zch (by omega) (by omega) ?_
 refine zaI zbL ((zd1 ns start count).map zaq) (by simp[zd1]) (zal (by omega)) (λi x d H4 R hi hd s4 hx hR=>?_) (λv4 H4 s4 n4=>?_)
 ·subst hx
  unfold zd1 at hd
  rw[List.map_map] at hd
  have hd':=zdW hd
  subst hd'
  ac_rfl
  refine zfG ((t3.trans s4).seq hS) (by omega) ?_
  ac_rfl
  refine⟨by show 2<=sizeLine;decide,λp3 hp3=>?_⟩
  have r3:=zag hp3 (.lst [.int 6,.int 7])
  ac_rfl
  refine⟨_,p3,[6,7],rfl,SqL.of zad,λv5 H5 s5 n5=>?_⟩
  exact hR _ _ (r3.trans s5) (n5.back r3)
 ac_rfl
 refine⟨by show 4<=sizeLine;decide,λt ht=>?_⟩
 have s5:=zag ht (.lst [v1,v2,v3,v4])
 refine q _ _ ((t3.trans s4).trans s5) ?_
 have w1:News H H1 [zaq (zgp ns start)] [v1]:=News.nil.snoc (H1:=H) (Same.refl H) t1 (n1.back r1)
 have w2:=(w1.same r2).snoc (t1.trans r2) s2 n2
 have w3:=w2.snoc t2 s3 n3
 have w4:=w3.snoc t3 s4 n4
 exact w4.lst (t3.trans s4) ht
def zqz (K:Fg)(H:Hp)(pa:Addr)(c:Cr):Prop:=∃ x1 x2 b3 b4 dvs nvs,H pa=some (.lst [x1,x2,.ref b3,.ref b4])/\Rep K H (zaq c.needs) x1/\Rep K H (zaq c.leaves) x2/\H b3=some (.lst dvs)/\zd4 H c.deeds dvs/\H b4=some (.lst nvs)/\R2 (λls x=>Rep K H (zaq ls) x) c.notes nvs
inductive Q68 (K:Fg)(vs:List V)(H:Hp)(Q:VK)(E:XK):Prop
 | mk (pa:Addr) (k:Int) (c:Cr):vs=[.ref pa,.int k]->zqz K H pa c->c.Rt->(∀ ta c' H',Same H H'->zqz K H' ta c'->c'.Nine->c'.right=false->Q (.ref ta) H')->Q68 K vs H Q E
include B Z in
theorem zjS (F:Fun K "_law_spoilt" "_law_spoilt" zfc f fd)(m:mg "_law_spoilt"=some (.ref f)):Fn P w K mg b8 "_law_spoilt" ["parts","cell"] 1 (Q68 K):=by
 refine Fn.of (k:=0) F zjL m (λ_ _ _ _ _ _ us hl=>(by obtain⟨_,_,rfl⟩:=len2 hl;rfl)) (λvs H Q E h=>?_) (λcdv A outer s H vs Q E hr h=>?_)
 ·first
  | (obtain⟨_,_,_,rfl,_⟩:=h;rfl)
 obtain⟨pa,k,c,rfl,hP,rt,q⟩:=h
 refine⟨_,(QSs.run (zkd (zqd (zaz (k_eq K hr) (zat zcK (pv 1) zac) zac (zaw _)) (zjv (zn5 (zhP (zn4 (zhP (ziF (q_op zaV (zhP (zfT (QE.mk zac) zeS)) (QE.mk zac)) (ziF (q_op zaV (zhP (zfT (QE.mk zac) zeS)) (QE.mk zac)) (ziF (q_op zaV (zhP (zfT (QE.mk zac) zeS)) (QE.mk zac)) zeS)))) (zhj (q_ix (k_ix K) (QE.mk (pv 0)) (QE.mk zac) (λ_ _=>rfl)) (zhj (q_ix (k_ix K) (QE.mk (pv 0)) (QE.mk zac) (λ_ _=>rfl)) (zhj (q_ix (k_ix K) (QE.mk (pv 0)) (QE.mk zac) (λ_ _=>rfl)) zeS))))))) zl0)
   (zkd (zqd (zaz (k_eq K hr) (zat zcK (pv 1) zac) zac (zaw _)) (zjv (zn5 (zhP (zhj (q_ix (k_ix K) (QE.mk (pv 0)) (QE.mk zac) (λ_ _=>rfl)) (zn4 (zhP (ziF (q_op (zaF K) (zhP (ziF (q_op zih (QE.mk (zeL zcL (zat zii zac zac))) (QE.mk zac)) zeS)) (q_op zaV (zhP (zfT (QE.mk zac) zeS)) (QE.mk zac))) zeS)) (zhj (q_ix (k_ix K) (QE.mk (pv 0)) (QE.mk zac) (λ_ _=>rfl)) (zhj (q_ix (k_ix K) (QE.mk (pv 0)) (QE.mk zac) (λ_ _=>rfl)) zeS))))))) zl0)
   (zjv (QS.mk (zan (zaE (zaK (zaH (k_ix K) (pv 0) zac (λ_ _=>rfl)) (zaK (zaH (k_ix K) (pv 0) zac (λ_ _=>rfl)) (zbR (zaE zab) (zbR (zaE zab) zab))))))))))),?_⟩
 obtain⟨x1,x2,b3,b4,dvs,nvs,hpa,r1,r2,e3,d3,e4,n4⟩:=hP
 have nn:=rt.nine
 have z0:=Int.emod_nonneg k (show (3:Int)≠0 by decide)
 have z1:=Int.emod_lt_of_pos k (show (0:Int)<3 by decide)
 walk_at "q"
 nofun
 refine ite2 (λe=>?_) (λe=>?_)
 ·nofun
  refine dspL λo1 H1 s1 g1=>?_
  nofun
  refine zgA g1 λu1 H2 s2 _ g2=>?_
  nofun
  refine dspL λo2 H3 s3 g3=>?_
  nofun
  refine zgA g3 λu2 H4 s4 _ g4=>?_
  nofun
  refine dspL λo3 H5 s5 g5=>?_
  nofun
  refine zgA g5 λu3 H6 s6 _ g6=>?_
  nofun
  refine dspL λna H7 s7 g7=>?_
  have s26:=s3.trans (s4.trans (s5.trans (s6.trans s7)))
  have s07:=s1.trans (s2.trans s26)
  nofun
  refine zbE (SqL.of (s07 _ _ hpa)) (v:=x2) (zaA (j:=1) rfl) ?_
  nofun
  refine zbE (SqL.of (s07 _ _ hpa)) (v:=.ref b3) (zaA (j:=2) rfl) ?_
  nofun
  refine zbE (SqL.of (s07 _ _ hpa)) (v:=.ref b4) (zaA (j:=3) rfl) ?_
  nofun
  refine⟨(by walk_at "sm"),λta hta=>?_⟩
  have s8:=zag hta (.lst [V.ref na,x2,.ref b3,.ref b4])
  have g8:(upd H7 ta (.lst [V.ref na,x2,.ref b3,.ref b4])) ta=some (.lst [V.ref na,x2,.ref b3,.ref b4]):=zad
  generalize upd H7 ta (.lst [V.ref na,x2,.ref b3,.ref b4])=H8 at *
  have s08:=s07.trans s8
  have n9:(List.replicate 9 (0:Int)).length=9:=by simp
  refine q ta {c with needs:=[List.replicate 9 0,List.replicate 9 0,List.replicate 9 0]} _ s08 ⟨.ref na,x2,b3,b4,dvs,nvs,g8,zcb (bs:=[u1,u2,u3]) (s8 _ _ g7) rfl (λi b l p1 p2=>?_),Rep.same s08 _ r2,s08 _ _ e3,R2.mono d3 λ_ _ z=>z.sq s08.sq,s08 _ _ e4,R2.mono n4 λ_ _ z=>Rep.same s08 _ z⟩ ⟨λl hl=>?_,nn.l9,nn.d9,nn.o9,by simp,nn.l,nn.d,nn.o⟩ ?_
  ·match i,p1,p2 with
   | 0,p1,p2=>cases p1;cases p2;exact (s26.trans s8) _ _ g2
   | 1,p1,p2=>cases p1;cases p2;exact ((s5.trans (s6.trans s7)).trans s8) _ _ g4
   | 2,p1,p2=>cases p1;cases p2;exact (s7.trans s8) _ _ g6
   | i+3,p1,p2=>simp at p1
  ·simp only[List.mem_cons,List.not_mem_nil,or_false] at hl
   rcases hl with rfl | rfl | rfl <;> exact n9
  ·rfl
 nofun
 walk_at "q"
 nofun
 refine ite2 (λe'=>?_) (λe'=>?_)
 ·nofun
  refine zbE (SqL.of hpa) (v:=x1) zbt ?_
  nofun
  refine dspL λo1 H1 s1 g1=>?_
  nofun
  refine dspL λo2 H2 s2 g2=>?_
  nofun
  refine .inr ⟨o2,8,[.int 0],rfl,rfl,g2,by decide,by decide,by decide,λu hu=>?_⟩
  have s3:=zag hu (.lst (List.replicate (8:Int).toNat [V.int 0]).flatten)
  have g3:(upd H2 u (.lst (List.replicate (8:Int).toNat [V.int 0]).flatten)) u=some (.lst ((List.replicate 8 (0:Int)).map V.int)):=zad
  generalize upd H2 u (.lst (List.replicate (8:Int).toNat [V.int 0]).flatten)=H3 at *
  nofun
  refine zbe ((s2.trans s3) _ _ g1) g3 (zal (by decide)) λu2 hu2=>?_
  have s4:=zag hu2 (.lst ([V.int (-1000000000 - 1)]++List.map V.int (List.replicate 8 0)))
  have g4:(upd H3 u2 (.lst ([V.int (-1000000000 - 1)]++List.map V.int (List.replicate 8 0)))) u2=some (.lst (((-1000000001:Int)::List.replicate 8 0).map V.int)):=zad
  generalize upd H3 u2 (.lst ([V.int (-1000000000 - 1)]++List.map V.int (List.replicate 8 0)))=H4 at *
  nofun
  refine dspL λna H5 s5 g5=>?_
  have s05:=s1.trans (s2.trans (s3.trans (s4.trans s5)))
  nofun
  refine zbE (SqL.of (s05 _ _ hpa)) (v:=.ref b3) (zaA (j:=2) rfl) ?_
  nofun
  refine zbE (SqL.of (s05 _ _ hpa)) (v:=.ref b4) (zaA (j:=3) rfl) ?_
  nofun
  refine⟨(by walk_at "sm"),λta hta=>?_⟩
  have s6:=zag hta (.lst [x1,V.ref na,.ref b3,.ref b4])
  have g6:(upd H5 ta (.lst [x1,V.ref na,.ref b3,.ref b4])) ta=some (.lst [x1,V.ref na,.ref b3,.ref b4]):=zad
  generalize upd H5 ta (.lst [x1,V.ref na,.ref b3,.ref b4])=H6 at *
  have s06:=s05.trans s6
  refine q ta {c with leaves:=[(-1000000001:Int)::List.replicate 8 0]} _ s06 ⟨x1,.ref na,b3,b4,dvs,nvs,g6,Rep.same s06 _ r1,zcb (bs:=[u2]) (s6 _ _ g5) rfl (zeT ((s5.trans s6) _ _ g4)),s06 _ _ e3,R2.mono d3 λ_ _ z=>z.sq s06.sq,s06 _ _ e4,R2.mono n4 λ_ _ z=>Rep.same s06 _ z⟩ ⟨nn.n9,λl hl=>?_,nn.d9,nn.o9,nn.n,by simp,nn.d,nn.o⟩ ?_
  ·rw[zms.mp hl];simp
  ·show zdH _ _ _ _=false
   unfold zdH zhp
   rw[show zc1 [1,2,3,4] [(-1000000001:Int)::List.replicate 8 0]=false by decide +kernel,Bool.and_false,Bool.false_and]
 ·nofun
  refine zbE (SqL.of hpa) (v:=x1) zbt ?_
  nofun
  refine zbE (SqL.of hpa) (v:=x2) (zaA (j:=1) rfl) ?_
  nofun
  refine dspL λo1 H1 s1 g1=>?_
  nofun
  refine dspL λo2 H2 s2 g2=>?_
  nofun
  refine⟨(by walk_at "sm"),λta hta=>?_⟩
  have s3:=zag hta (.lst [x1,x2,V.ref o1,.ref o2])
  have g3:(upd H2 ta (.lst [x1,x2,V.ref o1,.ref o2])) ta=some (.lst [x1,x2,V.ref o1,.ref o2]):=zad
  generalize upd H2 ta (.lst [x1,x2,V.ref o1,.ref o2])=H3 at *
  have s03:=s1.trans (s2.trans s3)
  refine q ta {c with deeds:=[],notes:=[]} _ s03 ⟨x1,x2,o1,o2,[],[],g3,Rep.same s03 _ r1,Rep.same s03 _ r2,(s2.trans s3) _ _ g1,R2.nil,s3 _ _ g2,R2.nil⟩ ⟨nn.n9,nn.l9,λd hd=>(by cases hd),λl hl=>(by cases hl),nn.n,nn.l,by simp,by simp⟩ ?_
  show zdH _ _ _ _=false
  unfold zdH
  rw[show zfk []=false by decide +kernel,Bool.false_and,Bool.and_false]
def zfv (K:Fg)(C:Nat->Addr):Value->Addr->Sp:=λc a vs H Q _=>∃ (D:Addr) (j:Nat),vs=[.ref a,.int j]/\c=.ref D/\[(C 2),(C 3),(C 5),(C 6),(C 4)][j]?=some D/\∀ H',Same H H'->Q (.bl true) H'
theorem zkn {H:Hp} : ∀ {bs:List Bool},Reps K H (bs.map L2.D.bl) (bs.map V.bl)
 | []=>by unfold List.map Reps;rfl
 | b::bs=>by
  rw[zmc,zmc]
  unfold Reps
  exact⟨_,_,rfl,by unfold Rep;rfl,zkn⟩
theorem zmL {H:Hp}{a:Addr}{bs:List Bool}(h:H a=some (.lst (bs.map V.bl))):Rep K H (.lst (bs.map L2.D.bl)) (.ref a):=by
 unfold Rep
 exact⟨a,_,rfl,SqL.of h,zkn⟩
theorem zo8 (bs:List Bool):dep (.lst (bs.map L2.D.bl))<=60:=by
 unfold dep
 refine Nat.le_trans (Nat.succ_le_succ (zeC (n:=0) λd hd=>?_)) (by decide)
 obtain⟨b,_,rfl⟩:=zmm.mp hd
 unfold dep
 exact Nat.le_refl _
include B Z in
theorem zk3 (F:Fun K "_law_alone" "_law_alone" zeK f fd)(m:mg "_law_alone"=some (.ref f)):FnH P w K mg b8 "_law_alone" ["e","mine"] 1 (zfv K C):=by
 refine FnH.of (k:=0) F zht m (λ_ _ _ _ _ _ us hl=>(by obtain⟨_,_,rfl⟩:=len2 hl;rfl)) (λc a vs H Q E h=>?_) (λcdv A outer s H vs Q E x0 o0 hr hd hn hx h=>?_)
 ·first
  | (obtain⟨rfl,_⟩:=h;rfl)
  | (obtain⟨_,rfl,_⟩:=h;rfl)
  | (obtain⟨_,_,rfl,_⟩:=h;rfl)
  | (obtain⟨_,_,_,rfl,_⟩:=h;rfl)
  | (obtain⟨_,_,_,_,rfl,_⟩:=h;rfl)
  | (obtain⟨_,_,_,_,_,rfl,_⟩:=h;rfl)
  | (obtain⟨_,_,_,_,_,_,rfl,_⟩:=h;rfl)
  | (obtain⟨_,_,_,_,_,_,_,rfl,_⟩:=h;rfl)
  | (obtain⟨_,_,_,_,_,_,_,_,rfl,_⟩:=h;rfl)
  | (obtain⟨_,_,_,_,_,_,_,_,_,rfl,_⟩:=h;rfl)
  | (obtain⟨_,_,_,_,_,_,_,_,_,_,rfl,_⟩:=h;rfl)
  | (obtain⟨_,_,_,_,_,_,_,_,_,_,_,rfl,_⟩:=h;rfl)
  | (obtain⟨_,_,_,_,_,_,_,_,_,_,_,_,rfl,_⟩:=h;rfl)
  | (obtain⟨_,_,_,_,_,_,_,_,_,_,_,_,_,rfl,_⟩:=h;rfl)
  | (obtain⟨_,_,_,_,_,_,_,_,_,_,_,_,_,_,rfl,_⟩:=h;rfl)
  | (obtain⟨_,_,_,_,_,_,_,_,_,_,_,_,_,_,_,rfl,_⟩:=h;rfl)
  | (obtain⟨_,_,_,_,_,_,_,_,_,_,_,_,_,_,_,_,rfl,_⟩:=h;rfl)
 obtain⟨D,j,rfl,hc,hj,q⟩:=h
 have key:∃ anc b0 b1 b2 b3 b4,Err K D anc/\ErrIs2 K D/\anc.contains (.type "ValueError")=true/\(Value.ref D::anc).contains (.ref (C 1))=true/\(Value.ref D::anc).contains (.ref (C 2))=b0/\(Value.ref D::anc).contains (.ref (C 3))=b1/\(Value.ref D::anc).contains (.ref (C 5))=b2/\(Value.ref D::anc).contains (.ref (C 6))=b3/\(Value.ref D::anc).contains (.ref (C 4))=b4/\[b0,b1,b2,b3,b4]=(List.range 5).map λ(k:Nat)=>decide ((0+(k:Int))=(j:Int)):=by
  have nd:=Z.nd
  have n2:[(C 6),(C 5),(C 4),(C 3),(C 2),(C 1)].Nodup:=List.pairwise_reverse.mpr (nd.imp λh=>h.symm)
  simp only[List.nodup_cons,List.mem_cons,List.not_mem_nil,or_false,not_or,not_false_eq_true,List.nodup_nil,and_true] at nd n2
  match j,hj with
  | 0,hj=>cases hj;exact⟨_,_,_,_,_,_,Z.e_BadSheet,Z.i_BadSheet,by simp[za8],by simp,rfl,rfl,rfl,rfl,rfl,by simp[za8,nd,n2,List.range,List.range.loop]⟩
  | 1,hj=>cases hj;exact⟨_,_,_,_,_,_,Z.e_NoCraft,Z.i_NoCraft,by simp[za8],by simp,rfl,rfl,rfl,rfl,rfl,by simp[za8,nd,n2,List.range,List.range.loop]⟩
  | 2,hj=>cases hj;exact⟨_,_,_,_,_,_,Z.e_NotShown,Z.i_NotShown,by simp[za8],by simp,rfl,rfl,rfl,rfl,rfl,by simp[za8,nd,n2,List.range,List.range.loop]⟩
  | 3,hj=>cases hj;exact⟨_,_,_,_,_,_,Z.e_Unfit,Z.i_Unfit,by simp[za8],by simp,rfl,rfl,rfl,rfl,rfl,by simp[za8,nd,n2,List.range,List.range.loop]⟩
  | 4,hj=>cases hj;exact⟨_,_,_,_,_,_,Z.e_Unmet,Z.i_Unmet,by simp[za8],by simp,rfl,rfl,rfl,rfl,rfl,by simp[za8,nd,n2,List.range,List.range.loop]⟩
  | j+5,hj=>simp at hj
 obtain⟨anc,b0,b1,b2,b3,b4,eD,iD,hv,hh,h0,h1,h2,h3,h4,hb⟩:=key
 refine⟨_,(zae (za2 (PW.pt (zhA (zdD (zbP (zar (zhm hd hn) rfl B.isinstance L2.zaG (zaa (pv 0) (zaa (zbu rfl Z.m_HallError) zab))))) (zfY (zdD (zbP (zar (zqo hd hn) rfl B.isinstance L2.zaG (zaa (pv 0) (zaa (zfX (v:=.ty "ValueError") rfl B.ValueError L2.zgl rfl) zab)))))))) (zai (zan zdr)) zav)
   (zae (zau (i:=2) zht.nd rfl (Or.inl rfl) (zaE (zay (zar (zhm hd hn) rfl B.isinstance L2.zaG (zaa (pv 0) (zaa (zbu rfl Z.m_BadSheet) zab))) (zay (zar (zhm hd hn) rfl B.isinstance L2.zaG (zaa (pv 0) (zaa (zbu rfl Z.m_NoCraft) zab))) (zay (zar (zhm hd hn) rfl B.isinstance L2.zaG (zaa (pv 0) (zaa (zbu rfl Z.m_NotShown) zab))) zab)))))
   (zai (zan (zbg (k_eqH K hr) (zat (zaF K) (pv 2) (zaE (zay (zar (zhm hd hn) rfl B.isinstance L2.zaG (zaa (pv 0) (zaa (zbu rfl Z.m_Unfit) zab))) (zay (zar (zhm hd hn) rfl B.isinstance L2.zaG (zaa (pv 0) (zaa (zbu rfl Z.m_Unmet) zab))) zab)))) (znu hx (COk.m (sc0:=zaf zeK) (N:=["e","mine","told"]) (N':=["e","mine","told","k"]) (ms:=[false,false,false,true])) (zkJ rfl B.range (zaj zac zab)) (λ_ _ _ _ _=>(zas (i:=3) (ndS (N:=["e","mine","told","k"])) rfl (Or.inl rfl))) (λ_ _ _ _ _=>zaD) (λ_ _ _ _ _=>(zbg zoj (pv 3) (pv 1) (zaw _)))) (zaw _)))))),?_⟩
 walk_at "q"
 nofun
 refine⟨D,(C 1),anc,_,rfl,hc,eD,iD,Z.e_HallError,?_⟩
 rw[hh]
 refine⟨true,rfl,?_⟩
 rw[if_neg (by simp)]
 nofun
 refine⟨D,anc,_,rfl,by decide +kernel,hc,eD,iD,?_⟩
 rw[hv]
 refine⟨true,rfl,?_⟩
 nofun
 walk_at "q"
 nofun
 refine⟨D,(C 2),anc,_,rfl,hc,eD,iD,Z.e_BadSheet,?_⟩
 rw[h0]
 nofun
 refine⟨D,(C 3),anc,_,rfl,hc,eD,iD,Z.e_NoCraft,?_⟩
 rw[h1]
 nofun
 refine⟨D,(C 5),anc,_,rfl,hc,eD,iD,Z.e_NotShown,?_⟩
 rw[h2]
 nofun
 refine dspL λp H1 s1 g1=>?_
 nofun
 refine⟨D,(C 6),anc,_,rfl,hc,eD,iD,Z.e_Unfit,?_⟩
 rw[h3]
 nofun
 refine⟨D,(C 4),anc,_,rfl,hc,eD,iD,Z.e_Unmet,?_⟩
 rw[h4]
 nofun
 refine dspL λp2 H2 s2 g2=>?_
 nofun
 refine zbe (s2 _ _ g1) g2 (by walk_at "sm") λp3 hp3=>?_
 have s3:=zag hp3 (.lst [V.bl b0,.bl b1,.bl b2,.bl b3,.bl b4])
 have g3:(upd H2 p3 (.lst [V.bl b0,.bl b1,.bl b2,.bl b3,.bl b4])) p3=some (.lst ([b0,b1,b2,b3,b4].map V.bl)):=zad
 nofun
 refine zch (by omega) (by omega) ?_
 refine zaI zbL (((List.range 5).map λ(k:Nat)=>decide ((0+(k:Int))=(j:Int))).map L2.D.bl) (by simp) (zal (by decide)) (λi x d H4 R hi hd s4 hx hR=>?_) (λv H4 s4 n4=>?_)
 ·subst hx
  rw[zgm,zgm,List.getElem?_range (show i<5 from hi)] at hd
  cases hd
  nofun
  refine⟨rfl,?_⟩
  rw[show decide (V.int (0+(i:Int))=V.int (j:Int))=decide (0+(i:Int)=(j:Int)) by simp]
  exact hR _ _ (Same.refl _) New.bl
 obtain⟨ba,rfl,ba0,ba1⟩:=New.bls n4
 nofun
 refine znc (zmL (s4 _ _ g3)) (zmL ba1) (zo8 _) ?_
 rw[hb,zcw]
 exact q _ (s1.trans (s2.trans (s3.trans s4)))
inductive Q69 (K:Fg)(C:Nat->Addr)(vs:List V)(H:Hp)(Q:VK)(E:XK):Prop
 | mk (ha la va:Addr) (n w:Int) (cv:V) (ks:List Int) (cr:Int->Cr) (ws:List Int) (fp:List Addr):vs=[.ref ha,.int n,cv,.int w]->HAt (C 7) (C 0) H ha la va ks cr ws fp->n.natAbs<zbv->((w=0/\∃ (p:Addr) (c:Cr),cv=.ref p/\zdI K (C 0) H p c.needs c.leaves c.deeds c.notes/\c.Nine/\c.right=false/\(n∈ks\/ks.length<60))\/(n∉ks/\(w=1\/w=2\/w=3)))->(∀ H',Same H H'->Q (.bl true) H')->Q69 K C vs H Q E
include B Z in
theorem zi9 (Q41:Mth (CX1 P w) P w K mg b8 (C 7) "lay" ["self","number","craft"] 8 (Q40 K C))(G_l_alone:FnH P w K mg b8 "_law_alone" ["e","mine"] 1 (zfv K C))(Q43:Mth (CX1 P w) P w K mg b8 (C 7) "tear" ["self","number"] 4 (Q42 K C))(Q49:Mth (CX1 P w) P w K mg b8 (C 7) "vouch" ["self","number","rows"] 8 (Q48 K C))(Q4b:Mth (CX1 P w) P w K mg b8 (C 7) "seek" ["self","number"] 8 (Q4a K C))(F:Fun K "_law_refused" "_law_refused" zev f fd)(m:mg "_law_refused"=some (.ref f)):Fn P w K mg b8 "_law_refused" ["hall","number","craft","way"] 9 (Q69 K C):=by
 refine Fn.of (k:=8) F zfE m (λ_ _ _ _ _ _ us hl=>(by obtain⟨_,_,_,_,rfl⟩:=len4 hl;rfl)) (λvs H Q E h=>?_) (λcdv A outer s H vs Q E hr h=>?_)
 ·first
  | (obtain⟨_,_,_,_,_,_,_,_,_,_,rfl,_⟩:=h;rfl)
 obtain⟨ha,la,va,n,w,cv,ks,cr,ws,fp,rfl,hA,hn,hw,q⟩:=h
 refine⟨_,(zae (zqb rfl rfl rfl (zds (zlZ (zaz (k_eq K hr) (pv 3) zac (zaw _)) (zds (zfS (zhN Q41 Z.c_Hall hr (pv 0) (zaa (pv 1) (zaa (pv 2) zab))))) (zds (zlZ (zaz (k_eq K hr) (pv 3) zac (zaw _)) (zds (zfS (zhN Q43 Z.c_Hall hr (pv 0) (zaa (pv 1) zab)))) (zds (zlZ (zaz (k_eq K hr) (pv 3) zac (zaw _)) (zds (zfS (zhN Q49 Z.c_Hall hr (pv 0) (zaa (pv 1) (zbR (zaE zab) zab))))) (zds (zfS (zhN Q4b Z.c_Hall hr (pv 0) (zaa (pv 1) zab)))))))))) (ph_as (i:=4) (tb:=λc a=>tRet (zik (zfv K C c a) [] E0 (zc6 (tVar 4) (zc6 (tCB rInt (zc6 (tOp (rI0 λi j=>.bl (decide (j<i))) (tVar 3) (tC (.int 0))) tNil)) tNil)))) Z.e_HallError rfl Z.m_HallError zfE.nd rfl rfl (λ_ _ hd hn=>(zai (zan (zqp G_l_alone hr rfl hd hn (zaa (pv 4) (zay (zc7 c_int rfl B.int L2.znf (zqc (zbg zok (pv 3) zac (zaw _)) zab)) zab)))))) zqa))
   (zai (zan zdr))),?_⟩
 obtain⟨dx,hh⟩:=hA.ins
 walk_at "q"
 refine i_try ?_
 rcases hw with ⟨rfl,p,c,rfl,hT,nine,hr0,hfew⟩ | ⟨hm,rfl | rfl | rfl⟩
 ·nofun
  rw[decide_eq_true rfl]
  nofun
  refine⟨ha,dx,_,rfl,hh,zdy (by decide +kernel) (by decide +kernel),?_⟩
  nofun
  refine⟨ha,la,va,p,n,ks,cr,ws,fp,c,rfl,hA,hT,nine,hn,hfew,λ_ H' s' a=>?_,λz=>by rw[hr0] at z;cases z⟩
  refine⟨(C 2),_,rfl,Z.e_BadSheet,?_⟩
  rw[if_pos (by simp)]
  show tRet _ _ _ _
  nofun
  refine .inr ⟨_,rfl,?_⟩
  nofun
  exact⟨(C 2),0,rfl,rfl,rfl,λH2 s2=>q _ (s'.trans s2)⟩
 ·nofun
  rw[decide_eq_false (by decide)]
  nofun
  rw[decide_eq_true rfl]
  nofun
  refine⟨ha,dx,_,rfl,hh,zdy (by decide +kernel) (by decide +kernel),?_⟩
  nofun
  refine⟨ha,la,va,n,ks,cr,ws,fp,rfl,hA,hn,λ_ a=>?_,λz=>absurd z hm⟩
  refine⟨(C 3),_,rfl,Z.e_NoCraft,?_⟩
  rw[if_pos (by simp)]
  show tRet _ _ _ _
  nofun
  refine .inr ⟨_,rfl,?_⟩
  nofun
  exact⟨(C 3),1,rfl,rfl,rfl,λH2 s2=>q _ s2⟩
 ·nofun
  rw[decide_eq_false (by decide)]
  nofun
  rw[decide_eq_false (by decide)]
  nofun
  rw[decide_eq_true rfl]
  nofun
  refine⟨ha,dx,_,rfl,hh,zdy (by decide +kernel) (by decide +kernel),?_⟩
  nofun
  refine dspL λra H1 s1 g1=>?_
  nofun
  refine⟨ha,la,va,ra,n,ks,cr,ws,fp,[],[],rfl,hA.same s1,hn,SqL.of g1,by unfold List.map Reps;rfl,λr hr=>(by cases hr),λ_ a=>?_,λz=>absurd z hm,λz=>absurd z hm,λz=>absurd z hm⟩
  refine⟨(C 3),_,rfl,Z.e_NoCraft,?_⟩
  rw[if_pos (by simp)]
  show tRet _ _ _ _
  nofun
  refine .inr ⟨_,rfl,?_⟩
  nofun
  exact⟨(C 3),1,rfl,rfl,rfl,λH2 s2=>q _ (s1.trans s2)⟩
 ·nofun
  rw[decide_eq_false (by decide)]
  nofun
  rw[decide_eq_false (by decide)]
  nofun
  rw[decide_eq_false (by decide)]
  nofun
  refine⟨ha,dx,_,rfl,hh,zdy (by decide +kernel) (by decide +kernel),?_⟩
  nofun
  refine⟨ha,la,va,n,ks,cr,ws,fp,rfl,hA,hn,λ_ a=>?_,λz=>absurd z hm,λz=>absurd z hm⟩
  refine⟨(C 3),_,rfl,Z.e_NoCraft,?_⟩
  rw[if_pos (by simp)]
  show tRet _ _ _ _
  nofun
  refine .inr ⟨_,rfl,?_⟩
  nofun
  exact⟨(C 3),1,rfl,rfl,rfl,λH2 s2=>q _ s2⟩
inductive Q6b (K:Fg)(vs:List V)(H:Hp)(Q:VK)(E:XK):Prop
 | mk (a1 a2 a3 a4:Addr) (S:Addr->Prop):vs=[.ref a1,.ref a2,.ref a3,.ref a4]->MarIn S H 8 a1 a2 a3 a4->(∀ H',Mt S H H'->Q .non H')->Q6b K vs H Q E
include B Z in
theorem zjT (F:Fun K "_law_marred" "_law_marred" zea f fd)(m:mg "_law_marred"=some (.ref f)):Fn P w K mg b8 "_law_marred" ["needs","leaves","deeds","notes"] 1 (Q6b K):=by
 refine Fn.of (k:=0) F zbK m (λ_ _ _ _ _ _ us hl=>(by obtain⟨_,_,_,_,rfl⟩:=len4 hl;rfl)) (λvs H Q E h=>?_) (λcdv A outer s H vs Q E hr h=>?_)
 ·first
  | (obtain⟨_,_,_,_,_,rfl,_⟩:=h;rfl)
 obtain⟨a1,a2,a3,a4,S,rfl,⟨⟨xs1,h1,k1,l1⟩,⟨xs2,h2,k2,l2⟩,⟨dvs,h3,k3,l3⟩,⟨nvs,h4,k4,l4⟩,hS⟩,q⟩:=h
 refine⟨_,(zae (zau (i:=4) zbK.nd rfl (Or.inl rfl) (zat (zaF K) (pv 0) (pv 1)))
   (zae (zci PassesOwn.never rfl (zaT K (pv 3)) (zas (i:=5) zbK.nd rfl (Or.inl rfl)) (zai (zau (i:=4) zbK.nd rfl (Or.inl rfl) (zat (zaF K) (pv 4) (pv 5)))))
   (zae (zci PassesOwn.never rfl (zaT K (pv 2)) (zas (i:=6) zbK.nd rfl (Or.inl rfl)) (zai (zau (i:=4) zbK.nd rfl (Or.inl rfl) (zat (zaF K) (pv 4) (zaX rfl (COk.m (sc0:=zaf zea) (N:=["needs","leaves","deeds","notes","lines","some","deed","line"]) (N':=["needs","leaves","deeds","notes","lines","some","deed","line","part"]) (ms:=[false,false,false,false,false,false,false,false,true])) (zhi K (pv 6)) (λ_ _ _ _ _=>(zas (i:=8) (ndS (N:=["needs","leaves","deeds","notes","lines","some","deed","line","part"])) rfl (Or.inl rfl))) (λ_ _ _ _ _=>(zj3 (zbP (zar (zne K) rfl B.isinstance L2.zaG (zaa (pv 8) (zaa (zfX (v:=.ty "list") rfl B.list L2.zcx rfl) zab)))))) (λ_ _ _ _ _=>(pv 8)))))))
   (zai (zci PassesOwn.never rfl (zaT K (pv 4)) (zas (i:=7) zbK.nd rfl (Or.inl rfl)) (zai (zla (zat (zaF K) (zaH (k_ix K) (pv 7) zac (λ_ _=>rfl)) zac) (zk9 (pv 7) zac zhD)))))))),?_⟩
 walk_at "q"
 nofun
 refine zbe h1 h2 (zal (by omega)) λp0 hp0=>?_
 have s1:=zag hp0 (.lst (xs1++xs2))
 have g1:(upd H p0 (.lst (xs1++xs2))) p0=some (.lst (xs1++xs2)):=zad
 generalize upd H p0 (.lst (xs1++xs2))=H1 at *
 nofun
 with_reducible refine zem (λσ H'=>E3 λx5 p ys=>A6 (σ=[some (.ref a1),some (.ref a2),some (.ref a3),some (.ref a4),some (.ref p),x5,none,none]) (Same H H') (H p=none) (H' p=some (.lst ys)) (LnS S ys) (ys.length<=80)) (λNX hN=>?_) (λσ H' hM=>?_)
 ·nofun
  refine⟨a4,rfl,⟨_,SqL.of (s1 _ _ h4)⟩,?_⟩
  refine zeB (xs:=nvs) (λi σ H'=>E3 λx5 p ys=>A6 (σ=[some (.ref a1),some (.ref a2),some (.ref a3),some (.ref a4),some (.ref p),x5,none,none]) (Same H H') (H p=none) (H' p=some (.lst ys)) (LnS S ys) (ys.length<=16+8 * i)) ⟨none,p0,_,rfl,s1,hp0,g1,LnS.app k1 k2,by rw[List.length_append];omega⟩ (λi σ H' _ ⟨_,_,_,_,s,_,_,_,_⟩=>SqL.of (s _ _ h4)) ?_ ?_
  ·rintro i v σ H2 hv ⟨x5,p,ys,rfl,s2,pn,hp,hy,yl⟩
   obtain⟨c,zs,rfl,hc,hz,zl⟩:=k4 v (zmg hv)
   have il:i<nvs.length:=(zge.mp hv).1
   nofun
   refine zbe hp (s2 _ _ hc) (zal (by omega)) λp2 hp2=>?_
   nofun
   exact⟨_,p2,_,rfl,s2.trans (zag hp2 _),s2.free hp2,zad,LnS.app hy hz,by rw[List.length_append];omega⟩
  ·rintro σ H2 ⟨x5,p,ys,rfl,s2,pn,hp,hy,yl⟩
   exact hN _ _ ⟨x5,p,ys,rfl,s2,pn,hp,hy,by omega⟩
 clear g1 s1 hp0
 obtain⟨x5,p,ys,rfl,s2,pn,hp,hy,yl⟩:=hM
 nofun
 with_reducible refine zem (λσ H'=>E3 λx6 p ys=>A5 (σ=[some (.ref a1),some (.ref a2),some (.ref a3),some (.ref a4),some (.ref p),x5,x6,none]) (Same H H') (H p=none) (H' p=some (.lst ys)) (LnS S ys)) (λNX hN=>?_) (λσ H' hM=>?_)
 ·nofun
  refine⟨a3,rfl,⟨_,SqL.of (s2 _ _ h3)⟩,?_⟩
  refine zeB (xs:=dvs) (λi σ H'=>E3 λx6 p ys=>A6 (σ=[some (.ref a1),some (.ref a2),some (.ref a3),some (.ref a4),some (.ref p),x5,x6,none]) (Same H H') (H p=none) (H' p=some (.lst ys)) (LnS S ys) (ys.length<=80+8 * i)) ⟨none,p,ys,rfl,s2,pn,hp,hy,by omega⟩ (λi σ H' _ ⟨_,_,_,_,s,_,_,_,_⟩=>SqL.of (s _ _ h3)) ?_ ?_
  ·rintro i v σ H3 hv ⟨x6,p',ys',rfl,s3,pn',hp',hy',yl'⟩
   obtain⟨t,xs,rfl,ht,xl,hx⟩:=k3 v (zmg hv)
   have il:i<dvs.length:=(zge.mp hv).1
   nofun
   refine⟨t,rfl,⟨_,SqT.of (s3 _ _ ht)⟩,?_⟩
   refine zl7 (zeg (SqT.of (s3 _ _ ht))) (zal (by omega)) (λy=>∃ b,y=.ref b/\S b) (λj y H4 R1 R2 hj s4 hy4 r1 r2=>?_) (λl zs H4 s4 l0 hl4 zl hz=>?_)
   ·have s34:=s3.trans s4
    nofun
    rcases hx y (zmg hy4) with ⟨i',rfl⟩ | ⟨i',rfl⟩ | ⟨b,rfl,hb⟩ | ⟨b,us,rfl,hb⟩
    ·refine zgP (.int i') zfz ?_
     nofun
     exact r2 _ (Same.refl _)
    ·refine zgP (.str i') zfA ?_
     nofun
     exact r2 _ (Same.refl _)
    ·obtain⟨l,_,e9⟩:=(hS b hb).same s34
     refine zgP (.lst e9) zfP ?_
     nofun
     exact r1 _ _ (Same.refl _) ⟨b,rfl,hb⟩
    ·refine zgP (.tup (s34 _ _ hb)) zel ?_
     nofun
     exact r2 _ (Same.refl _)
   refine zbe (s4 _ _ hp') hl4 (zal (by omega)) λp2 hp2=>?_
   nofun
   exact⟨_,p2,_,rfl,(s3.trans s4).trans (zag hp2 _),(s3.trans s4).free hp2,zad,LnS.app hy' hz,by rw[List.length_append];omega⟩
  ·rintro σ H3 ⟨x6,p',ys',rfl,s3,pn',hp',hy',yl'⟩
   exact hN _ _ ⟨x6,p',ys',rfl,s3,pn',hp',hy'⟩
 clear hp hy yl pn s2
 obtain⟨x6,p,ys,rfl,s2,pn,hp,hy⟩:=hM
 have nS:¬ S p:=λz=>by
  obtain⟨l,_,e⟩:=hS p z
  rw[pn] at e;cases e
 have mt0:Mt S H' H':=⟨λ_ _ _ e=>e,λb hb=>(hS b hb).same s2⟩
 nofun
 refine⟨p,rfl,⟨_,SqL.of hp⟩,?_⟩
 refine zeB (xs:=ys) (λi σ H4=>∃ x7,σ=[some (.ref a1),some (.ref a2),some (.ref a3),some (.ref a4),some (.ref p),x5,x6,x7]/\Mt S H' H4) ⟨none,rfl,mt0⟩ (λi σ H4 _ ⟨_,_,m⟩=>SqL.of (m.off _ _ nS hp)) ?_ ?_
 ·rintro i v σ H4 hv ⟨x7,rfl,m⟩
  obtain⟨b,rfl,hb⟩:=hy v (zmg hv)
  obtain⟨x0,xr,hxr,e4⟩:=(m.on b hb).cons
  nofun
  refine zbE (SqL.of e4) (v:=.int x0) zbt ?_
  nofun
  refine zj6 e4 ix0 ?_
  exact⟨_,rfl,m.set hb (l:=x0::xr) (by simp[hxr]) _⟩
 ·rintro σ H4 ⟨x7,rfl,m⟩
  exact q _ ⟨λb o n e=>m.off b o n (s2 _ _ e),m.on⟩
inductive Q6d (K:Fg)(C:Nat->Addr)(vs:List V)(H:Hp)(Q:VK)(E:XK):Prop
 | mk (ha la va ma:Addr) (ks:List Int) (cr:Int->Cr) (ws:List Int) (fp:List Addr) (kvs:List (Key × V)):vs=[.ref ha,.ref ma]->HAt (C 7) (C 0) H ha la va ks cr ws fp->H ma=some (.dK kvs)->KVs (λm v=>Rep K H (crD (cr m)) v) kvs ks->(∀ H',Same H H'->Q (.bl true) H')->Q6d K C vs H Q E
include B Z in
theorem zmM (Q47:Mth CX0 P w K mg b8 (C 7) "crafts" ["self"] 5 (Q46 K C))(Q45:Mth CX0 P w K mg b8 (C 7) "standing" ["self"] 1 (Q44 K C))(Q6c:Fn P w K mg b8 "_law_marred" ["needs","leaves","deeds","notes"] 1 (Q6b K))(F:Fun K "_law_same" "_law_same" zhy f fd)(m:mg "_law_same"=some (.ref f)):Fn P w K mg b8 "_law_same" ["hall","model"] 6 (Q6d K C):=by
 refine Fn.of (k:=5) F zdf m (λ_ _ _ _ _ _ us hl=>(by obtain⟨_,_,rfl⟩:=len2 hl;rfl)) (λvs H Q E h=>?_) (λcdv A outer s H vs Q E hr h=>?_)
 ·first
  | (obtain⟨_,_,_,_,_,_,_,_,_,rfl,_⟩:=h;rfl)
 obtain⟨ha,la,va,ma,ks,cr,ws,fp,kvs,rfl,hA,hma,hk,q⟩:=h
 refine⟨_,(zae (zci PassesOwn.never rfl (zbs rfl B.range (zaj zac zab)) (zas (i:=2) zdf.nd rfl (Or.inl rfl)) (zae (zau (i:=3) zdf.nd rfl (Or.inl rfl) (zjt Q45 Z.c_Hall hr zff (pv 0)))
   (zae (za2 (PW.pt (zhA (zaz (k_ne K hr) (pv 3) (zar (zcc rfl) rfl B.sorted L2.zcB (zaa (pv 1) zab)) (zaw _)) (zfY (zdD (zbP (zar (zne K) rfl B.isinstance L2.zaG (zaa (pv 3) (zaa (zfX (v:=.ty "list") rfl B.list L2.zcx rfl) zab)))))))) (zai (zan zdr)) zav)
   (zai (zbd (zkz PySem.F.plainAttrs_list PySem.F.slot_list_append PySem.F.type_list_append zcu (pv 3) (zaj zac zab)))))))
   (zae (zau (i:=4) zdf.nd rfl (Or.inl rfl) (zjt Q47 Z.c_Hall hr zff (pv 0)))
   (zae (za2 (PW.pt (zhA (zdD (zbP (zar (zne K) rfl B.isinstance L2.zaG (zaa (pv 4) (zaa (zfX (v:=.ty "dict") rfl B.dict L2.zl2 rfl) zab))))) (zfY (zaz (k_ne K hr) (zar (zcc rfl) rfl B.sorted L2.zcB (zaa (pv 4) zab)) (zar (zcc rfl) rfl B.sorted L2.zcB (zaa (pv 1) zab)) (zaw _))))) (zai (zan zdr)) zav)
   (zae (zci PassesOwn.never rfl (zaT K (zar (zcc rfl) rfl B.sorted L2.zcB (zaa (pv 1) zab))) (zas (i:=5) zdf.nd rfl (Or.inl rfl)) (zae (zpi (i:=6) (j:=7) rfl zdf.nd rfl rfl (by decide) rfl rfl (zaK (zez (hr_u hr) (pv 4) (pv 5) (λ_ _=>rfl)) (zaK (zez (hr_u hr) (pv 1) (pv 5) (λ_ _=>rfl)) zab)) (by rfl))
   (zae (za2 (zdD (zbP (zar znv rfl B.isinstance L2.zaG (zaa (pv 6) (zaa (zbu rfl Z.m_Craft) zab))))) (zai (zan zdr)) zav)
   (zae (za2 (zaz (k_ne K hr) (zaE (zaO (zaU K (pv 6) rfl) (zaO (zaU K (pv 6) rfl) (zaO (zaU K (pv 6) rfl) (zaO (zaU K (pv 6) rfl) zab))))) (pv 7) (zaw _)) (zai (zan zdr)) zav)
   (zae (zbd (zak Q6c hr rfl (zaO (zaU K (pv 6) rfl) (zaO (zaU K (pv 6) rfl) (zaO (zaU K (pv 6) rfl) (zaO (zaU K (pv 6) rfl) zab))))))
   (zae (zbd (zkz PySem.F.plainAttrs_list PySem.F.slot_list_append PySem.F.type_list_append zcu (zaU K (pv 6) rfl) (zaP (zat zaV (zaE (zaj zac zab)) zac) zab)))
   (zae (zbd (zkz PySem.F.plainAttrs_list PySem.F.slot_list_append PySem.F.type_list_append zcu (zaH (k_ix K) (zaU K (pv 6) rfl) zac (λ_ _=>rfl)) (zaP (zat zaV (zaE (zaj zac zab)) zac) zab)))
   (zae (zbd (zpx PySem.F.plainAttrs_list PySem.F.slot_list_pop PySem.F.type_list_pop zpy (zaU K (pv 6) rfl)))
   (zai (zbd (zhH (pv 4) (pv 5) ⟨rfl,rfl,rfl,rfl⟩)))))))))))
   (zai (zan zdr)))))),?_⟩
 have k60:=hA.few
 have di:∀ ms:List Int,dep (nums ms)<=60:=λms=>Nat.le_trans (zeO ms) (by decide)
 with_reducible refine zem (λσ H'=>∃ x2 x3,σ=[some (.ref ha),some (.ref ma),x2,x3,none,none,none,none]/\Same H H') (λNX hN=>?_) (λσ H1 hM=>?_)
 ·nofun
  refine zch (by omega) (by omega) ?_
  refine zgg zbL (λi σ H'=>∃ x2 x3,σ=[some (.ref ha),some (.ref ma),x2,x3,none,none,none,none]/\Same H H') ⟨none,none,rfl,Same.refl _⟩ (λi σ H' ⟨_,_,_,s⟩=>s) ?_ ?_
  ·rintro i x σ H1 H2 hi ⟨x2,x3,rfl,s1⟩ s12 rfl
   have s2:=s1.trans s12
   have hA2:=hA.same s2
   obtain⟨dx2,hh2⟩:=hA2.ins
   nofun
   walk_at "q"
   nofun
   refine⟨ha,dx2,_,rfl,hh2,zdy (by decide +kernel) (by decide +kernel),?_⟩
   nofun
   refine⟨ha,la,va,ks,cr,ws,fp,rfl,hA2,λl ns l0 pm so=>?_⟩
   have s3:=zag l0 (.lst (ns.map V.int))
   have g3:(upd H2 l (.lst (ns.map V.int))) l=some (.lst (ns.map V.int)):=zad
   generalize upd H2 l (.lst (ns.map V.int))=H3 at *
   have s03:=s2.trans s3
   have nl:=pm.length_eq
   nofun
   walk_at "q"
   nofun
   refine⟨ma,kvs,ks,rfl,s03 _ _ hma,hk.1,by omega,λtl so1 tl0 pm1 so1'=>?_⟩
   have e1:ns=so1:=zcC (pm.trans pm1.symm) so so1'
   subst e1
   have s4:=zag tl0 (.lst (ns.map V.int))
   have g4:(upd H3 tl (.lst (ns.map V.int))) tl=some (.lst (ns.map V.int)):=zad
   generalize upd H3 tl (.lst (ns.map V.int))=H4 at *
   have hl4:=s4 _ _ g3
   refine zoE (za3.mpr ⟨_,rfl,SqL.of hl4⟩) (za3.mpr ⟨_,rfl,SqL.of g4⟩) (di _) ?_
   rw[zcw]
   nofun
   refine zgP (.lst hl4) zfP ?_
   nofun
   refine⟨tyL hl4,?_⟩
   nofun
   refine zlV hl4 (zbl (by rw[zlm];omega)) ?_
   nofun
   exact⟨_,_,rfl,(s03.trans s4).put (s2.free l0)⟩
  ·rintro σ H1 ⟨x2,x3,rfl,s1⟩
   exact hN _ _ ⟨x2,x3,rfl,s1⟩
 obtain⟨x2,x3,rfl,s1⟩:=hM
 have hA1:=hA.same s1
 obtain⟨dx1,hh1⟩:=hA1.ins
 nofun
 walk_at "q"
 nofun
 refine⟨ha,dx1,_,rfl,hh1,zdy (by decide +kernel) (by decide +kernel),?_⟩
 nofun
 refine⟨ha,la,va,ks,cr,ws,fp,rfl,hA1,λca H2 kvf ns F s12 ca0 hca pm so hkf f0 fnd fdj=>?_⟩
 have s2:=s1.trans s12
 have nl:=pm.length_eq
 nofun
 walk_at "q"
 nofun
 refine zgP (.dK hca) zfP ?_
 nofun
 refine⟨ca,kvf,ns,rfl,hca,hkf.1,by omega,λtl so1 tl0 pm1 so1'=>?_⟩
 have e1:ns=so1:=zcC pm1.symm so so1'
 subst e1
 have s3:=zag tl0 (.lst (ns.map V.int))
 have g3:(upd H2 tl (.lst (ns.map V.int))) tl=some (.lst (ns.map V.int)):=zad
 generalize upd H2 tl (.lst (ns.map V.int))=H3 at *
 nofun
 refine⟨ma,kvs,ks,rfl,(s2.trans s3) _ _ hma,hk.1,by omega,λtm so2 tm0 pm2 so2'=>?_⟩
 have e2:ns=so2:=zcC (pm.trans pm2.symm) so so2'
 subst e2
 have s4:=zag tm0 (.lst (ns.map V.int))
 have g4:(upd H3 tm (.lst (ns.map V.int))) tm=some (.lst (ns.map V.int)):=zad
 generalize upd H3 tm (.lst (ns.map V.int))=H4 at *
 refine zoE (za3.mpr ⟨_,rfl,SqL.of (s4 _ _ g3)⟩) (za3.mpr ⟨_,rfl,SqL.of g4⟩) (di _) ?_
 rw[zcw]
 have s24:=s3.trans s4
 have s04:=s2.trans s24
 nofun
 with_reducible refine zem (λσ H'=>E3 λx5 x6 x7=>σ=[some (.ref ha),some (.ref ma),x2,x3,some (.ref ca),x5,x6,x7]/\Same H H') (λNX hN=>?_) (λσ H' hM=>?_)
 ·nofun
  refine⟨ma,kvs,ks,rfl,s04 _ _ hma,hk.1,by omega,λtn so3 tn0 pm3 so3'=>?_⟩
  have e3:ns=so3:=zcC (pm.trans pm3.symm) so so3'
  subst e3
  have s5:=zag tn0 (.lst (ns.map V.int))
  have g5:(upd H4 tn (.lst (ns.map V.int))) tn=some (.lst (ns.map V.int)):=zad
  generalize upd H4 tn (.lst (ns.map V.int))=H5 at *
  have s25:=s24.trans s5
  have tnF:∀ m∈ns,tn∉F m:=λm hm z=>by
   obtain⟨v,_,p,_,hC⟩:=hkf.2.2 m hm
   obtain⟨o,ho⟩:=hC.has tn z
   rw[s24 _ _ ho] at tn0;cases tn0
  have tnc:tn≠ca:=λz=>by rw[z,s24 _ _ hca] at tn0;cases tn0
  refine⟨tn,rfl,⟨_,SqL.of g5⟩,?_⟩
  refine zeB (xs:=ns.map V.int) (λi σ H'=>E4 λx5 x6 x7 kvf=>A5 (σ=[some (.ref ha),some (.ref ma),x2,x3,some (.ref ca),x5,x6,x7]) (Same H H') (H' tn=some (.lst (ns.map V.int))) (H' ca=some (.dK kvf)) (KVs (λm v=>∃ p,v=.ref p/\zbr (C 0) H' p (cr m) (F m)) kvf (ns.drop i))) ⟨none,none,none,kvf,rfl,s2.trans s25,g5,s25 _ _ hca,by rw[List.drop_zero];exact hkf.mono λm v ⟨p,e,z⟩=>⟨p,e,z.same s25⟩⟩ (λi σ H' _ ⟨_,_,_,_,_,_,g,_,_⟩=>SqL.of g) ?_ ?_
  ·rintro i v σ H6 hv ⟨x5,x6,x7,kvf6,rfl,s6,gt6,hca6,hk6⟩
   rw[zgm] at hv
   obtain⟨n,en,rfl⟩:=zme.mp hv
   have nn:n∈ns:=zmg en
   have nk:n∈ks:=pm.mem_iff.mp nn
   have dr:=zo0 en
   have nnd:ns.Nodup:=hkf.2.1
   have n1:n∉ns.drop (i+1):=λz=>by
    have:=hk6.2.1
    rw[dr] at this
    exact (List.nodup_cons.mp this).1 z
   obtain⟨v6,ev6,p,rfl,hC⟩:=hk6.2.2 n (by rw[dr];exact List.mem_cons_self)
   obtain⟨mv,em,hm⟩:=hk.2.2 n nk
   obtain⟨mp,rfl⟩:∃ mp,mv=.ref mp:=by
    unfold crD Rep at hm
    obtain⟨a,_,e,_⟩:=hm
    exact⟨a,e⟩
   have rt:=hA.rt n nk
   obtain⟨dx,w1,w2,w3,w4,f,ef,hp,hf⟩:=hC
   obtain⟨a1,a2,a3,a4,xs1,xs2,dvs,nvs,f1,f2,f3,f4,ew,rfl,A⟩:=zgz hf
   cases ew
   have fnd':=fnd n nn
   rw[ef] at fnd'
   obtain⟨⟨n13,n14,_,_,n34⟩,nc4⟩:=zqw (List.nodup_cons.mp fnd').2
   nofun
   walk_at "q"
   nofun
   refine⟨ca,.ref p,rfl,by rw[<-ev6];exact DGet.k (k:=.inl n) hca6,?_⟩
   nofun
   refine⟨ma,.ref mp,rfl,by rw[<-em];exact DGet.k (k:=.inl n) (s6 _ _ hma),?_⟩
   nofun
   walk_at "q"
   nofun
   refine⟨p,(C 0),dx,_,rfl,hp,?_⟩
   nofun
   walk_at "q"
   nofun
   refine⟨p,(C 0),dx,_,_,rfl,hp,Z.c_Craft,Z.n_Craft_needs,zbH _ _ _ _,?_⟩
   nofun
   refine⟨p,(C 0),dx,_,_,rfl,hp,Z.c_Craft,Z.n_Craft_leaves,zbm _ _ _ _,?_⟩
   nofun
   refine⟨p,(C 0),dx,_,_,rfl,hp,Z.c_Craft,Z.n_Craft_deeds,zbq _ _ _ _,?_⟩
   nofun
   refine⟨p,(C 0),dx,_,_,rfl,hp,Z.c_Craft,Z.n_Craft_notes,zbI _ _ _ _,?_⟩
   nofun
   refine dspL λl7 H7 s7 g7=>?_
   nofun
   have A7:=A.same s7
   have hp7:=s7 _ _ hp
   refine zoE (A7.rep g7) (Rep.same (s6.trans s7) _ hm) (zqv rt.nine.d9) ?_
   rw[zcw]
   nofun
   walk_at "q"
   nofun
   refine⟨p,(C 0),dx,_,_,rfl,hp7,Z.c_Craft,Z.n_Craft_needs,zbH _ _ _ _,?_⟩
   nofun
   refine⟨p,(C 0),dx,_,_,rfl,hp7,Z.c_Craft,Z.n_Craft_leaves,zbm _ _ _ _,?_⟩
   nofun
   refine⟨p,(C 0),dx,_,_,rfl,hp7,Z.c_Craft,Z.n_Craft_deeds,zbq _ _ _ _,?_⟩
   nofun
   refine⟨p,(C 0),dx,_,_,rfl,hp7,Z.c_Craft,Z.n_Craft_notes,zbI _ _ _ _,?_⟩
   nofun
   have M7:=zmy rt A7
   refine⟨a1,a2,a3,a4,_,rfl,M7.le (by decide),λH8 m8=>?_⟩
   have kp:∀ {b o},H7 b=some o->¬ is9 H7 b->H8 b=some o:=λe z=>m8.off _ _ (λw=>z w.2) e
   have hp8:=kp hp7 λ⟨_,_,e⟩=>by rw[hp7] at e;cases e
   have a18:=kp A7.e1 (A7.no1 rt)
   have a38:=kp A7.e3 (A7.no3 rt)
   have a48:=kp A7.e4 (A7.no4 rt)
   obtain⟨c0,ys,r,rfl,hc0,c0f,yl,c09⟩:=A7.first rt
   have c08:=kp hc0 c09
   obtain⟨_,_,n3c,n4c⟩:=nc4 c0 c0f
   have n1c:=(nc4 c0 c0f).1
   have ca8:=m8.off _ _ (λw=>by
    obtain⟨l,_,e⟩:=w.2
    rw[s7 _ _ hca6] at e;cases e) (s7 _ _ hca6)
   have l1:=A7.r1.length
   have l3:=A7.r3.length
   rw[zlm] at l1 l3
   obtain⟨p1,_,p3,_⟩:=rt.parts
   nofun
   walk_at "q"
   nofun
   refine⟨p,(C 0),dx,_,_,rfl,hp8,Z.c_Craft,Z.n_Craft_needs,zbH _ _ _ _,?_⟩
   refine⟨tyL a18,?_⟩
   nofun
   refine dspL λz0 H9 s9 g9=>?_
   nofun
   refine zgA g9 λz H10 s10 _ g10=>?_
   have s810:=s9.trans s10
   nofun
   refine zlV (s810 _ _ a18) (zbl (by omega)) ?_
   have o11:OffP (λb=>b∈F n\/b=ca) H10 (upd H10 a1 (.lst (xs1++[.ref z]))):=OffP.upd (.inl (by rw[ef];unfold fL;simp))
   have t11:Tups H10 (upd H10 a1 (.lst (xs1++[.ref z]))):=zcn (s810 _ _ a18)
   have hp11:(upd H10 a1 (.lst (xs1++[.ref z]))) p=_:=(zam (zgN (s810 _ _ hp8) (s810 _ _ a18) (by intro w;cases w))).trans (s810 _ _ hp8)
   have a311:(upd H10 a1 (.lst (xs1++[.ref z]))) a3=_:=(zam n13.symm).trans (s810 _ _ a38)
   have a411:(upd H10 a1 (.lst (xs1++[.ref z]))) a4=_:=(zam n14.symm).trans (s810 _ _ a48)
   have c011:(upd H10 a1 (.lst (xs1++[.ref z]))) c0=_:=(zam n1c.symm).trans (s810 _ _ c08)
   have ca11:(upd H10 a1 (.lst (xs1++[.ref z]))) ca=_:=(zam (zgN (s810 _ _ ca8) (s810 _ _ a18) (by intro w;cases w))).trans (s810 _ _ ca8)
   generalize upd H10 a1 (.lst (xs1++[.ref z]))=H11 at *
   nofun
   walk_at "q"
   nofun
   refine⟨p,(C 0),dx,_,_,rfl,hp11,Z.c_Craft,Z.n_Craft_notes,zbI _ _ _ _,?_⟩
   nofun
   refine zbE (SqL.of a411) (v:=.ref c0) zbt ?_
   refine⟨tyL c011,?_⟩
   nofun
   refine dspL λz2 H12 s12' g12=>?_
   nofun
   refine zgA g12 λz' H13 s13 _ g13=>?_
   have s1113:=s12'.trans s13
   nofun
   refine zlV (s1113 _ _ c011) (zbl (by omega)) ?_
   have o14:OffP (λb=>b∈F n\/b=ca) H13 (upd H13 c0 (.lst (ys++[.ref z']))):=OffP.upd (.inl (by rw[ef];unfold fL;simp[c0f]))
   have t14:Tups H13 (upd H13 c0 (.lst (ys++[.ref z']))):=zcn (s1113 _ _ c011)
   have hp14:(upd H13 c0 (.lst (ys++[.ref z']))) p=_:=(zam (zgN (s1113 _ _ hp11) (s1113 _ _ c011) (by intro w;cases w))).trans (s1113 _ _ hp11)
   have a314:(upd H13 c0 (.lst (ys++[.ref z']))) a3=_:=(zam n3c).trans (s1113 _ _ a311)
   have ca14:(upd H13 c0 (.lst (ys++[.ref z']))) ca=_:=(zam (zgN (s1113 _ _ ca11) (s1113 _ _ c011) (by intro w;cases w))).trans (s1113 _ _ ca11)
   generalize upd H13 c0 (.lst (ys++[.ref z']))=H14 at *
   nofun
   walk_at "q"
   nofun
   refine⟨p,(C 0),dx,_,_,rfl,hp14,Z.c_Craft,Z.n_Craft_deeds,zbq _ _ _ _,?_⟩
   refine⟨tyL a314,?_⟩
   nofun
   refine i_pop a314 (y:=dvs[dvs.length - 1]'(by omega)) (List.getElem?_eq_getElem _) ?_
   have o15:OffP (λb=>b∈F n\/b=ca) H14 (upd H14 a3 (.lst dvs.dropLast)):=OffP.upd (.inl (by rw[ef];unfold fL;simp))
   have t15:Tups H14 (upd H14 a3 (.lst dvs.dropLast)):=zcn a314
   have ca15:(upd H14 a3 (.lst dvs.dropLast)) ca=_:=(zam (zgN ca14 a314 (by intro w;cases w))).trans ca14
   generalize upd H14 a3 (.lst dvs.dropLast)=H15 at *
   nofun
   refine⟨ca,rfl,.inl ⟨_,.inl ca15⟩,?_⟩
   nofun
   refine⟨kvf6,.inl n,_,ca15,rfl,ev6,?_⟩
   have o16:OffP (λb=>b∈F n\/b=ca) H15 (upd H15 ca (.dK (zbZ kvf6 (.inl n)))):=OffP.upd (.inr rfl)
   have t16:Tups H15 (upd H15 ca (.dK (zbZ kvf6 (.inl n)))):=zj4 λxs w=>by rw[ca15] at w;cases w
   have oz:OffP (λb=>b∈F n\/b=ca) H6 (upd H15 ca (.dK (zbZ kvf6 (.inl n)))):=
    (OffP.same s7).trans ((OffP.mono (OffP.mt m8) λb hb=>.inl (by rw[ef];exact List.mem_cons_of_mem _ hb.1)).trans ((OffP.same s810).trans (o11.trans ((OffP.same s1113).trans (o14.trans (o15.trans o16))))))
   have tz:Tups H6 (upd H15 ca (.dK (zbZ kvf6 (.inl n)))):=s7.tups.trans ((m8.tups M7.on).trans (s810.tups.trans (t11.trans (s1113.tups.trans (t14.trans (t15.trans t16))))))
   have fr:∀ b,b∈F n\/b=ca->H b=none:=λb hb=>by
    rcases hb with hb | rfl
    ·exact s1.free (f0 n nn b hb)
    ·exact s1.free ca0
   have dk:=hk6.drop (m:=n)
   have fe:(ns.drop i).filter (λk=>decide (k≠n))=ns.drop (i+1):=by
    rw[dr,List.filter_cons,if_neg (by simp),List.filter_eq_self]
    intro k hk
    exact decide_eq_true λw=>n1 (w ▸ hk)
   rw[fe] at dk
   nofun
   refine⟨_,_,_,_,rfl,oz.young s6 fr,oz _ _ (λw=>w.elim (tnF n nn) tnc) gt6,zad,dk.1,dk.2.1,λk hk'=>?_⟩
   obtain⟨v,ev,p',e',hC'⟩:=dk.2.2 k hk'
   have kn:k∈ns:=List.mem_of_mem_drop hk'
   have knn:k≠n:=λw=>n1 (w ▸ hk')
   refine⟨v,ev,p',e',hC'.frame tz λb hb o ho=>oz _ _ (λw=>?_) ho⟩
   rcases w with w | w
   ·exact fdj k kn n nn knn b hb w
   ·obtain⟨o',ho',nd'⟩:=hC'.hasN b hb
    rw[w,hca6] at ho'
    cases ho'
    exact nd' _ rfl
  ·rintro σ H6 ⟨x5,x6,x7,kvf6,rfl,s6,gt6,hca6,hk6⟩
   exact hN _ _ ⟨x5,x6,x7,rfl,s6⟩
 obtain⟨x5,x6,x7,rfl,s6⟩:=hM
 nofun
 exact q _ s6
inductive Q6f (K:Fg)(vs:List V)(H:Hp)(Q:VK)(E:XK):Prop
 | mk (a:Addr) (ns:List Int):vs=[.ref a]->SqL K H a (ns.map V.int)->ns.length<=63->(∀ H',Q (.bl true) H')->Q6f K vs H Q E
include B Z in
theorem zqA (M_Hall:Mkr P w K mg b8 "Hall" (C 7) ["self"] 1 (Q3f K C))(Q5b:Fn P w K mg b8 "_law_cell_at" ["script","k"] 1 (Q5a K))(Q5d:Fn P w K mg b8 "_law_mix" ["cell","k","many"] 1 (Q5c K))(Q67:Fn P w K mg b8 "_law_parts_by" ["script","start","count"] 5 (Q66 K))(G_l_spoilt:Fn P w K mg b8 "_law_spoilt" ["parts","cell"] 1 (Q68 K))(M_Craft:Mkr P w K mg b8 "Craft" (C 0) ["self","needs","leaves","deeds","notes"] 2 (Q6 K C))(Q6a:Fn P w K mg b8 "_law_refused" ["hall","number","craft","way"] 9 (Q69 K C))(Q6c:Fn P w K mg b8 "_law_marred" ["needs","leaves","deeds","notes"] 1 (Q6b K))(Q6e:Fn P w K mg b8 "_law_same" ["hall","model"] 6 (Q6d K C))(Q43:Mth (CX1 P w) P w K mg b8 (C 7) "tear" ["self","number"] 4 (Q42 K C))(Q41:Mth (CX1 P w) P w K mg b8 (C 7) "lay" ["self","number","craft"] 8 (Q40 K C))(F:Fun K "law" "law" zjc f fd):FnOk P w K mg b8 CX0 10 f fd ["script"] (Q6f K):=by
 refine F.ok (k:=9) zcR (λvs H Q E h=>?_) (λcdv A outer s H vs Q E hr h=>?_)
 ·obtain⟨a,ns,rfl,_⟩:=h
  rfl
 obtain⟨a,cs,rfl,hS,hl,q⟩:=h
 refine⟨_,(zae (zau (i:=1) zcR.nd rfl (Or.inl rfl) (zqj M_Hall hr rfl))
   (zae (zau (i:=2) zcR.nd rfl (Or.inl rfl) zfN)
   (zae (zci PassesOwn.never rfl (zbs rfl B.range (zaP (zat (zaF K) zac (zat zcK (zak Q5b hr rfl (zaa (pv 0) (zaj zac zab))) zac)) zab)) (zas (i:=3) zcR.nd rfl (Or.inl rfl)) (zae (zau (i:=4) zcR.nd rfl (Or.inl rfl) (zak Q5b hr rfl (zaa (pv 0) (zaP (zat (zaF K) zac (zat zaV zac (pv 3))) zab))))
   (zae (zau (i:=5) zcR.nd rfl (Or.inl rfl) (zak Q5d hr rfl (zay (zak Q5b hr rfl (zaa (pv 0) (zaj zac zab))) (zaP (zat zcK (pv 4) zac) (zaj zac zab)))))
   (zae (za2 (zaz (k_eq K hr) (zat zcK (zat zcZ (pv 4) zac) zac) zac (zaw _)) (zai (zau (i:=5) zcR.nd rfl (Or.inl rfl) (zat zcK (zat zcZ (pv 4) zac) zac))) zav)
   (zae (zau (i:=6) zcR.nd rfl (Or.inl rfl) (zat (zaF K) zac (zat zcK (zak Q5b hr rfl (zaa (pv 0) (zaP (zat (zaF K) zac (zat zaV zac (pv 3))) zab))) zac)))
   (zae (zau (i:=7) zcR.nd rfl (Or.inl rfl) (zak Q67 hr rfl (zaa (pv 0) (zaP (zat (zaF K) zac (zat zaV zac (pv 3))) (zaa (pv 6) zab)))))
   (zae (zau (i:=8) zcR.nd rfl (Or.inl rfl) (zak Q67 hr rfl (zaa (pv 0) (zaP (zat (zaF K) zac (zat zaV zac (pv 3))) (zaa (pv 6) zab)))))
   (zae (za2 (zg8 (zf5 (hr_u hr) (pv 5) (pv 2))) (zai (zci PassesOwn.never rfl (zaT K (zaE (zaj zac (zaj zac (zaj zac zab))))) (zas (i:=9) zcR.nd rfl (Or.inl rfl)) (zai (za2 (zdD (zbP (zak Q6a hr rfl (zaa (pv 1) (zaa (pv 5) (zaj zfx (zaa (pv 9) zab))))))) (zai (zan zdr)) zav)))) zav)
   (zae (za2 (zaz (k_eq K hr) (zat zcK (zat zcZ (pv 4) zac) zac) zac (zaw _)) (zae (zau (i:=10) zcR.nd rfl (Or.inl rfl) (zak G_l_spoilt hr rfl (zaa (pv 7) (zaP (zat zcZ (pv 4) zac) zab))))
   (zae (zau (i:=11) zcR.nd rfl (Or.inl rfl) (zoJ M_Craft hr rfl (zaK (zaH (k_ix K) (pv 10) zac (λ_ _=>rfl)) (zaK (zaH (k_ix K) (pv 10) zac (λ_ _=>rfl)) (zaK (zaH (k_ix K) (pv 10) zac (λ_ _=>rfl)) (zaK (zaH (k_ix K) (pv 10) zac (λ_ _=>rfl)) zab))))))
   (zai (za2 (zdD (zbP (zak Q6a hr rfl (zaa (pv 1) (zaa (pv 5) (zaa (pv 11) (zaj zac zab))))))) (zai (zan zdr)) zav)))) (zai (za2 (PW.pt (znM (zaz (k_eq K hr) (zat zcK (zat zcZ (pv 4) zac) zac) zac (zaw _)) (zk8 (zg8 (zlD (hr_u hr) (pv 5) (pv 2)))))) (zae (za2 (zaz zjg (zdF Q43 Z.c_Hall hr zn6 (pv 1) (zaa (pv 5) zab)) zfx (zaw _)) (zai (zan zdr)) zav)
   (zai (zbd (zhH (pv 2) (pv 5) ⟨rfl,rfl,rfl,rfl⟩)))) (zae (zau (i:=11) zcR.nd rfl (Or.inl rfl) (zoJ M_Craft hr rfl (zaK (zaH (k_ix K) (pv 7) zac (λ_ _=>rfl)) (zaK (zaH (k_ix K) (pv 7) zac (λ_ _=>rfl)) (zaK (zaH (k_ix K) (pv 7) zac (λ_ _=>rfl)) (zaK (zaH (k_ix K) (pv 7) zac (λ_ _=>rfl)) zab))))))
   (zae (za2 (zaz zjg (zdF Q41 Z.c_Hall hr zn6 (pv 1) (zaa (pv 5) (zaa (pv 11) zab))) zfx (zaw _)) (zai (zan zdr)) zav)
   (zae (zbd (zkz PySem.F.plainAttrs_list PySem.F.slot_list_append PySem.F.type_list_append zcu (zaU K (pv 11) rfl) (zaP (zat zaV (zaE (zaj zac zab)) zac) zab)))
   (zae (zbd (zkz PySem.F.plainAttrs_list PySem.F.slot_list_append PySem.F.type_list_append zcu (zaH (k_ix K) (zaU K (pv 11) rfl) zac (λ_ _=>rfl)) (zaP (zat zaV (zaE (zaj zac zab)) zac) zab)))
   (zae (zbd (zak Q6c hr rfl (zaO (zaU K (pv 11) rfl) (zaO (zaU K (pv 11) rfl) (zaO (zaU K (pv 11) rfl) (zaO (zaU K (pv 11) rfl) zab))))))
   (zae (zbd (zak Q6c hr rfl (zaK (zaH (k_ix K) (pv 7) zac (λ_ _=>rfl)) (zaK (zaH (k_ix K) (pv 7) zac (λ_ _=>rfl)) (zaK (zaH (k_ix K) (pv 7) zac (λ_ _=>rfl)) (zaK (zaH (k_ix K) (pv 7) zac (λ_ _=>rfl)) zab))))))
   (zai (zf6 (hr_u hr) (pv 2) (pv 5) (pv 8) rfl)))))))))))
   (zai (za2 (PW.pt (zhA (zdD (zbP (zak Q6e hr rfl (zaa (pv 1) (zaa (pv 2) zab))))) (zfY (zdD (zbP (zak Q6e hr rfl (zaa (pv 1) (zaa (pv 2) zab)))))))) (zai (zan zdr)) zav)))))))))))
   (zai (zan zdr))))),?_⟩
 walk_at "q"
 nofun
 intro ha dx ha0 dx0 ndx
 refine⟨ha,dx,rfl,zad,λla va H1 la0 va0 nlv o1 h1 h2 h3=>⟨rfl,?_⟩⟩
 have s1:Same H H1:=zmx ha0 dx0 o1
 have hA0:HAt (C 7) (C 0) H1 ha la va [] (λ_=>⟨[],[],[],[]⟩) [] []:=HAt.start h1 h2 h3 nlv
 have hS1:=s1.seq hS
 nofun
 walk_at "q"
 nofun
 intro ma hma
 have s3:=zag hma (.dK [])
 have g3:(upd H1 ma (.dK [])) ma=some (.dK []):=zad
 have nla:ma≠la:=λz=>by rw[z,h2] at hma;cases hma
 have nva:ma≠va:=λz=>by rw[z,h3] at hma;cases hma
 generalize upd H1 ma (.dK [])=H2 at *
 have hA2:=hA0.same s3
 have hS2:=s3.seq hS1
 clear hA0 hS1 h1 h2 h3 o1 hma
 nofun
 with_reducible refine zem (λσ H'=>True) (λNX hN=>?_) (λσ H' hM=>?_)
 ·nofun
  refine zfG hS2 (by decide) ?_
  have c0:=Int.emod_nonneg (cell cs 0) (show (12:Int)≠0 by decide)
  have c1:=Int.emod_lt_of_pos (cell cs 0) (show (0:Int)<12 by decide)
  nofun
  generalize hcnt:1+cell cs 0 % 12=cnt
  refine zch (by omega) (by omega) ?_
  refine zhL (λi σ H'=>E13 λx3 x4 x5 x6 x7 x8 x9 x10 x11 ks cr fp kvs=>A6 (σ=[some (.ref a),some (.ref ha),some (.ref ma),x3,x4,x5,x6,x7,x8,x9,x10,x11]) (NoD H2 H') (HAt (C 7) (C 0) H' ha la va ks cr [] fp) (H' ma=some (.dK kvs)) (KVs (λm v=>Rep K H' (crD (cr m)) v) kvs ks) (ks.length<=i)) ⟨none,none,none,none,none,none,none,none,none,[],_,[],[],rfl,(Same.refl _).nod,hA2,g3,KVs.nil,by simp⟩ ?_ ?_
  ·rintro i σ H4 hi ⟨x3,x4,x5,x6,x7,x8,x9,x10,x11,ks,cr,fp,kvs,rfl,d4,hA4,hma4,hk4,kl4⟩
   have hS4:=d4.sq.lst hS2
   nofun
   walk_at "q"
   nofun
   refine zfG hS4 (by omega) ?_
   nofun
   generalize cell cs (1+4 * (0+(i:Int)))=c1'
   walk_at "q"
   nofun
   refine zfG hS4 (by decide) ?_
   nofun
   refine zeI (by decide) ?_
   have m0:0<=mix (cell cs 49) (c1' % 4) 100:=zba (by decide)
   have m1:mix (cell cs 49) (c1' % 4) 100<100:=zda (by decide)
   generalize mix (cell cs 49) (c1' % 4) 100=n1 at *
   nofun
   with_reducible refine zem (λσ H'=>∃ n,A4 (σ=[some (.ref a),some (.ref ha),some (.ref ma),some (.int (0+(i:Int))),some (.int c1'),some (.int n),x6,x7,x8,x9,x10,x11]) (H4=H') (0<=n) (n<100)) (λNX hN=>?_) (λσ H' hM=>?_)
   ·nofun
    refine ite2 (λe=>?_) (λe=>?_)
    ·nofun
     exact hN _ _ ⟨_,rfl,rfl,Int.emod_nonneg _ (by decide),Int.emod_lt_of_pos _ (by decide)⟩
    ·nofun
     exact hN _ _ ⟨n1,rfl,rfl,m0,m1⟩
   obtain⟨n,rfl,rfl,n0,n100⟩:=hM
   have hn:n.natAbs<zbv:=by unfold zbv;omega
   nofun
   walk_at "q"
   nofun
   refine zfG hS4 (by omega) ?_
   have t0:=Int.emod_nonneg (cell cs (2+4 * (0+(i:Int)))) (show (3:Int)≠0 by decide)
   have t1:=Int.emod_lt_of_pos (cell cs (2+4 * (0+(i:Int)))) (show (0:Int)<3 by decide)
   nofun
   generalize hcn:1+cell cs (2+4 * (0+(i:Int))) % 3=cn at *
   walk_at "q"
   nofun
   refine⟨a,_,cn,cs,rfl,hS4,by omega,by omega,by omega,λv5 H5 s5 n5=>?_⟩
   nofun
   walk_at "q"
   nofun
   refine⟨a,_,cn,cs,rfl,s5.seq hS4,by omega,by omega,by omega,λv6 H6 s6 n6=>?_⟩
   rw[<-crP_D] at n5 n6
   have rt:=zqu (ns:=cs) (start:=3+4 * (0+(i:Int))) (count:=cn) (by omega) (by omega)
   generalize crP cs (3+4 * (0+(i:Int))) cn=c at *
   obtain⟨pf,pR,_,pfr⟩:=n5
   obtain⟨kf,kR,_,kfr⟩:=n6
   unfold crD RepF at pR
   obtain⟨pa,pxs,pr,rfl,rfl,hpa,pR⟩:=pR
   obtain⟨b1,b2,b3,b4,ys1,ys2,pdv,pnv,g1,g2,g3',g4,rfl,rfl,B⟩:=zgz pR
   have s46:=s5.trans s6
   nofun
   with_reducible refine zem (λσ H'=>∃ x9,σ=[some (.ref a),some (.ref ha),some (.ref ma),some (.int (0+(i:Int))),some (.int c1'),some (.int n),some (.int cn),some (.ref pa),some v6,x9,x10,x11]/\Same H6 H') (λNX hN=>?_) (λσ H7 hM=>?_)
   ·nofun
    refine⟨ma,_,rfl,DGet.k (k:=.inl n) (s46 _ _ hma4),?_⟩
    by_cases hm:n∈ks
    ·obtain⟨v,ev,_⟩:=hk4.2.2 n hm
     rw[ev]
     dsimp only[Option.isSome,Bool.not_true]
     nofun
     exact hN _ _ ⟨x9,rfl,Same.refl _⟩
    ·rw[hk4.no hm]
     dsimp only[Option.isSome,Bool.not_false]
     nofun
     refine⟨(by walk_at "sm"),λwl hwl=>?_⟩
     have s7:=zag hwl (.lst [V.int 1,.int 2,.int 3])
     have g7:(upd H6 wl (.lst [V.int 1,.int 2,.int 3])) wl=some (.lst [V.int 1,.int 2,.int 3]):=zad
     generalize upd H6 wl (.lst [V.int 1,.int 2,.int 3])=H7 at *
     refine⟨wl,rfl,⟨_,SqL.of g7⟩,?_⟩
     refine zeB (xs:=[V.int 1,.int 2,.int 3]) (λj σ H'=>∃ x9,A3 (σ=[some (.ref a),some (.ref ha),some (.ref ma),some (.int (0+(i:Int))),some (.int c1'),some (.int n),some (.int cn),some (.ref pa),some v6,x9,x10,x11]) (Same H6 H') (H' wl=some (.lst [V.int 1,.int 2,.int 3]))) ⟨x9,rfl,s7,g7⟩ (λj σ H' _ ⟨_,_,_,g⟩=>SqL.of g) ?_ ?_
     ·rintro j v σ H8 hv ⟨x9',rfl,s8,g8⟩
      obtain⟨w,rfl,hw⟩:∃ w,v=.int w/\(w=1\/w=2\/w=3):=by
       match j,hv with
       | 0,hv=>cases hv;exact⟨1,rfl,.inl rfl⟩
       | 1,hv=>cases hv;exact⟨2,rfl,.inr (.inl rfl)⟩
       | 2,hv=>cases hv;exact⟨3,rfl,.inr (.inr rfl)⟩
       | j+3,hv=>simp at hv
      nofun
      refine⟨ha,la,va,n,w,.non,ks,cr,[],fp,rfl,hA4.same (s46.trans s8),hn,.inr ⟨hm,hw⟩,λH9 s9=>?_⟩
      nofun
      exact⟨_,rfl,s8.trans s9,s9 _ _ g8⟩
     ·rintro σ H8 ⟨x9',rfl,s8,g8⟩
      exact hN _ _ ⟨x9',rfl,s8⟩
   obtain⟨x9',rfl,s67⟩:=hM
   have s47:=s46.trans s67
   have hA7:=hA4.same s47
   have hma7:=s47 _ _ hma4
   have hk7:=hk4.mono (P':=λm v=>Rep K H7 (crD (cr m)) v) λm v z=>Rep.same s47 _ z
   have B7:=B.same (s6.trans s67)
   have hpa7:=(s6.trans s67) _ _ hpa
   have hla7:=hA7.laid
   have hva7:=hA7.vou
   obtain⟨dx7,hh7⟩:=hA7.ins
   nofun
   with_reducible refine zem (λσ H'=>E6 λx10 x11 ks cr fp kvs=>A6 (σ=[some (.ref a),some (.ref ha),some (.ref ma),some (.int (0+(i:Int))),some (.int c1'),some (.int n),some (.int cn),some (.ref pa),some v6,x9',x10,x11]) (NoD H4 H') (HAt (C 7) (C 0) H' ha la va ks cr [] fp) (H' ma=some (.dK kvs)) (KVs (λm v=>Rep K H' (crD (cr m)) v) kvs ks) (ks.length<=i+1)) (λNX hN=>?_) (λσ H8 hM=>?_)
   ·nofun
    refine ite2 (λe=>?_) (λe=>?_)
    ·nofun
     walk_at "q"
     nofun
     refine⟨pa,_,c,rfl,⟨_,_,b3,b4,pdv,pnv,hpa7,B7.rn,B7.rl,B7.e3,B7.dd rt.nine.d9,B7.e4,B7.nt⟩,rt,λta c' H8 s8 hP8 nine' hr'=>?_⟩
     obtain⟨y1,y2,d3,d4',dvs',nvs',hta,r1,r2,e3,dd3,e4,nn4⟩:=hP8
     nofun
     walk_at "q"
     nofun
     refine zbE (SqL.of hta) (v:=y1) zbt ?_
     nofun
     refine zbE (SqL.of hta) (v:=y2) (zaA (j:=1) rfl) ?_
     nofun
     refine zbE (SqL.of hta) (v:=.ref d3) (zaA (j:=2) rfl) ?_
     nofun
     refine zbE (SqL.of hta) (v:=.ref d4') (zaA (j:=3) rfl) ?_
     nofun
     intro p dp p0 dp0 ndp
     refine zgH (c:=c') p0 dp0 r1 r2 (SqL.of e3) (SqL.of e4) dd3 nn4 nine' λH9 f s9 hC hf fn=>⟨rfl,?_⟩
     have s79:=s8.trans s9
     nofun
     refine⟨ha,la,va,n,0,.ref p,ks,cr,[],fp,rfl,hA7.same s79,hn,.inl ⟨rfl,p,c',rfl,hC.t nine'.d9,nine',hr',.inr (by omega)⟩,λH10 s10=>?_⟩
     have sz:=s79.trans s10
     nofun
     exact hN _ _ ⟨_,_,ks,cr,fp,kvs,rfl,(s47.trans sz).nod,hA7.same sz,sz _ _ hma7,hk7.mono λm v z=>Rep.same sz _ z,by omega⟩
    ·with_reducible refine goOn (by assumption) ?_
     with_reducible refine zql λT kT U kU=>?_
     have hU:U [some (.ref a),some (.ref ha),some (.ref ma),some (.int (0+(i:Int))),some (.int c1'),some (.int n),some (.int cn),some (.ref pa),some v6,x9',x10,x11] H7:=by
      with_reducible refine goOn kU ?_
      walk_at "q"
      nofun
      refine zbE (SqL.of hpa7) (v:=.ref b1) zbt ?_
      nofun
      refine zbE (SqL.of hpa7) (v:=.ref b2) (zaA (j:=1) rfl) ?_
      nofun
      refine zbE (SqL.of hpa7) (v:=.ref b3) (zaA (j:=2) rfl) ?_
      nofun
      refine zbE (SqL.of hpa7) (v:=.ref b4) (zaA (j:=3) rfl) ?_
      nofun
      intro p dp p0 dp0 ndp
      refine zgH (c:=c) p0 dp0 B7.rn B7.rl (SqL.of B7.e3) (SqL.of B7.e4) (B7.dd rt.nine.d9) B7.nt rt.nine λH8 f s8 hC hf fn=>⟨rfl,?_⟩
      have hA8:=hA7.same s8
      obtain⟨dx8,hh8⟩:=hA8.ins
      nofun
      walk_at "q"
      nofun
      refine⟨ha,dx8,_,rfl,hh8,zdy (by decide +kernel) (by decide +kernel),?_⟩
      nofun
      refine⟨ha,la,va,p,n,ks,cr,[],fp,c,rfl,hA8,hC.t rt.nine.d9,rt.nine,hn,.inr (by omega),λz=>(by rw[rt.r] at z;cases z),λ_ H9 ks' ws' fp' o9 hA9 hks' hksa hksb hws' hfp'=>?_⟩
      have w0:ws'=[]:=List.eq_nil_iff_forall_not_mem.mpr λm hm=>by
       have:=((hws' m).mp hm).1
       cases this
      subst w0
      have ek:ks'=if n∈ks then ks else ks++[n]:=by
       by_cases z:n∈ks
       ·rw[if_pos z];exact hksa z
       ·rw[if_neg z];exact hksb z
      refine⟨rfl,?_⟩
      rw[decide_eq_true rfl]
      have d9:=o9.nod λb hb=>(by
       simp only[List.mem_cons,List.not_mem_nil,or_false] at hb
       rcases hb with rfl | rfl
       ·exact⟨_,s8 _ _ hla7.choose_spec.1⟩
       ·exact⟨_,s8 _ _ hva7.choose_spec.1⟩)
      obtain⟨dxc,w1,w2,w3,w4,ff,ef,hp9,hf9⟩:=hC.nod d9
      obtain⟨a1,a2,a3,a4,xs1,xs2,dvs,nvs,f1,f2,f3,f4,ew,rfl,A⟩:=zgz hf9
      cases ew
      subst ef
      obtain⟨⟨_,_,n23,n24,_⟩,nc4⟩:=zqw (List.nodup_cons.mp fn).2
      obtain⟨c0',ys,r,rfl,hc0,c0f,yl,c09⟩:=A.first rt
      obtain⟨_,n2c,n3c,n4c⟩:=nc4 c0' c0f
      obtain⟨p1,p2,p3,_⟩:=rt.parts
      have l2:=A.r2.length
      rw[zlm] at l2
      nofun
      walk_at "q"
      nofun
      refine⟨p,(C 0),dxc,_,_,rfl,hp9,Z.c_Craft,Z.n_Craft_leaves,zbm _ _ _ _,?_⟩
      refine⟨tyL A.e2,?_⟩
      nofun
      refine dspL λz0 H10 s10 g10=>?_
      nofun
      refine zgA g10 λz1 H11 s11 z1n g11=>?_
      have s911:=s10.trans s11
      have z19:H9 z1=none:=s10.free z1n
      have nz1:∀ {b o},H9 b=some o->b≠z1:=λe w=>by rw[w,z19] at e;cases e
      have M9:=zmy rt A
      have M11:=M9.mono (S':=λb=>(b∈fL a1 a2 a3 a4 f1 f2 f3 f4/\is9 H9 b)\/b=z1) s911 (λb h=>.inl h) (λb hb=>hb.elim (λh=>h.2.same s911) (λh=>by rw[h];exact zkk g11))
      nofun
      refine zlV (s911 _ _ A.e2) (zbl (by omega)) ?_
      have M12:=M11.grow (s911 _ _ A.e2) (λh=>h.elim (λh=>A.no2 rt h.2) (nz1 A.e2)) (.inr rfl) n23.symm n24.symm
      have o12:OffP (λb=>b∈fL a1 a2 a3 a4 f1 f2 f3 f4\/H9 b=none) H11 (upd H11 a2 (.lst (xs2++[.ref z1]))):=OffP.upd (.inl (by unfold fL;simp))
      have t12:Tups H11 (upd H11 a2 (.lst (xs2++[.ref z1]))):=zcn (s911 _ _ A.e2)
      have hp12:(upd H11 a2 (.lst (xs2++[.ref z1]))) p=_:=(zam (zgN (s911 _ _ hp9) (s911 _ _ A.e2) (by intro w;cases w))).trans (s911 _ _ hp9)
      have a412:(upd H11 a2 (.lst (xs2++[.ref z1]))) a4=_:=(zam n24.symm).trans (s911 _ _ A.e4)
      have c012:(upd H11 a2 (.lst (xs2++[.ref z1]))) c0'=_:=(zam n2c.symm).trans (s911 _ _ hc0)
      have fr12:Free H9 (upd H11 a2 (.lst (xs2++[.ref z1]))):=s911.fr.trans zeP
      generalize upd H11 a2 (.lst (xs2++[.ref z1]))=H12 at *
      nofun
      walk_at "q"
      nofun
      refine⟨p,(C 0),dxc,_,_,rfl,hp12,Z.c_Craft,Z.n_Craft_notes,zbI _ _ _ _,?_⟩
      nofun
      refine zbE (SqL.of a412) (v:=.ref c0') zbt ?_
      refine⟨tyL c012,?_⟩
      nofun
      refine dspL λz0' H13 s13 g13=>?_
      nofun
      refine zgA g13 λz2 H14 s14 z2n g14=>?_
      have s1214:=s13.trans s14
      have z29:H9 z2=none:=fr12 _ (s13.free z2n)
      have nz2:∀ {b o},H9 b=some o->b≠z2:=λe w=>by rw[w,z29] at e;cases e
      have M14:=M12.mono (S':=λb=>((b∈fL a1 a2 a3 a4 f1 f2 f3 f4/\is9 H9 b)\/b=z1)\/b=z2) s1214 (λb h=>.inl h) (λb hb=>hb.elim (λh=>(M12.on b h).same s1214) (λh=>by rw[h];exact zkk g14))
      nofun
      refine zlV (s1214 _ _ c012) (zbl (by omega)) ?_
      have M15:=M14.grow (s1214 _ _ c012) (λh=>h.elim (λh=>h.elim (λh=>c09 h.2) (nz1 hc0)) (nz2 hc0)) (.inr rfl) n3c n4c
      have o15:OffP (λb=>b∈fL a1 a2 a3 a4 f1 f2 f3 f4\/H9 b=none) H14 (upd H14 c0' (.lst (ys++[.ref z2]))):=OffP.upd (.inl (by unfold fL;simp[c0f]))
      have t15:Tups H14 (upd H14 c0' (.lst (ys++[.ref z2]))):=zcn (s1214 _ _ c012)
      have hp15:(upd H14 c0' (.lst (ys++[.ref z2]))) p=_:=(zam (zgN (s1214 _ _ hp12) (s1214 _ _ c012) (by intro w;cases w))).trans (s1214 _ _ hp12)
      generalize upd H14 c0' (.lst (ys++[.ref z2]))=H15 at *
      nofun
      walk_at "q"
      nofun
      refine⟨p,(C 0),dxc,_,_,rfl,hp15,Z.c_Craft,Z.n_Craft_needs,zbH _ _ _ _,?_⟩
      nofun
      refine⟨p,(C 0),dxc,_,_,rfl,hp15,Z.c_Craft,Z.n_Craft_leaves,zbm _ _ _ _,?_⟩
      nofun
      refine⟨p,(C 0),dxc,_,_,rfl,hp15,Z.c_Craft,Z.n_Craft_deeds,zbq _ _ _ _,?_⟩
      nofun
      refine⟨p,(C 0),dxc,_,_,rfl,hp15,Z.c_Craft,Z.n_Craft_notes,zbI _ _ _ _,?_⟩
      nofun
      refine⟨a1,a2,a3,a4,_,rfl,M15.le (by decide),λH16 m16=>?_⟩
      have o16:OffP (λb=>b∈fL a1 a2 a3 a4 f1 f2 f3 f4\/H9 b=none) H15 H16:=(OffP.mt m16).mono λb hb=>by
       rcases hb with (h | rfl) | rfl
       ·exact .inl h.1
       ·exact .inr z19
       ·exact .inr z29
      have o916:=(OffP.same s911).trans (o12.trans ((OffP.same s1214).trans (o15.trans o16)))
      have t916:=s911.tups.trans (t12.trans (s1214.tups.trans (t15.trans (m16.tups M15.on))))
      have cf7:∀ b∈fL a1 a2 a3 a4 f1 f2 f3 f4,H7 b=none:=λb hb=>hf b (List.mem_cons_of_mem _ hb)
      have B9:=(B7.same s8).nod d9
      have B16:=B9.frame t916 λb hb o ho=>o916 b o (λw=>w.elim (λw=>by
       obtain⟨xs,e⟩:=B7.isL b hb
       rw[cf7 b w] at e;cases e) λw=>by rw[w] at ho;cases ho) ho
      have hpa9:=d9 _ _ (s8 _ _ hpa7) (λ_ z=>by cases z)
      have hpa16:=o916 _ _ (λw=>w.elim (λw=>by rw[cf7 _ w] at hpa7;cases hpa7) λw=>by rw[w] at hpa9;cases hpa9) hpa9
      nofun
      walk_at "q"
      nofun
      refine zbE (SqL.of hpa16) (v:=.ref b1) zbt ?_
      nofun
      refine zbE (SqL.of hpa16) (v:=.ref b2) (zaA (j:=1) rfl) ?_
      nofun
      refine zbE (SqL.of hpa16) (v:=.ref b3) (zaA (j:=2) rfl) ?_
      nofun
      refine zbE (SqL.of hpa16) (v:=.ref b4) (zaA (j:=3) rfl) ?_
      nofun
      have MB:=zmy rt B16
      refine⟨b1,b2,b3,b4,_,rfl,MB.le (by decide),λH17 m17=>?_⟩
      have o917:OffP (λb=>(b∈fL a1 a2 a3 a4 f1 f2 f3 f4\/H9 b=none)\/b∈fL b1 b2 b3 b4 g1 g2 g3' g4) H9 H17:=(o916.mono λb h=>.inl h).trans ((OffP.mt m17).mono λb hb=>.inr hb.1)
      have t917:=t916.trans (m17.tups MB.on)
      have pf4:∀ b∈fL b1 b2 b3 b4 g1 g2 g3' g4,H4 b=none:=λb hb=>pfr b (List.mem_cons_of_mem _ hb)
      have old:∀ b,(∃ o,H4 b=some o)->¬ (b∈fL a1 a2 a3 a4 f1 f2 f3 f4)/\¬ (b∈fL b1 b2 b3 b4 g1 g2 g3' g4):=λb ⟨o,e⟩=>⟨λw=>(by
       have:=s47 _ _ e
       rw[cf7 b w] at this;cases this),λw=>(by rw[pf4 b w] at e;cases e)⟩
      have hma9:=o9 _ _ (by simp[nla,nva]) (s8 _ _ hma7)
      have hma17:=o917 _ _ (λw=>by
       rcases w with (w | w) | w
       ·exact (old ma ⟨_,hma4⟩).1 w
       ·rw[w] at hma9;cases hma9
       ·exact (old ma ⟨_,hma4⟩).2 w) hma9
      have hA17:=hA9.frame t917 λb hb o ho=>o917 b o (λw=>by
       have k1:(∃ o,H4 b=some o)\/H8 b=none:=by
        simp only[List.mem_cons] at hb
        rcases hb with h | h | h | h
        ·exact .inl (hA4.dom b (by simp[h]))
        ·exact .inl (hA4.dom b (by simp[h]))
        ·exact .inl (hA4.dom b (by simp[h]))
        ·exact (hfp' b h).imp (λh=>hA4.dom b (by simp[h])) id
       rcases w with (w | w) | w
       ·rcases k1 with k1 | k1
        ·exact (old b k1).1 w
        ·obtain⟨o',e⟩:=hC.has b (List.mem_cons_of_mem _ w)
         rw[k1] at e;cases e
       ·rw[w] at ho;cases ho
       ·rcases k1 with k1 | k1
        ·exact (old b k1).2 w
        ·obtain⟨xs,e⟩:=(B7.same s8).isL b w
         rw[k1] at e;cases e) ho
      have nd9:NoD H4 H9:=s47.nod.trans (s8.nod.trans d9)
      have nd17:=o917.nod nd9 λb w=>by
       rcases w with (w | w) | w
       ·exact s47.free (cf7 b w)
       ·cases e:H4 b with
        | none=>rfl
        | some o=>
         exfalso
         have e8:=(s47.trans s8) _ _ e
         by_cases z:b∈[la,va]
         ·obtain⟨o',e9⟩:=hA9.dom b (by
           simp only[List.mem_cons,List.not_mem_nil,or_false] at z
           rcases z with z | z <;> simp[z])
          rw[w] at e9;cases e9
         ·have:=o9 b o z e8
          rw[w] at this;cases this
       ·exact pf4 b w
      have kR9:=RepF.sq d9.sq _ (RepF.sm (s67.trans s8) kR)
      have kR17:=RepF.frame t917 _ (λb hb=>by
       obtain⟨o6,e6⟩:=RepF.has _ kR b hb
       obtain⟨o,e9⟩:=RepF.has _ kR9 b hb
       rw[e9]
       refine o917 b o (λw=>?_) e9
       rcases w with (w | w) | w
       ·have:=s67 _ _ e6
        rw[cf7 b w] at this;cases this
       ·rw[w] at e9;cases e9
       ·obtain⟨xs,e⟩:=B.isL b w
        rw[kfr b hb] at e;cases e) kR9
      nofun
      refine⟨ma,_,rfl,DPut.k (k:=.inl n) hma17 (zbl (by rw[hk7.len];omega)),?_⟩
      have o18:OffA [ma] H17 (upd H17 ma (.dK (putK kvs (.inl n) v6))):=zdx (by simp)
      have d18:NoD H17 (upd H17 ma (.dK (putK kvs (.inl n) v6))):=zdw hma17
      have nd18:=nd17.trans d18
      nofun
      refine hN _ _ ⟨_,_,ks',setC cr n c,fp',_,rfl,nd18,zkj hA17 hma17 nla nva o18,zad,?_,?_⟩
      ·rw[ek]
       refine hk4.put' (by unfold setC;rw[if_pos rfl];exact Rep.sq d18.sq _ (RepF.rep _ kR17)) λk v ne z=>?_
       unfold setC
       rw[if_neg ne]
       exact Rep.sq nd18.sq _ z
      ·rw[ek]
       split
       ·omega
       ·rw[List.length_append,List.length_singleton];omega
     clear kU
     nofun
     by_cases e':c1' / 28 % 4=2
     ·rw[decide_eq_true e']
      nofun
      refine⟨ma,_,rfl,DGet.k (k:=.inl n) hma7,?_⟩
      by_cases hm:n∈ks
      ·obtain⟨gv,egv,_⟩:=hk7.2.2 n hm
       rw[egv]
       dsimp only[Option.isSome]
       nofun
       walk_at "q"
       nofun
       refine⟨ha,dx7,_,rfl,hh7,zdy (by decide +kernel) (by decide +kernel),?_⟩
       nofun
       refine⟨ha,la,va,n,ks,cr,[],fp,rfl,hA7,hn,λz=>absurd hm z,λ_ H8 ws8 o8 hA8 hw8=>?_⟩
       have w0:ws8=[]:=List.eq_nil_iff_forall_not_mem.mpr λm hm'=>by
        have:=((hw8 m).mp hm').1
        cases this
       subst w0
       refine⟨rfl,?_⟩
       rw[decide_eq_true rfl]
       have d8:=o8.nod λb hb=>(by
        simp only[List.mem_cons,List.not_mem_nil,or_false] at hb
        rcases hb with rfl | rfl
        ·exact⟨_,hla7.choose_spec.1⟩
        ·exact⟨_,hva7.choose_spec.1⟩)
       have hma8:=o8 _ _ (by simp[nla,nva]) hma7
       nofun
       refine⟨ma,rfl,.inl ⟨_,.inl hma8⟩,?_⟩
       nofun
       refine⟨kvs,.inl n,gv,hma8,rfl,egv,?_⟩
       have o9:OffA [ma] H8 (upd H8 ma (.dK (zbZ kvs (.inl n)))):=zdx (by simp)
       have d9:NoD H8 (upd H8 ma (.dK (zbZ kvs (.inl n)))):=zdw hma8
       nofun
       exact hN _ _ ⟨_,_,_,cr,fp,_,rfl,s47.nod.trans (d8.trans d9),zkj hA8 hma8 nla nva o9,zad,(hk7.mono λm v z=>Rep.sq (d8.trans d9).sq _ z).drop (m:=n),Nat.le_trans (List.length_filter_le _ _) (by omega)⟩
      ·rw[hk7.no hm]
       dsimp only[Option.isSome]
       nofun
       exact hU
     ·rw[decide_eq_false e']
      nofun
      exact hU
   obtain⟨x10',x11',ks',cr',fp',kvs',rfl,d8,hA8,hma8,hk8,kl8⟩:=hM
   nofun
   refine⟨ha,la,va,ma,ks',cr',[],fp',kvs',rfl,hA8,hma8,hk8,λH9 s9=>?_⟩
   nofun
   refine⟨ha,la,va,ma,ks',cr',[],fp',kvs',rfl,hA8.same s9,s9 _ _ hma8,hk8.mono λm v z=>Rep.same s9 _ z,λH10 s10=>?_⟩
   have sz:=s9.trans s10
   nofun
   exact⟨_,_,_,_,_,_,_,_,_,ks',cr',fp',kvs',rfl,d4.trans (d8.trans sz.nod),hA8.same sz,sz _ _ hma8,hk8.mono λm v z=>Rep.same sz _ z,kl8⟩
  ·rintro σ H4 _
   exact hN _ _ trivial
 nofun
 exact q _
end
end My
namespace My
open PySem L2 PyProof.Rows
abbrev FQ (K:Fg)(f:Addr)(x q:Str)(s:Stmt):Prop:=∃ oc od sl kV dc pm an cd ct,K.lookup f=some ⟨oc,od,.func (fnOf x q (zcU s) (zbO s) (zaf s) .none kV dc pm an cd ct),sl⟩/\codeIn K cd q=true/\keepIn K (.ref f)=true
theorem zaQ {K:Fg}{f:Addr}{x q:Str}{s:Stmt}(h:FQ K f x q s):∃ fd,Fun K x q s f fd:=by
 obtain⟨_,_,_,_,_,_,_,_,_,l,c,k⟩:=h
 exact⟨_,znX l c k⟩
abbrev NI (K:Fg)(x:Str)(f:Addr):Prop:=nsIn K mainGlobals x=some (some (.ref f))
abbrev FI (K:Fg)(C:Addr)(x:Str)(f:Addr):Prop:=findIn K (.ref C) x=some (some (.ref f))
abbrev KI (K:Fg)(f:Addr):Prop:=keepIn K (.ref f)=true
abbrev IF (K:Fg)(f:Addr):Prop:=isFn K (.ref f)=true
theorem all_mk {l:PySem.W.OpenLaw}{w:World}{K:Fg}{h:Heap}{mg:Str->Option Value}{fa:Addr}(X:K.In h)(G:h.Ns mainGlobals mg)(hfa:mg "law"=some (.ref fa))(hA:((zBoo K).all id,zSee K)=(true,zSig)) :
  ∃ fd:FuncData,(∀ (s:Shared) (v:Value),BindsTo s fd ⟨[v],[]⟩ [("script",v)])/\∀ b8:Heap,K.In b8->b8.Ns mainGlobals mg->FnOk l.prog w K mg b8 CX0 10 fa fd ["script"] (Q6f K):=by
 obtain⟨_,_,_,xa_HAND_SPOTS⟩:=L2.zke (bA hA 164 rfl)
 obtain⟨_,_,_,xa_LEFT_SPOTS⟩:=L2.zke (bA hA 166 rfl)
 obtain⟨_,_,_,xa_LEFT_AS_HANDS⟩:=L2.zke (bA hA 168 rfl)
 obtain⟨_,_,_,xa_WHOLES⟩:=L2.zke (bA hA 180 rfl)
 obtain⟨_,_,_,_,_,_,_,_,_,_,_,_,_,_,_,o1⟩:=L2.zhl (bA hA 181 rfl)
 obtain⟨_,_,_,_,_,_,_,_,_,_,_,_,_,_,_,o2⟩:=L2.zhl (bA hA 188 rfl)
 obtain⟨_,_,_,_,_,_,_,_,_,_,_,_,_,_,_,o3⟩:=L2.zhl (bA hA 195 rfl)
 obtain⟨_,_,_,_,_,_,_,_,_,_,_,_,_,_,_,o4⟩:=L2.zhl (bA hA 202 rfl)
 obtain⟨_,_,_,_,_,_,_,_,_,_,_,_,_,_,_,o5⟩:=L2.zhl (bA hA 209 rfl)
 obtain⟨_,_,_,_,_,_,_,_,_,_,_,_,_,_,_,o6⟩:=L2.zhl (bA hA 216 rfl)
 have e:=hfa.symm.trans (mg_of X G (eA hA 145 rfl))
 cases e
 have B:Bl K mg:=⟨mg_none_of X G (eA hA 147 rfl),mg_none_of X G (eA hA 148 rfl),mg_none_of X G (eA hA 149 rfl),mg_none_of X G (eA hA 150 rfl),mg_none_of X G (eA hA 151 rfl),mg_none_of X G (eA hA 152 rfl),mg_none_of X G (eA hA 153 rfl),mg_none_of X G (eA hA 154 rfl),mg_none_of X G (eA hA 155 rfl),mg_none_of X G (eA hA 156 rfl),mg_none_of X G (eA hA 157 rfl),mg_none_of X G (eA hA 158 rfl),mg_none_of X G (eA hA 159 rfl),mg_none_of X G (eA hA 160 rfl),⟨_,mg_of X G (eA hA 161 rfl)⟩,⟨_,mg_of X G (eA hA 162 rfl)⟩,⟨_,mg_of X G (eA hA 169 rfl)⟩,⟨_,mg_of X G (eA hA 170 rfl)⟩,⟨_,mg_of X G (eA hA 171 rfl)⟩,⟨_,mg_of X G (eA hA 172 rfl)⟩,⟨_,mg_of X G (eA hA 173 rfl)⟩,⟨_,mg_of X G (eA hA 174 rfl)⟩,⟨_,mg_of X G (eA hA 175 rfl)⟩,⟨_,mg_of X G (eA hA 176 rfl)⟩,⟨_,mg_of X G (eA hA 177 rfl)⟩,⟨_,mg_of X G (eA hA 178 rfl)⟩,⟨_,mg_of X G (eA hA 163 rfl),λ_=>.inr ⟨_,_,_,xa_HAND_SPOTS,rfl,rfl,zal (by simp),.cons ⟨_,rfl⟩ (.cons ⟨_,rfl⟩ (.cons ⟨_,rfl⟩ (.cons ⟨_,rfl⟩ (.nil))))⟩⟩,⟨_,mg_of X G (eA hA 165 rfl),λ_=>.inr ⟨_,_,_,xa_LEFT_SPOTS,rfl,rfl,zal (by simp),.cons ⟨_,rfl⟩ (.cons ⟨_,rfl⟩ (.nil))⟩⟩,⟨_,mg_of X G (eA hA 167 rfl),λ_=>.inr ⟨_,_,_,xa_LEFT_AS_HANDS,rfl,rfl,zal (by simp),.cons ⟨_,rfl⟩ (.cons ⟨_,rfl⟩ (.cons ⟨_,rfl⟩ (.cons ⟨_,rfl⟩ (.cons ⟨_,rfl⟩ (.cons ⟨_,rfl⟩ (.cons ⟨_,rfl⟩ (.cons ⟨_,rfl⟩ (.nil))))))))⟩⟩,⟨_,mg_of X G (eA hA 179 rfl),λ_=>.inr ⟨_,_,_,xa_WHOLES,rfl,rfl,zal (by simp),.cons ⟨_,rfl⟩ (.cons ⟨_,rfl⟩ (.cons ⟨_,rfl⟩ (.cons ⟨_,rfl⟩ (.nil))))⟩⟩⟩
 have Z:Zt K mg (λi=>[56,178,191,203,215,227,239,443].getD i 0):=⟨⟨(bA hA 223 rfl),(bA hA 224 rfl),(bA hA 225 rfl),(eA hA 226 rfl)⟩,mg_of X G (eA hA 0 rfl),(eA hA 229 rfl),(eA hA 230 rfl),(eA hA 231 rfl),(eA hA 232 rfl),⟨⟨_,_,_,_,_,_,_,_,_,_,_,_,_,_,_,o1⟩,(bA hA 182 rfl)⟩,mg_of X G (eA hA 1 rfl),⟨(eA hA 183 rfl),(eA hA 184 rfl),(eA hA 185 rfl),(eA hA 241 rfl),(eA hA 242 rfl),(eA hA 186 rfl),(eA hA 187 rfl)⟩,⟨⟨_,_,_,_,_,_,_,_,_,_,_,_,_,_,_,o2⟩,(bA hA 189 rfl)⟩,mg_of X G (eA hA 2 rfl),⟨(eA hA 190 rfl),(eA hA 191 rfl),(eA hA 192 rfl),(eA hA 241 rfl),(eA hA 242 rfl),(eA hA 193 rfl),(eA hA 194 rfl)⟩,⟨⟨_,_,_,_,_,_,_,_,_,_,_,_,_,_,_,o3⟩,(bA hA 196 rfl)⟩,mg_of X G (eA hA 3 rfl),⟨(eA hA 197 rfl),(eA hA 198 rfl),(eA hA 199 rfl),(eA hA 241 rfl),(eA hA 242 rfl),(eA hA 200 rfl),(eA hA 201 rfl)⟩,⟨⟨_,_,_,_,_,_,_,_,_,_,_,_,_,_,_,o4⟩,(bA hA 203 rfl)⟩,mg_of X G (eA hA 4 rfl),⟨(eA hA 204 rfl),(eA hA 205 rfl),(eA hA 206 rfl),(eA hA 241 rfl),(eA hA 242 rfl),(eA hA 207 rfl),(eA hA 208 rfl)⟩,⟨⟨_,_,_,_,_,_,_,_,_,_,_,_,_,_,_,o5⟩,(bA hA 210 rfl)⟩,mg_of X G (eA hA 5 rfl),⟨(eA hA 211 rfl),(eA hA 212 rfl),(eA hA 213 rfl),(eA hA 241 rfl),(eA hA 242 rfl),(eA hA 214 rfl),(eA hA 215 rfl)⟩,⟨⟨_,_,_,_,_,_,_,_,_,_,_,_,_,_,_,o6⟩,(bA hA 217 rfl)⟩,mg_of X G (eA hA 6 rfl),⟨(eA hA 218 rfl),(eA hA 219 rfl),(eA hA 220 rfl),(eA hA 241 rfl),(eA hA 242 rfl),(eA hA 221 rfl),(eA hA 222 rfl)⟩,⟨(bA hA 233 rfl),(bA hA 234 rfl),(bA hA 235 rfl),(eA hA 236 rfl)⟩,mg_of X G (eA hA 7 rfl),(eA hA 239 rfl),(eA hA 240 rfl),(by decide)⟩
 obtain⟨_,F1⟩:=zaQ (fA hA 0 9 65 _ _ _ rfl rfl rfl)
 obtain⟨_,F2⟩:=zaQ (fA hA 1 11 70 _ _ _ rfl rfl rfl)
 obtain⟨_,F3⟩:=zaQ (fA hA 2 14 53 _ _ _ rfl rfl rfl)
 obtain⟨_,F4⟩:=zaQ (fA hA 3 16 26 _ _ _ rfl rfl rfl)
 obtain⟨_,F5⟩:=zaQ (fA hA 4 18 31 _ _ _ rfl rfl rfl)
 obtain⟨_,F6⟩:=zaQ (fA hA 5 20 38 _ _ _ rfl rfl rfl)
 obtain⟨_,F7⟩:=zaQ (fA hA 6 22 77 _ _ _ rfl rfl rfl)
 obtain⟨_,F8⟩:=zaQ (fA hA 7 24 82 _ _ _ rfl rfl rfl)
 obtain⟨_,F9⟩:=zaQ (fA hA 8 26 163 _ _ _ rfl rfl rfl)
 obtain⟨_,F10⟩:=zaQ (fA hA 9 28 156 _ _ _ rfl rfl rfl)
 obtain⟨_,F11⟩:=zaQ (fA hA 10 30 116 _ _ _ rfl rfl rfl)
 obtain⟨_,F12⟩:=zaQ (fA hA 11 32 111 _ _ _ rfl rfl rfl)
 obtain⟨_,F13⟩:=zaQ (fA hA 12 34 96 _ _ _ rfl rfl rfl)
 obtain⟨_,F14⟩:=zaQ (fA hA 13 36 149 _ _ _ rfl rfl rfl)
 obtain⟨_,F15⟩:=zaQ (fA hA 14 38 142 _ _ _ rfl rfl rfl)
 obtain⟨_,F16⟩:=zaQ (fA hA 15 40 137 _ _ _ rfl rfl rfl)
 obtain⟨_,F17⟩:=zaQ (fA hA 16 42 130 _ _ _ rfl rfl rfl)
 obtain⟨_,F18⟩:=zaQ (fA hA 17 44 123 _ _ _ rfl rfl rfl)
 obtain⟨_,F19⟩:=zaQ (fA hA 18 46 101 _ _ _ rfl rfl rfl)
 obtain⟨_,F20⟩:=zaQ (fA hA 19 48 106 _ _ _ rfl rfl rfl)
 obtain⟨_,F21⟩:=zaQ (fA hA 20 50 89 _ _ _ rfl rfl rfl)
 obtain⟨_,F22⟩:=zaQ (fA hA 21 52 168 _ _ _ rfl rfl rfl)
 obtain⟨_,F23⟩:=zaQ (fA hA 22 54 306 _ _ _ rfl rfl rfl)
 obtain⟨_,F24⟩:=zaQ (fA hA 23 56 296 _ _ _ rfl rfl rfl)
 obtain⟨_,F25⟩:=zaQ (fA hA 24 58 301 _ _ _ rfl rfl rfl)
 obtain⟨_,F26⟩:=zaQ (fA hA 25 60 313 _ _ _ rfl rfl rfl)
 obtain⟨_,F27⟩:=zaQ (fA hA 26 62 256 _ _ _ rfl rfl rfl)
 obtain⟨_,F28⟩:=zaQ (fA hA 27 64 291 _ _ _ rfl rfl rfl)
 obtain⟨_,F29⟩:=zaQ (fA hA 28 66 270 _ _ _ rfl rfl rfl)
 obtain⟨_,F30⟩:=zaQ (fA hA 29 68 277 _ _ _ rfl rfl rfl)
 obtain⟨_,F31⟩:=zaQ (fA hA 30 70 284 _ _ _ rfl rfl rfl)
 obtain⟨_,F32⟩:=zaQ (fA hA 31 72 263 _ _ _ rfl rfl rfl)
 obtain⟨_,F33⟩:=zaQ (fA hA 32 74 249 _ _ _ rfl rfl rfl)
 obtain⟨_,F34⟩:=zaQ (fA hA 33 76 318 _ _ _ rfl rfl rfl)
 obtain⟨_,F35⟩:=zaQ (fA hA 34 78 330 _ _ _ rfl rfl rfl)
 obtain⟨_,F36⟩:=zaQ (fA hA 35 80 325 _ _ _ rfl rfl rfl)
 obtain⟨_,F37⟩:=zaQ (fA hA 36 83 344 _ _ _ rfl rfl rfl)
 obtain⟨_,F38⟩:=zaQ (fA hA 37 86 433 _ _ _ rfl rfl rfl)
 obtain⟨_,F39⟩:=zaQ (fA hA 38 89 426 _ _ _ rfl rfl rfl)
 obtain⟨_,F40⟩:=zaQ (fA hA 39 92 440 _ _ _ rfl rfl rfl)
 obtain⟨_,F41⟩:=zaQ (fA hA 40 94 454 _ _ _ rfl rfl rfl)
 obtain⟨_,F42⟩:=zaQ (fA hA 41 97 351 _ _ _ rfl rfl rfl)
 obtain⟨_,F43⟩:=zaQ (fA hA 42 100 412 _ _ _ rfl rfl rfl)
 obtain⟨_,F44⟩:=zaQ (fA hA 43 103 358 _ _ _ rfl rfl rfl)
 obtain⟨_,F45⟩:=zaQ (fA hA 44 106 365 _ _ _ rfl rfl rfl)
 obtain⟨_,F46⟩:=zaQ (fA hA 45 109 372 _ _ _ rfl rfl rfl)
 obtain⟨_,F47⟩:=zaQ (fA hA 46 111 459 _ _ _ rfl rfl rfl)
 obtain⟨_,F48⟩:=zaQ (fA hA 47 114 419 _ _ _ rfl rfl rfl)
 obtain⟨_,F49⟩:=zaQ (fA hA 48 117 379 _ _ _ rfl rfl rfl)
 obtain⟨_,F50⟩:=zaQ (fA hA 49 120 384 _ _ _ rfl rfl rfl)
 obtain⟨_,F51⟩:=zaQ (fA hA 50 122 466 _ _ _ rfl rfl rfl)
 obtain⟨_,F52⟩:=zaQ (fA hA 51 124 473 _ _ _ rfl rfl rfl)
 obtain⟨_,F53⟩:=zaQ (fA hA 52 126 480 _ _ _ rfl rfl rfl)
 obtain⟨_,F54⟩:=zaQ (fA hA 53 128 485 _ _ _ rfl rfl rfl)
 obtain⟨_,F55⟩:=zaQ (fA hA 54 130 497 _ _ _ rfl rfl rfl)
 obtain⟨_,F56⟩:=zaQ (fA hA 55 132 492 _ _ _ rfl rfl rfl)
 obtain⟨_,F57⟩:=zaQ (fA hA 56 134 502 _ _ _ rfl rfl rfl)
 obtain⟨_,F58⟩:=zaQ (fA hA 57 136 509 _ _ _ rfl rfl rfl)
 obtain⟨_,F59⟩:=zaQ (fA hA 58 138 514 _ _ _ rfl rfl rfl)
 obtain⟨_,F60⟩:=zaQ (fA hA 59 140 521 _ _ _ rfl rfl rfl)
 obtain⟨_,F61⟩:=zaQ (fA hA 60 142 526 _ _ _ rfl rfl rfl)
 obtain⟨_,F62⟩:=zaQ (fA hA 61 144 533 _ _ _ rfl rfl rfl)
 obtain⟨_,_,_,kV,dc,pm,an,cd,ct,Ll63,c63,k63⟩:=(fA hA 62 146 540 _ _ _ rfl rfl rfl)
 have F63:=znX (st:=zjc) Ll63 c63 k63
 refine⟨fnOf "law" "law" (zcU zjc) (zbO zjc) (zaf zjc) .none kV dc pm an cd ct,λs v=>.of_eq rfl,λb8 _ _=>?_⟩
 have G1:=zgG (P:=l.prog) (w:=w) (b8:=b8) B Z  F1 (mg_of X G (eA hA 8 rfl))
 have G2:=zgV (P:=l.prog) (w:=w) (b8:=b8) B Z  F2 (mg_of X G (eA hA 10 rfl))
 have G3:=znD B Z G1 G2 F3 ⟨(bA hA 227 rfl),(eA hA 12 rfl),(bA hA 13 rfl),(bA hA 228 rfl)⟩
 have G4:=zo2 (P:=l.prog) (w:=w) (b8:=b8) B Z  F4 (mg_of X G (eA hA 15 rfl))
 have G5:=zmz (P:=l.prog) (w:=w) (b8:=b8) B Z  F5 (mg_of X G (eA hA 17 rfl))
 have G6:=zmA B Z G5 F6 (mg_of X G (eA hA 19 rfl))
 have G7:=zgI B Z G3 F7 (mg_of X G (eA hA 21 rfl))
 have G8:=ziZ (P:=l.prog) (w:=w) (b8:=b8) B Z  F8 (mg_of X G (eA hA 23 rfl))
 have G9:=zk1 (P:=l.prog) (w:=w) (b8:=b8) B Z  F9 (mg_of X G (eA hA 25 rfl))
 have G10:=zgJ B Z G9 F10 (mg_of X G (eA hA 27 rfl))
 have G11:=zh1 B Z G10 F11 (mg_of X G (eA hA 29 rfl))
 have G12:=zgW B Z G11 F12 (mg_of X G (eA hA 31 rfl))
 have G13:=zh2 B Z G12 F13 (mg_of X G (eA hA 33 rfl))
 have G14:=zh3 B Z G9 F14 (mg_of X G (eA hA 35 rfl))
 have G15:=ze7 B Z G14 F15 (mg_of X G (eA hA 37 rfl))
 have G16:=zh4 B Z G15 G9 F16 (mg_of X G (eA hA 39 rfl))
 have G17:=zgX B Z G10 F17 (mg_of X G (eA hA 41 rfl))
 have G18:=zh6 B Z G16 G11 G14 G9 G17 F18 (mg_of X G (eA hA 43 rfl))
 have G19:=zgY B Z G9 G18 F19 (mg_of X G (eA hA 45 rfl))
 have G20:=zgZ B Z G12 F20 (mg_of X G (eA hA 47 rfl))
 have G21:=znG B Z G13 G19 G20 F21 (mg_of X G (eA hA 49 rfl))
 have G22:=zmD B Z G9 G1 G4 G6 F22 (mg_of X G (eA hA 51 rfl))
 have G23:=zh8 B Z G4 F23 (mg_of X G (eA hA 53 rfl))
 have G24:=zi1 B Z G1 F24 (mg_of X G (eA hA 55 rfl))
 have G25:=zh9 B Z G6 F25 (mg_of X G (eA hA 57 rfl))
 have G26:=zjO (P:=l.prog) (w:=w) (b8:=b8) B Z  F26 (mg_of X G (eA hA 59 rfl))
 have G27:=zgL B Z G23 G24 G25 G4 G26 G22 F27 (mg_of X G (eA hA 61 rfl))
 have G28:=zg0 B Z G23 G24 G25 G4 F28 (mg_of X G (eA hA 63 rfl))
 have G29:=zg1 B Z G5 G24 G25 G4 G26 G23 F29 (mg_of X G (eA hA 65 rfl))
 have G30:=zg2 B Z G5 G24 G25 G4 G26 G23 F30 (mg_of X G (eA hA 67 rfl))
 have G31:=zg3 B Z G5 G24 G26 F31 (mg_of X G (eA hA 69 rfl))
 have G32:=zg4 B Z G22 G28 G24 G29 G30 G31 G25 G23 F32 (mg_of X G (eA hA 71 rfl))
 have G33:=zmG B Z G8 G27 G32 F33 (mg_of X G (eA hA 73 rfl))
 have G34:=znI B Z G5 F34 (mg_of X G (eA hA 75 rfl))
 have G35:=zeH (P:=l.prog) (w:=w) (b8:=b8) B Z  F35 (mg_of X G (eA hA 77 rfl))
 have G36:=zmI B Z G35 G34 F36 (mg_of X G (eA hA 79 rfl))
 have G37:=zo6 (P:=l.prog) (w:=w) (b8:=b8) B Z  F37 ⟨(bA hA 237 rfl),(eA hA 81 rfl),(bA hA 82 rfl),(bA hA 238 rfl)⟩
 have G38:=zgM (P:=l.prog) (w:=w) (b8:=b8) B Z  F38 ⟨(eA hA 84 rfl),(bA hA 85 rfl),F38.kp⟩
 have G39:=zft B Z G8 F39 ⟨(eA hA 87 rfl),(bA hA 88 rfl),F39.kp⟩
 have G40:=zdC B Z G39 G38 F40 ⟨(eA hA 90 rfl),(bA hA 91 rfl),F40.kp⟩
 have G41:=zi2 (P:=l.prog) (w:=w) (b8:=b8) B Z  F41 (mg_of X G (eA hA 93 rfl))
 have G42:=zjQ B Z G38 G7 G21 G40 G41 F42 ⟨(eA hA 95 rfl),(bA hA 96 rfl),F42.kp⟩
 have G43:=ze8 (P:=l.prog) (w:=w) (b8:=b8) B Z  F43 ⟨(eA hA 98 rfl),(bA hA 99 rfl),F43.kp⟩
 have G44:=zi3 B Z G43 G40 G38 F44 ⟨(eA hA 101 rfl),(bA hA 102 rfl),F44.kp⟩
 have G45:=zfK (P:=l.prog) (w:=w) (b8:=b8) B Z  F45 ⟨(eA hA 104 rfl),(bA hA 105 rfl),F45.kp⟩
 have G46:=zg5 B Z G45 G7 F46 ⟨(eA hA 107 rfl),(bA hA 108 rfl),F46.kp⟩
 have G47:=zi4 B Z G34 F47 (mg_of X G (eA hA 110 rfl))
 have G48:=zfu B Z G43 G33 F48 ⟨(eA hA 112 rfl),(bA hA 113 rfl),F48.kp⟩
 have G49:=zib B Z G47 G48 F49 ⟨(eA hA 115 rfl),(bA hA 116 rfl),F49.kp⟩
 have G50:=zi5 B Z G36 G48 F50 ⟨(eA hA 118 rfl),(bA hA 119 rfl),F50.kp⟩
 have G51:=zi6 (P:=l.prog) (w:=w) (b8:=b8) B Z  F51 (mg_of X G (eA hA 121 rfl))
 have G52:=znK (P:=l.prog) (w:=w) (b8:=b8) B Z  F52 (mg_of X G (eA hA 123 rfl))
 have G53:=zjR B Z G52 F53 (mg_of X G (eA hA 125 rfl))
 have G54:=zi7 B Z G53 G52 F54 (mg_of X G (eA hA 127 rfl))
 have G55:=zid B Z G54 G52 F55 (mg_of X G (eA hA 129 rfl))
 have G56:=zi8 B Z G54 G52 G53 F56 (mg_of X G (eA hA 131 rfl))
 have G57:=zie B Z G55 G51 G56 F57 (mg_of X G (eA hA 133 rfl))
 have G58:=zjS (P:=l.prog) (w:=w) (b8:=b8) B Z  F58 (mg_of X G (eA hA 135 rfl))
 have G59:=zk3 (P:=l.prog) (w:=w) (b8:=b8) B Z  F59 (mg_of X G (eA hA 137 rfl))
 have G60:=zi9 B Z G42 G59 G44 G49 G50 F60 (mg_of X G (eA hA 139 rfl))
 have G61:=zjT (P:=l.prog) (w:=w) (b8:=b8) B Z  F61 (mg_of X G (eA hA 141 rfl))
 have G62:=zmM B Z G46 G45 G61 F62 (mg_of X G (eA hA 143 rfl))
 exact zqA B Z G37 G51 G52 G57 G58 G3 G60 G61 G62 G44 G42 F63
end My

open PySem PySem.W PyProof.Rows
open My L2
set_option maxRecDepth 1000000 in
set_option maxHeartbeats 0 in
theorem PySem.Challenge.cw_swornhall_k10_laid_and_torn_holds : PySem.Challenge.rw_swornhall_k10_laid_and_torn.Holds := by
  refine PySem.Challenge.hd_swornhall_k10_laid_and_torn fun d kwd hdef => ?_
  obtain ⟨rfl, rfl⟩ := Prod.mk.inj (Option.some.inj ((show defOf My.Qv PySem.Challenge.rw_swornhall_k10_laid_and_torn.row.name = some (_, _) from rfl).symm.trans hdef))
  refine L2.walk_ofE (l := PySem.Challenge.rw_swornhall_k10_laid_and_torn) (n := 63) (k := 10) (x := "script") (CX := L2.CX0) (sp := My.Q6f) (S := fun K => ((My.zBoo K).all id, My.zSee K) = (true, My.zSig)) rfl (by decide) rfl ⟨rfl, by decide, by decide, rfl⟩ (fun w h Y => Y) ?F (fun _ _ a ns hl _ hS => ⟨a, ns, rfl, hS, hl, fun _ => rfl⟩) (fun _ _ _ _ z => z)
  intro w K mg fa h hA KX G hmg
  exact My.all_mk KX G hmg hA

