import PyProof.Rows.All
import Wide.All
import Wide.FinOn
import OpenK.KLine
import OpenK.KMore
import OpenK.KDescr
import OpenK.KOwn
import OpenK.KCls
import KE.KIsAll
import KE.KRevIter
import KE.KDictList
import KE.KIsNot
import KE.KItem
import KE.KDictSum
import KE.KDictOf
import KE.KxBytes
import KE.KFromBytes
import Open.FastRun
import PySem.Challenge.RW_swornhall_k17_whole_cut_and_gone_on
set_option Elab.async false
set_option linter.all false
set_option compiler.extract_closed false
set_option maxRecDepth 100000
abbrev Fg:=PySem.W.Frag
theorem zgm {α : Type _} {β : Type _} {f : α → β} {l : List α} {i : Nat} : (l.map f)[i]? = l[i]?.map f := List.getElem?_map
theorem zlm {α : Type _} {β : Type _} {as : List α} (f : α → β) : (as.map f).length = as.length := List.length_map f
theorem zme {α : Type _} {β : Type _} {f : α → β} {o : Option α} {b : β} : o.map f = some b ↔ ∃ a, o = some a ∧ f a = b := Option.map_eq_some_iff
theorem zmg {α : Type _} {l : List α} {i : Nat} {a : α} (e : l[i]? = some a) : a ∈ l := List.mem_of_getElem? e
theorem zms {α : Type _} {a b : α} : a ∈ [b] ↔ a = b := List.mem_singleton
theorem zst {α : Type _} {l : List α} : l.toArray.size = l.length := List.size_toArray
theorem zma {α : Type _} {a : α} {s t : List α} : a ∈ s ++ t ↔ a ∈ s ∨ a ∈ t := List.mem_append
theorem zge {α : Type _} {l : List α} {i : Nat} {a : α} : l[i]? = some a ↔ ∃ h : i < l.length, l[i] = a := List.getElem?_eq_some_iff
theorem zmc {α : Type _} {β : Type _} {f : α → β} {a : α} {l : List α} : (a :: l).map f = f a :: l.map f := List.map_cons
theorem zmm {α : Type _} {β : Type _} {f : α → β} {l : List α} {b : β} : b ∈ l.map f ↔ ∃ a, a ∈ l ∧ f a = b := List.mem_map
namespace L2
open PySem PySem.Spec PySem.Calls PyProof.Rows PySem.W
abbrev zbj:List Value:=[.type "ValueError",.type "Exception",.type "BaseException",.type "object"]
def zaX (s:Stmt) (j:Nat):Stmt:=match s with
 | .ClassDef _ _ _ body _ _ _ _ _ _ _=>body.getD j (.Pass ⟨0,0,0,0⟩)
 | _=>.Pass ⟨0,0,0,0⟩
def zan (s:Stmt):Arguments:=match s with
 | .FunctionDef _ a _ _ _ _ _ _ _ _=>a
 | _=>{posonlyargs:=[],args:=[],vararg:=none,kwonlyargs:=[],kw_defaults:=[],kwarg:=none,defaults:=[]}
def zal (s:Stmt):List Stmt:=match s with
 | .FunctionDef _ _ b _ _ _ _ _ _ _=>b
 | _=>[]
def zac (s:Stmt):Scope:=match s with
 | .FunctionDef _ _ _ _ _ _ sc _ _ _=>sc
 | _=>{kind:=.function,names:=[],isGenerator:=false,isCoroutine:=false}
def Kof (as:List Addr) (h:Heap):Fg:=as.filterMap λa=>(h.get? a).map λo=>(a,o)
theorem zmV (h:Heap):∀ as:List Addr,(Kof as h).In h
 | []=>λa o e=>by cases e
 | b::as=>λa o e=>by
  have ih:=zmV h as
  unfold Kof at e
  rw[List.filterMap_cons] at e
  cases hb:h.get? b with
  | none=>rw[hb] at e;exact ih a o e
  | some ob=>
   rw[hb] at e
   simp only[Option.map_some] at e
   rw[List.lookup_cons] at e
   by_cases z:(a == b)=true
   ·rw[z] at e
    cases e
    rw[eq_of_beq z];exact hb
   ·rw[Bool.not_eq_true] at z
    rw[z] at e
    exact ih a o e
abbrev Sig:=Str × Str × Arguments × FuncBody × Scope × Addr × List (Str × Addr) × Value × Addr
def znm (name qual:Str) (params:Arguments) (body:List Stmt) (scope:Scope):Sig:=(name,qual,params,.stmts body,scope,mainGlobals,[],.none,builtinsNs)
def zaQ (K:Fg) (a:Addr):Option Sig:=match K.lookup a with
 | some ⟨_,_,.func f,_⟩=>some (f.name,f.qualname,f.params,f.body,f.scope,f.globals,f.closure,f.defaults,f.builtins)
 | _=>none
def zaq (K:Fg) (a:Addr) (q:Str):Bool:=match K.lookup a with
 | some ⟨_,_,.func f,_⟩=>codeIn K f.code q && keepIn K (.ref a)
 | _=>false
def ze6 (K:Fg) (C:Addr) (bm:List Value) (newId:String):Bool:=match K.lookup C with
 | some ⟨cl,_,.cls c,sl⟩=>cl == .type "type" && c.mro == .ref C::bm && !c.hasDel && (match sl.toList with
  | [_,_,_,_,some v,_]=>v == .builtin newId
  | _=>false)
 | _=>false
def zf8 (K:Fg) (a:Addr) (vs:List Value):Bool:=match K.lookup a with
 | some ⟨cl,_,.seq xs _,_⟩=>cl == .type "tuple" && xs.toList == vs
 | _=>false
def eHook {β:Type}(as:List Addr) (see:Fg→β) (due:β):Hook:=
 ⟨β,λs=>see (Kof as s.heap),λ_=>due,λ_ h=>∃ K:Fg,K.In h∧see K=due,λ_ s e=>⟨_,zmV _ _,e⟩,λ_ _ _ ⟨K,x,e⟩ k=>⟨K,x.keeps k,e⟩⟩
end L2
namespace PySem.W.Fast
def tw10029196820470377846:=0
def tw1031358704201277654:=0
def tw10414022447936410192:=0
def tw10466349966015624188:=0
def tw10898584615218667959:=0
def tw11077652219161502263:=0
def tw11343228205859430851:=0
def tw11412393871585820140:=0
def tw11613428531511818999:=0
def tw11683045520012503166:=0
def tw12084240435410967533:=0
def tw12369499800756101014:=0
def tw12451225800789355594:=0
def tw12947189612364120706:=0
def tw13016050996912851330:=0
def tw13342632125544840679:=0
def tw13438295153805355041:=0
def tw13535479603751563429:=0
def tw13718539254114378032:=0
def tw1374809917478469207:=0
def tw13785337740863781534:=0
def tw13858429906072958052:=0
def tw1406153330134210804:=0
def tw14233475292421922555:=0
def tw14374653819471811725:=0
def tw14548916987660344400:=0
def tw14605805662863664105:=0
def tw15019733596672582253:=0
def tw15187025484287158331:=0
def tw15266022632334681516:=0
def tw15454993013205076240:=0
def tw15630677276400636589:=0
def tw15785530608255751868:=0
def tw15805086188974191488:=0
def tw15941364669701105602:=0
def tw16000943154916620735:=0
def tw16157344343661287823:=0
def tw16334475336054790030:=0
def tw16350257165894413379:=0
def tw16526161475930315391:=0
def tw16868004409733466935:=0
def tw1716907428028476897:=0
def tw17263708851844876531:=0
def tw17475661986866864925:=0
def tw17520142604512347896:=0
def tw17840030805025771913:=0
def tw18182756977585608495:=0
def tw18430167503295439728:=0
def tw2158544022611568996:=0
def tw2245200076567666400:=0
def tw2312109127371295689:=0
def tw2422550274943867480:=0
def tw2432976074086004491:=0
def tw2533824874417396527:=0
def tw261949663304541903:=0
def tw2782498654800324985:=0
def tw282052495685050645:=0
def tw2984890615266849602:=0
def tw3125456449747780694:=0
def tw3179158208587745821:=0
def tw3202798767835538523:=0
def tw3367595948754394289:=0
def tw377644714439774847:=0
def tw3828842336362467881:=0
def tw3905986394016060699:=0
def tw3975308751484707479:=0
def tw4457267356795648596:=0
def tw4842821792670231323:=0
def tw4866293715872572211:=0
def tw4898669065569900459:=0
def tw4936805613466412877:=0
def tw4971133807449649642:=0
def tw5144401093838905806:=0
def tw5170297096193199907:=0
def tw529920509657033991:=0
def tw5321049984289614384:=0
def tw5539714146496745868:=0
def tw5539829838644944821:=0
def tw5551166415862896746:=0
def tw560164483175299992:=0
def tw5613039376602808275:=0
def tw5639645454305024391:=0
def tw5664936704825234160:=0
def tw5889118145780042298:=0
def tw5920622930268813011:=0
def tw5932834662535955361:=0
def tw6015572441465212942:=0
def tw6057335334671259862:=0
def tw6078825857623138375:=0
def tw6109960926764968688:=0
def tw6345694441421919095:=0
def tw642887524947815418:=0
def tw651857621329491846:=0
def tw6534105902859230734:=0
def tw6534992152826893731:=0
def tw7050323691491617354:=0
def tw7064915273516196978:=0
def tw7065748714761767569:=0
def tw7291133194638555405:=0
def tw7327050963724321479:=0
def tw739726907701471080:=0
def tw8056304853889202663:=0
def tw8100084115952041445:=0
def tw8412084404470150543:=0
def tw854668133844923138:=0
def tw8797457984074675386:=0
def tw8832338920386758869:=0
def tw9452343916574286552:=0
def tw9522020415091710257:=0
def tw9593703785356440913:=0
def tw9864050424421358234:=0
def tw9868538508446961480:=0
def tw9959361120725176175:=0
end PySem.W.Fast
namespace My
open PySem L2 PyProof.Rows
def top (i:Nat):Stmt:=PySem.Challenge.pw_swornhall_k17_whole_cut_and_gone_on.main.body.getD i (.Pass ⟨0,0,0,0⟩)
abbrev s_worth:Stmt:=top 10
abbrev s_holds:Stmt:=top 11
abbrev s_Frame___init__:Stmt:=zaX (top 17) 0
abbrev s_Frame_numbers:Stmt:=zaX (top 17) 1
abbrev s_Run___init__:Stmt:=zaX (top 18) 0
abbrev s_Run_go:Stmt:=zaX (top 18) 1
abbrev s_Run_steps:Stmt:=zaX (top 18) 2
abbrev s_Run_frames:Stmt:=zaX (top 18) 3
abbrev s_Run_step:Stmt:=zaX (top 18) 4
abbrev s_Run_put:Stmt:=zaX (top 18) 5
abbrev s_Run_draw:Stmt:=zaX (top 18) 6
abbrev s_Run_hold:Stmt:=zaX (top 18) 7
abbrev s_Run_call:Stmt:=zaX (top 18) 8
abbrev s_Run_begin:Stmt:=zaX (top 18) 9
abbrev s_Run_come_to:Stmt:=zaX (top 18) 10
abbrev s_Run_is_behind_last_deed:Stmt:=zaX (top 18) 11
abbrev s_Run_meet_notes:Stmt:=zaX (top 18) 12
abbrev s_Run_leave:Stmt:=zaX (top 18) 13
abbrev s_Run_take:Stmt:=zaX (top 18) 14
abbrev s_Run_craft_of:Stmt:=zaX (top 18) 15
abbrev s_Run_meets:Stmt:=zaX (top 18) 16
abbrev s_first_unmet:Stmt:=top 19
abbrev s_asked_numbers:Stmt:=top 20
abbrev s_Craft___init__:Stmt:=zaX (top 31) 0
abbrev s_copied_lines:Stmt:=top 32
abbrev s_copied_deed:Stmt:=top 33
abbrev s_copied_craft:Stmt:=top 34
abbrev s_called_by:Stmt:=top 35
abbrev s_right:Stmt:=top 36
abbrev s_oath_right:Stmt:=top 37
abbrev s_deeds_right:Stmt:=top 38
abbrev s_notes_right:Stmt:=top 39
abbrev s_lines_right:Stmt:=top 40
abbrev s_line_right:Stmt:=top 41
abbrev s_deed_right:Stmt:=top 42
abbrev s_range_right:Stmt:=top 43
abbrev s_call_right:Stmt:=top 44
abbrev s_two_hands_right:Stmt:=top 45
abbrev s_hand_right:Stmt:=top 46
abbrev s_small_enough:Stmt:=top 47
abbrev s_between:Stmt:=top 48
abbrev s_Hall___init__:Stmt:=zaX (top 71) 0
abbrev s_Hall_lay:Stmt:=zaX (top 71) 1
abbrev s_Hall_tear:Stmt:=zaX (top 71) 2
abbrev s_Hall_standing:Stmt:=zaX (top 71) 3
abbrev s_Hall_crafts:Stmt:=zaX (top 71) 4
abbrev s_Hall_must_stand:Stmt:=zaX (top 71) 10
abbrev s_Hall_called_at:Stmt:=zaX (top 71) 12
abbrev s_Hall_release:Stmt:=zaX (top 71) 13
abbrev s_Hall_release_callers:Stmt:=zaX (top 71) 14
abbrev s_same_oath:Stmt:=top 72
abbrev s_l_cell_at:Stmt:=top 74
abbrev s_l_mix:Stmt:=top 75
abbrev s_l_number:Stmt:=top 76
abbrev s_l_bare:Stmt:=top 77
abbrev s_l_line_by:Stmt:=top 78
abbrev s_l_free:Stmt:=top 79
abbrev s_l_other_deed:Stmt:=top 80
abbrev s_l_first_deed:Stmt:=top 81
abbrev s_l_second_deed:Stmt:=top 82
abbrev s_l_sworn_parts:Stmt:=top 83
abbrev s_l_hall_parts:Stmt:=top 84
abbrev s_l_deed_by:Stmt:=top 85
abbrev s_l_hall_by:Stmt:=top 86
abbrev s_law:Stmt:=top 87
section
open PySem PySem.Spec PySem.Calls PyProof.Rows PySem.W L2
def zoq (p:Program) (ks:List Nat):Program:={p with main:={p.main with body:=ks.filterMap λi=>p.main.body[i]?}}
def Qv:Program:=zoq PySem.Challenge.rw_swornhall_k17_whole_cut_and_gone_on.row.toRowW.prog [0,2,3,4,5,6,8,9,10,11,12,13,14,16,17,18,19,20,22,23,24,25,26,27,28,29,30,31,32,33,34,35,36,37,38,39,40,41,42,43,44,45,46,47,48,49,51,52,53,54,55,56,57,58,59,60,61,62,63,64,65,66,67,68,69,71,72,74,75,76,77,78,79,80,81,82,83,84,85,86,87]
abbrev nI (K:Fg) (s:Str) (n:Addr):Bool:=PySem.W.nsIn K mainGlobals s == some (some (.ref n))
abbrev fI (K:Fg) (c:Addr) (s:Str) (n:Addr):Bool:=PySem.W.findIn K (.ref c) s == some (some (.ref n))
abbrev gS (n q:Str) (d:Stmt):Option L2.Sig:=some (L2.znm n q (zan d) (zal d) (zac d))
def zBo1 (K:Fg):List Bool:=[nI K "HallError" 31,
 nI K "BadSheet" 44,
 nI K "NoCraft" 56,
 nI K "Unmet" 68,
 nI K "Unfit" 80,
 nI K "Frame" 137,
 nI K "Run" 268,
 nI K "Craft" 304,
 nI K "Hall" 618,
 nI K "copied_lines" 313,
 L2.zaq K 313 "copied_lines",
 nI K "copied_deed" 318,
 L2.zaq K 318 "copied_deed",
 fI K 304 "__init__" 301,
 PySem.W.isFn K (.ref 301),
 L2.zaq K 301 "Craft.__init__",
 nI K "worth" 89,
 L2.zaq K 89 "worth",
 nI K "holds" 96,
 L2.zaq K 96 "holds",
 fI K 137 "__init__" 127,
 PySem.W.isFn K (.ref 127),
 L2.zaq K 127 "Frame.__init__",
 fI K 137 "numbers" 134,
 PySem.W.isFn K (.ref 134),
 L2.zaq K 134 "Frame.numbers",
 fI K 618 "standing" 540,
 PySem.W.isFn K (.ref 540),
 L2.zaq K 540 "Hall.standing",
 nI K "copied_craft" 325,
 L2.zaq K 325 "copied_craft",
 fI K 618 "crafts" 547,
 PySem.W.isFn K (.ref 547),
 L2.zaq K 547 "Hall.crafts",
 fI K 268 "craft_of" 258,
 PySem.W.isFn K (.ref 258),
 L2.zaq K 258 "Run.craft_of",
 fI K 268 "is_behind_last_deed" 230,
 PySem.W.isFn K (.ref 230),
 L2.zaq K 230 "Run.is_behind_last_deed",
 nI K "first_unmet" 279,
 L2.zaq K 279 "first_unmet",
 fI K 268 "meets" 265,
 PySem.W.isFn K (.ref 265),
 L2.zaq K 265 "Run.meets",
 fI K 268 "take" 251,
 PySem.W.isFn K (.ref 251),
 L2.zaq K 251 "Run.take",
 fI K 268 "leave" 244,
 PySem.W.isFn K (.ref 244),
 L2.zaq K 244 "Run.leave",
 fI K 268 "meet_notes" 237,
 PySem.W.isFn K (.ref 237),
 L2.zaq K 237 "Run.meet_notes",
 fI K 268 "come_to" 223,
 PySem.W.isFn K (.ref 223),
 L2.zaq K 223 "Run.come_to",
 fI K 268 "begin" 216,
 PySem.W.isFn K (.ref 216),
 L2.zaq K 216 "Run.begin",
 nI K "asked_numbers" 286,
 L2.zaq K 286 "asked_numbers",
 fI K 268 "__init__" 155,
 PySem.W.isFn K (.ref 155),
 L2.zaq K 155 "Run.__init__",
 fI K 268 "put" 188,
 PySem.W.isFn K (.ref 188),
 L2.zaq K 188 "Run.put",
 fI K 268 "draw" 195,
 PySem.W.isFn K (.ref 195),
 L2.zaq K 195 "Run.draw",
 fI K 268 "hold" 202,
 PySem.W.isFn K (.ref 202),
 L2.zaq K 202 "Run.hold",
 fI K 268 "call" 209,
 PySem.W.isFn K (.ref 209),
 L2.zaq K 209 "Run.call",
 fI K 268 "step" 181,
 PySem.W.isFn K (.ref 181),
 L2.zaq K 181 "Run.step",
 fI K 268 "go" 162,
 PySem.W.isFn K (.ref 162),
 L2.zaq K 162 "Run.go",
 fI K 268 "steps" 169,
 PySem.W.isFn K (.ref 169),
 L2.zaq K 169 "Run.steps",
 fI K 268 "frames" 174,
 PySem.W.isFn K (.ref 174),
 L2.zaq K 174 "Run.frames",
 nI K "called_by" 330,
 L2.zaq K 330 "called_by",
 nI K "between" 411,
 L2.zaq K 411 "between",
 nI K "small_enough" 404,
 L2.zaq K 404 "small_enough",
 nI K "line_right" 364,
 L2.zaq K 364 "line_right",
 nI K "lines_right" 359,
 L2.zaq K 359 "lines_right",
 nI K "oath_right" 344,
 L2.zaq K 344 "oath_right",
 nI K "hand_right" 397,
 L2.zaq K 397 "hand_right",
 nI K "two_hands_right" 390,
 L2.zaq K 390 "two_hands_right",
 nI K "call_right" 385,
 L2.zaq K 385 "call_right",
 nI K "range_right" 378,
 L2.zaq K 378 "range_right",
 nI K "deed_right" 371,
 L2.zaq K 371 "deed_right",
 nI K "deeds_right" 349,
 L2.zaq K 349 "deeds_right",
 nI K "notes_right" 354,
 L2.zaq K 354 "notes_right",
 nI K "right" 337,
 L2.zaq K 337 "right",
 fI K 618 "__init__" 519,
 PySem.W.isFn K (.ref 519),
 L2.zaq K 519 "Hall.__init__",
 fI K 618 "release" 608,
 PySem.W.isFn K (.ref 608),
 L2.zaq K 608 "Hall.release",
 fI K 618 "called_at" 601]
def zBo2 (K:Fg):List Bool:=[PySem.W.isFn K (.ref 601),
 L2.zaq K 601 "Hall.called_at",
 fI K 618 "release_callers" 615,
 PySem.W.isFn K (.ref 615),
 L2.zaq K 615 "Hall.release_callers",
 nI K "same_oath" 629,
 L2.zaq K 629 "same_oath",
 fI K 618 "lay" 526,
 PySem.W.isFn K (.ref 526),
 L2.zaq K 526 "Hall.lay",
 fI K 618 "must_stand" 587,
 PySem.W.isFn K (.ref 587),
 L2.zaq K 587 "Hall.must_stand",
 fI K 618 "tear" 533,
 PySem.W.isFn K (.ref 533),
 L2.zaq K 533 "Hall.tear",
 nI K "_law_mix" 643,
 L2.zaq K 643 "_law_mix",
 nI K "_law_cell_at" 636,
 L2.zaq K 636 "_law_cell_at",
 nI K "_law_number" 650,
 L2.zaq K 650 "_law_number",
 nI K "_law_free" 665,
 L2.zaq K 665 "_law_free",
 nI K "_law_other_deed" 672,
 L2.zaq K 672 "_law_other_deed",
 nI K "_law_second_deed" 686,
 L2.zaq K 686 "_law_second_deed",
 nI K "_law_first_deed" 679,
 L2.zaq K 679 "_law_first_deed",
 nI K "_law_bare" 655,
 L2.zaq K 655 "_law_bare",
 nI K "_law_sworn_parts" 691,
 L2.zaq K 691 "_law_sworn_parts",
 nI K "_law_hall_parts" 696,
 L2.zaq K 696 "_law_hall_parts",
 nI K "_law_line_by" 660,
 L2.zaq K 660 "_law_line_by",
 nI K "_law_deed_by" 703,
 L2.zaq K 703 "_law_deed_by",
 nI K "_law_hall_by" 708,
 L2.zaq K 708 "_law_hall_by",
 nI K "law" 713,
 L2.zaq K 713 "law",
 PySem.W.nsIn K mainGlobals "all"== some none,
 PySem.W.nsIn K mainGlobals "enumerate"== some none,
 PySem.W.nsIn K mainGlobals "int"== some none,
 PySem.W.nsIn K mainGlobals "isinstance"== some none,
 PySem.W.nsIn K mainGlobals "len"== some none,
 PySem.W.nsIn K mainGlobals "list"== some none,
 PySem.W.nsIn K mainGlobals "max"== some none,
 PySem.W.nsIn K mainGlobals "range"== some none,
 PySem.W.nsIn K mainGlobals "sorted"== some none,
 PySem.W.nsIn K mainGlobals "tuple"== some none,
 PySem.W.nsIn K mainGlobals "zip"== some none,
 PySem.W.nsIn K mainGlobals "NUMBERS"== some (some (.int 9 280)),
 PySem.W.nsIn K mainGlobals "FACTORS"== some (some (.int 8 282)),
 PySem.W.nsIn K mainGlobals "MOST_FRAMES"== some (some (.int 20 326)),
 nI K "HAND_SPOTS" 287,
 L2.zf8 K 287 [(.int 1 567),(.int 2 568),(.int 3 569),(.int 4 570)],
 nI K "LEFT_SPOTS" 288,
 L2.zf8 K 288 [(.int 7 572),(.int 8 573)],
 nI K "LEFT_AS_HANDS" 289,
 L2.zf8 K 289 [(.int 0 575),(.int 1 576),(.int 2 577),(.int 3 578),(.int 4 579),(.int 5 580),(.int 0 581),(.int 1 582)],
 PySem.W.nsIn K mainGlobals "MOST_LINES"== some (some (.int 2 584)),
 PySem.W.nsIn K mainGlobals "MOST_DEEDS"== some (some (.int 8 586)),
 PySem.W.nsIn K mainGlobals "LAST_HAND"== some (some (.int 3 588)),
 PySem.W.nsIn K mainGlobals "LAST_NUMBER"== some (some (.int 99 590)),
 PySem.W.nsIn K mainGlobals "GREATEST_BY"== some (some (.int 1000 592)),
 PySem.W.nsIn K mainGlobals "GREATEST"== some (some (.int 1000000000 594)),
 PySem.W.nsIn K mainGlobals "ASKED_0"== some (some (.int 4 754)),
 PySem.W.nsIn K mainGlobals "ASKED_1"== some (some (.int 5 756)),
 PySem.W.nsIn K mainGlobals "NEW_0"== some (some (.int 6 758)),
 PySem.W.nsIn K mainGlobals "NEW_1"== some (some (.int 7 760)),
 nI K "WHOLES" 417,
 L2.zf8 K 417 [(.int 1 762),(.int 2 763),(.int 3 764),(.int 4 765)],
 L2.ze6 K 31 zbj "ValueError.__new__",
 PySem.W.excIn K 31 zbj "ValueError.__new__",
 L2.ze6 K 44 (.ref 31::zbj) "ValueError.__new__",
 PySem.W.excIn K 44 zbj "ValueError.__new__",
 L2.ze6 K 56 (.ref 31::zbj) "ValueError.__new__",
 PySem.W.excIn K 56 zbj "ValueError.__new__",
 L2.ze6 K 68 (.ref 31::zbj) "ValueError.__new__",
 PySem.W.excIn K 68 zbj "ValueError.__new__",
 L2.ze6 K 80 (.ref 31::zbj) "ValueError.__new__",
 PySem.W.excIn K 80 zbj "ValueError.__new__",
 PySem.W.plainGet K 137 Str.empty,
 PySem.W.hasDictIn K 137,
 PySem.W.plainOver K 137,
 PySem.W.findIn K (.ref 137) "__setattr__"== some (some (.builtin "object.__setattr__")),
 PySem.W.makesIn K 137,
 PySem.W.keepIn K (.ref 137),
 PySem.W.findIn K (.ref 137) "number"== some none,
 PySem.W.findIn K (.ref 137) "place"== some none,
 PySem.W.findIn K (.ref 137) "hands"== some none,
 PySem.W.findIn K (.ref 137) "asked"== some none,
 PySem.W.plainGet K 268 Str.empty,
 PySem.W.hasDictIn K 268,
 PySem.W.plainOver K 268,
 PySem.W.findIn K (.ref 268) "__setattr__"== some (some (.builtin "object.__setattr__")),
 PySem.W.makesIn K 268,
 PySem.W.keepIn K (.ref 268),
 PySem.W.findIn K (.ref 268) "known"== some none,
 PySem.W.findIn K (.ref 268) "inputs_left"== some none,
 PySem.W.findIn K (.ref 268) "stack"== some none,
 PySem.W.findIn K (.ref 268) "steps_done"== some none,
 PySem.W.findIn K (.ref 268) "ending"== some none,
 PySem.W.plainGet K 304 Str.empty,
 PySem.W.hasDictIn K 304,
 PySem.W.plainOver K 304,
 PySem.W.findIn K (.ref 304) "__setattr__"== some (some (.builtin "object.__setattr__")),
 PySem.W.makesIn K 304,
 PySem.W.keepIn K (.ref 304),
 PySem.W.findIn K (.ref 304) "needs"== some none,
 PySem.W.findIn K (.ref 304) "leaves"== some none,
 PySem.W.findIn K (.ref 304) "deeds"== some none,
 PySem.W.findIn K (.ref 304) "notes"== some none,
 PySem.W.plainGet K 618 Str.empty,
 PySem.W.hasDictIn K 618,
 PySem.W.plainOver K 618,
 PySem.W.findIn K (.ref 618) "__setattr__"== some (some (.builtin "object.__setattr__")),
 PySem.W.makesIn K 618,
 PySem.W.keepIn K (.ref 618),
 PySem.W.findIn K (.ref 618) "laid"== some none,
 PySem.W.findIn K (.ref 618) "vouched"== some none]
def zBoo (K:Fg):List Bool:=zBo1 K++zBo2 K
def zSee (K:Fg):List (Option L2.Sig):=[L2.zaQ K 313,L2.zaQ K 318,L2.zaQ K 301,L2.zaQ K 89,L2.zaQ K 96,L2.zaQ K 127,L2.zaQ K 134,L2.zaQ K 540,L2.zaQ K 325,L2.zaQ K 547,L2.zaQ K 258,L2.zaQ K 230,L2.zaQ K 279,L2.zaQ K 265,L2.zaQ K 251,L2.zaQ K 244,L2.zaQ K 237,L2.zaQ K 223,L2.zaQ K 216,L2.zaQ K 286,L2.zaQ K 155,L2.zaQ K 188,L2.zaQ K 195,L2.zaQ K 202,L2.zaQ K 209,L2.zaQ K 181,L2.zaQ K 162,L2.zaQ K 169,L2.zaQ K 174,L2.zaQ K 330,L2.zaQ K 411,L2.zaQ K 404,L2.zaQ K 364,L2.zaQ K 359,L2.zaQ K 344,L2.zaQ K 397,L2.zaQ K 390,L2.zaQ K 385,L2.zaQ K 378,L2.zaQ K 371,L2.zaQ K 349,L2.zaQ K 354,L2.zaQ K 337,L2.zaQ K 519,L2.zaQ K 608,L2.zaQ K 601,L2.zaQ K 615,L2.zaQ K 629,L2.zaQ K 526,L2.zaQ K 587,L2.zaQ K 533,L2.zaQ K 643,L2.zaQ K 636,L2.zaQ K 650,L2.zaQ K 665,L2.zaQ K 672,L2.zaQ K 686,L2.zaQ K 679,L2.zaQ K 655,L2.zaQ K 691,L2.zaQ K 696,L2.zaQ K 660,L2.zaQ K 703,L2.zaQ K 708,L2.zaQ K 713]
def zSig:List (Option L2.Sig):=[gS "copied_lines" "copied_lines" s_copied_lines,
 gS "copied_deed" "copied_deed" s_copied_deed,
 gS "__init__" "Craft.__init__" s_Craft___init__,
 gS "worth" "worth" s_worth,
 gS "holds" "holds" s_holds,
 gS "__init__" "Frame.__init__" s_Frame___init__,
 gS "numbers" "Frame.numbers" s_Frame_numbers,
 gS "standing" "Hall.standing" s_Hall_standing,
 gS "copied_craft" "copied_craft" s_copied_craft,
 gS "crafts" "Hall.crafts" s_Hall_crafts,
 gS "craft_of" "Run.craft_of" s_Run_craft_of,
 gS "is_behind_last_deed" "Run.is_behind_last_deed" s_Run_is_behind_last_deed,
 gS "first_unmet" "first_unmet" s_first_unmet,
 gS "meets" "Run.meets" s_Run_meets,
 gS "take" "Run.take" s_Run_take,
 gS "leave" "Run.leave" s_Run_leave,
 gS "meet_notes" "Run.meet_notes" s_Run_meet_notes,
 gS "come_to" "Run.come_to" s_Run_come_to,
 gS "begin" "Run.begin" s_Run_begin,
 gS "asked_numbers" "asked_numbers" s_asked_numbers,
 gS "__init__" "Run.__init__" s_Run___init__,
 gS "put" "Run.put" s_Run_put,
 gS "draw" "Run.draw" s_Run_draw,
 gS "hold" "Run.hold" s_Run_hold,
 gS "call" "Run.call" s_Run_call,
 gS "step" "Run.step" s_Run_step,
 gS "go" "Run.go" s_Run_go,
 gS "steps" "Run.steps" s_Run_steps,
 gS "frames" "Run.frames" s_Run_frames,
 gS "called_by" "called_by" s_called_by,
 gS "between" "between" s_between,
 gS "small_enough" "small_enough" s_small_enough,
 gS "line_right" "line_right" s_line_right,
 gS "lines_right" "lines_right" s_lines_right,
 gS "oath_right" "oath_right" s_oath_right,
 gS "hand_right" "hand_right" s_hand_right,
 gS "two_hands_right" "two_hands_right" s_two_hands_right,
 gS "call_right" "call_right" s_call_right,
 gS "range_right" "range_right" s_range_right,
 gS "deed_right" "deed_right" s_deed_right,
 gS "deeds_right" "deeds_right" s_deeds_right,
 gS "notes_right" "notes_right" s_notes_right,
 gS "right" "right" s_right,
 gS "__init__" "Hall.__init__" s_Hall___init__,
 gS "release" "Hall.release" s_Hall_release,
 gS "called_at" "Hall.called_at" s_Hall_called_at,
 gS "release_callers" "Hall.release_callers" s_Hall_release_callers,
 gS "same_oath" "same_oath" s_same_oath,
 gS "lay" "Hall.lay" s_Hall_lay,
 gS "must_stand" "Hall.must_stand" s_Hall_must_stand,
 gS "tear" "Hall.tear" s_Hall_tear,
 gS "_law_mix" "_law_mix" s_l_mix,
 gS "_law_cell_at" "_law_cell_at" s_l_cell_at,
 gS "_law_number" "_law_number" s_l_number,
 gS "_law_free" "_law_free" s_l_free,
 gS "_law_other_deed" "_law_other_deed" s_l_other_deed,
 gS "_law_second_deed" "_law_second_deed" s_l_second_deed,
 gS "_law_first_deed" "_law_first_deed" s_l_first_deed,
 gS "_law_bare" "_law_bare" s_l_bare,
 gS "_law_sworn_parts" "_law_sworn_parts" s_l_sworn_parts,
 gS "_law_hall_parts" "_law_hall_parts" s_l_hall_parts,
 gS "_law_line_by" "_law_line_by" s_l_line_by,
 gS "_law_deed_by" "_law_deed_by" s_l_deed_by,
 gS "_law_hall_by" "_law_hall_by" s_l_hall_by,
 gS "law" "law" s_law]
def HK:PySem.W.Hook:=L2.eHook (List.range 714) (λK=>((zBoo K).all id,zSee K)) (true,zSig)
set_option maxRecDepth 1000000 in
set_option maxHeartbeats 0 in
theorem said0:OpenLaw.wellSaid PySem.Challenge.rw_swornhall_k17_whole_cut_and_gone_on=true:=by
 rw[PySem.W.Fast.te9446332074065402090]
 kernel_rfl
set_option maxRecDepth 1000000 in
set_option maxHeartbeats 0 in
theorem _root_.PySem.Challenge.hd_swornhall_k17_whole_cut_and_gone_on (q:∀ (d:DefRec) (kwd:List (Str × PySem.Expr)),defOf My.Qv PySem.Challenge.rw_swornhall_k17_whole_cut_and_gone_on.row.name=some (d,kwd)→WalkO My.Qv [] (XL My.Qv []) (Hook.says My.HK) PySem.Challenge.rw_swornhall_k17_whole_cut_and_gone_on.row.toRowW d kwd λf vs=>PySem.call f vs):PySem.Challenge.rw_swornhall_k17_whole_cut_and_gone_on.Holds:=by
 refine holds_law My.said0 λsaid=>?_
 have h:=q _ _ rfl
 refine (λ(_:type_of% h)=>?m) ?hc
 rotate_left
 exact h
 o_head My.HK
 case hw=>w_witness2
end
end My
namespace L2
open PySem PySem.Spec PyProof.Rows

abbrev Key:=Sum Int Str
def zg3:Key→Value→Bool
 | .inl k,v=>Value.isInt k v
 | .inr x,v=>Value.isStrOf x v
def keyH (w:World):Key→Int
 | .inl k=>hashInt k
 | .inr x=>hashStr w x
theorem zbb:∀ {k:Key}{v:Value},zg3 k v=true→(∃ i t,k=Sum.inl i∧v=Value.int i t)∨(∃ x t,k=Sum.inr x∧v=Value.str x t)
 | .inl i,v,h=>by
  obtain⟨t,e⟩:=Value.isInt_shape (k:=i) (v:=v) h
  exact .inl ⟨i,t,rfl,e⟩
 | .inr x,v,h=>by
  obtain⟨t,e⟩:=Value.isStrOf_shape (x:=x) (v:=v) h
  exact .inr ⟨x,t,rfl,e⟩
theorem zkc (i:Int) (t:Tok):zg3 (.inl i) (.int i t)=true:=by simp[zg3,Value.isInt]
theorem zkd (x:Str) (t:Tok):zg3 (.inr x) (.str x t)=true:=by simp[zg3,Value.isStrOf]
theorem zor (a b:Int):decide ((Sum.inl a:Key)=Sum.inl b)=(a == b):=by
 by_cases e:a=b
 ·subst e;simp
 ·have h:¬ (Sum.inl a:Key)=Sum.inl b:=λq=>e (Sum.inl.inj q)
  rw[decide_eq_false h]
  exact (beq_eq_false_iff_ne.mpr e).symm
theorem zos (a b:Str):decide ((Sum.inr a:Key)=Sum.inr b)=decide (a=b):=by
 by_cases e:a=b
 ·subst e;simp
 ·have h:¬ (Sum.inr a:Key)=Sum.inr b:=λq=>e (Sum.inr.inj q)
  rw[decide_eq_false h,decide_eq_false e]
theorem zot (a:Int) (b:Str):decide ((Sum.inl a:Key)=Sum.inr b)=false:=decide_eq_false (λq=>nomatch q)
theorem zou (a:Str) (b:Int):decide ((Sum.inr a:Key)=Sum.inl b)=false:=decide_eq_false (λq=>nomatch q)
def zbo (prog:Program) (w:World):PySem.KeyKind prog w Key where
 is:=zg3
 hash:=keyH w
 inj:=λv a b ha hb=>by
  rcases zbb ha with ⟨i,t,rfl,rfl⟩ | ⟨x,t,rfl,rfl⟩
  ·rcases zbb hb with ⟨j,u,rfl,e⟩ | ⟨y,u,rfl,e⟩
   ·injection e with e1 _;rw[e1]
   ·exact nomatch e
  ·rcases zbb hb with ⟨j,u,rfl,e⟩ | ⟨y,u,rfl,e⟩
   ·exact nomatch e
   ·injection e with e1 _;rw[e1]
 byValue:=λk v h=>by
  rcases zbb h with ⟨i,t,rfl,rfl⟩ | ⟨x,t,rfl,rfl⟩ <;> rfl
 pyHash:=λhv h=>by
  rcases zbb hv with ⟨i,t,rfl,rfl⟩ | ⟨x,t,rfl,rfl⟩
  ·exact wpAny_pyHash_int h
  ·exact wpAny_pyHash_str h
 eqBool:=λhu hv h=>by
  rcases zbb hu with ⟨i,t,rfl,rfl⟩ | ⟨x,t,rfl,rfl⟩
  ·rcases zbb hv with ⟨j,u,rfl,rfl⟩ | ⟨y,u,rfl,rfl⟩
   ·rw[zor] at h;exact wpAny_eqBool_int h
   ·rw[zot] at h;exact SeqAt.EqAt.int_str i t y u _ _ _ _ h
  ·rcases zbb hv with ⟨j,u,rfl,rfl⟩ | ⟨y,u,rfl,rfl⟩
   ·rw[zou] at h;exact SeqAt.EqAt.str_int x t j u _ _ _ _ h
   ·rw[zos] at h;exact wpAny_eqBool_str h
 «strs»:=λk x t v h=>by
  rcases zbb h with ⟨i,u,rfl,e⟩ | ⟨y,u,rfl,e⟩
  ·exact nomatch e
  ·injection e with e1 _
   subst e1
   cases v <;> rfl
theorem zh3 (prog:Program) (w:World) (i:Int) (t:Tok):(zbo prog w).is (.inl i) (.int i t)=true:=zkc i t
theorem zh4 (prog:Program) (w:World) (x:Str) (t:Tok):(zbo prog w).is (.inr x) (.str x t)=true:=zkd x t
end L2

namespace L2
open PySem PySem.Spec PyProof.Rows

inductive V where
 | non | bl (b:Bool) | int (i:Int) | str (x:Str) | byt (b:Array UInt8) | flt (b:UInt64) | ref (a:Addr) | ty (n:String)
 deriving DecidableEq
def RelV:V→Value→Prop
 | .non,u=>u=Value.none
 | .bl b,u=>u=Value.bool b
 | .int i,u=>∃ t,u=Value.int i t
 | .str x,u=>∃ t,u=Value.str x t
 | .byt b,u=>∃ t,u=Value.bytes b t
 | .flt b,u=>∃ t,u=Value.float b t
 | .ref a,u=>u=Value.ref a
 | .ty n,u=>u=Value.type n
abbrev Vals:List V→List Value→Prop:=Paired RelV
theorem Vals.length {xs:List V}{us:List Value}(r:Vals xs us):xs.length=us.length:=Paired.length r
theorem Vals.get:∀ {xs:List V}{us:List Value}{i:Nat}{x:V},Vals xs us→xs[i]?=some x→∃ u,us[i]?=some u∧RelV x u
 | _,_,_,_,.nil,e=>by simp at e
 | _,_,0,_,.cons r _,e=>by simp at e;subst e;exact⟨_,rfl,r⟩
 | _,_,i+1,x,.cons _ t,e=>by
  obtain⟨u,h1,h2⟩:=Vals.get (i:=i) (x:=x) t (by simpa using e)
  exact⟨u,by simpa using h1,h2⟩
theorem Vals.set {x:V}{u:Value}(r:RelV x u):∀ {xs:List V}{us:List Value}(i:Nat),Vals xs us→Vals (xs.set i x) (us.set i u)
 | _,_,_,.nil=>.nil
 | _,_,0,.cons _ t=>.cons r t
 | _,_,i+1,.cons q t=>.cons q (Vals.set r i t)
theorem Vals.append:∀ {xs ys:List V}{us ws:List Value},Vals xs us→Vals ys ws→Vals (xs++ys) (us++ws)
 | _,_,_,_,.nil,s=>s
 | _,_,_,_,.cons r t,s=>.cons r (Vals.append t s)
theorem Vals.take:∀ {xs:List V}{us:List Value}(n:Nat),Vals xs us→Vals (xs.take n) (us.take n)
 | _,_,0,_=>.nil
 | _,_,_+1,.nil=>.nil
 | _,_,n+1,.cons r t=>.cons r (Vals.take n t)
theorem Vals.drop:∀ {xs:List V}{us:List Value}(n:Nat),Vals xs us→Vals (xs.drop n) (us.drop n)
 | _,_,0,r=>r
 | _,_,_+1,.nil=>.nil
 | _,_,n+1,.cons _ t=>Vals.drop n t
theorem Vals.none_of:∀ {xs:List V}{us:List Value}{i:Nat},Vals xs us→xs[i]?=none→us[i]?=none:=λ{xs us i} r e=>by
 have h1:=r.length
 have h2:xs.length≤i:=List.getElem?_eq_none_iff.mp e
 exact List.getElem?_eq_none_iff.mpr (by omega)
def RelO:Option V→Option Value→Prop
 | some v,some u=>RelV v u
 | none,none=>True
 | _,_=>False
def KV {κ:Type} : List (κ × V)→List (κ × Value)→Prop:=Paired λ(p:κ × V) (q:κ × Value)=>p.1=q.1∧RelV p.2 q.2
def kV:Key→V
 | .inl i=>.int i
 | .inr x=>.str x
inductive HO where
 /-- a list -/
 | lst (xs:List V)
 /-- a tuple (never changes) -/
 | tup (xs:List V)
 /-- a dict whose keys are ints and texts;one whose keys are tuples of ints and texts (the empty one is both) -/
 | dK (kvs:List (Key × V)) | dT (kvs:List (List Key × V))
 /-- a set of ints: its members,its size -/
 | set (S:Int→Bool) (n:Nat)
 /-- an instance of the class at C,its dict at dx,its attributes -/
 | ins (C dx:Addr) (fs:List (Str × V))
 /-- the dict of the instance at x -/
 | own (x:Addr)
 /-- the dict of an exception -/
 | xd (fs:List (Str × V))
 /-- a bound method,f of x -/
 | met (f x:Addr)
 /-- a range object lo,lo+1,.. below hi -/
 | rng (lo hi:Int)
 /-- a thing that is known to the object (the script;a dict while a loop walks it): read,never written while it is so -/
 | frz (o:Obj) (u:HO)
 /-- a code object's table -/
 | tbl (ps:Array Value)
 /-- any other thing,by what is true of its one object (a def of one's own: SetO a S n:=HO.ext λh=>..) -/
 | ext (φ:Heap→Prop)
abbrev Hp:=Addr→Option HO
def upd (H:Hp) (a:Addr) (o:HO):Hp:=λb=>if b=a then some o else H b
theorem zaf {H:Hp}{a:Addr}{o:HO} : upd H a o a=some o:=by unfold upd;rw[if_pos rfl]
theorem zak {H:Hp}{a b:Addr}{o:HO}(h:b≠a):upd H a o b=H b:=by unfold upd;rw[if_neg h]
theorem zjs {H:Hp}{a b:Addr}{o u:HO}(h:H a=some o) (h':H b=some u) (d:o≠u):a≠b:=by
 intro e;subst e;rw[h] at h';exact d (Option.some.inj h')
theorem zam {H:Hp}{a b:Addr}{o:HO}(h:H a=some o) (h':H b=none):a≠b:=by
 intro e;subst e;rw[h] at h';cases h'
section
variable (P : Program) (w : World)
def zbA (H:Hp) (h:Heap) (a:Addr):HO→Prop
 | .lst xs=>xs.length≤sizeLine∧∃ (its:List Value) (n:Nat),Vals xs its∧h.get? a=some {cls:=.type "list",data:=.seq its.toArray n}
 | .tup xs=>xs.length≤sizeLine∧∃ its:List Value,Vals xs its∧IsTup h a its.toArray
 | .dK kvs=>kvs.length≤sizeLine∧(a == sysModules)=false∧∃ vs,KV kvs vs∧h.DictOf (zbo P w) a vs
 | .dT kvs=>kvs.length≤sizeLine∧(a == sysModules)=false∧∃ xs:List (List Key × Addr × Value),
   Paired (λ(p:List Key × V) (q:List Key × Addr × Value)=>p.1=q.1∧H q.2.1=some (.tup (p.1.map kV))∧RelV p.2 q.2.2) kvs xs∧
   ∃ o es ep,h.get? a=some o∧o.ExactDict∧o.data=.dict es ep∧es.toList=xs.map (entryOfKey (tupleKind (zbo P w)))∧(xs.map (·.1)).Nodup
 | .set S n=>h.SetOf (intKind P w) a S n
 | .ins C dx fs=>H dx=some (.own a)∧fs.length≤1000∧dx≠a∧h.get? a=some (PySem.W.instObj C dx)∧
   ∃ mA,h.Ns1 dx mA∧(∀ f,RelO (fs.lookup f) (mA f))∧PySem.Within mA (fs.map (·.1))
 | .own _=>∃ o,h.get? a=some o
 | .xd fs=>∃ mA,h.Ns1 a mA∧∀ f,RelO (fs.lookup f) (mA f)
 | .rng lo hi=>∃ t u v,h.get? a=some {cls:=.type "range",data:=.fields #[.int lo t,.int hi u,.int 1 v]}
 | .frz o u=>h.get? a=some o∧zbA H h a u
 | .tbl ps=>h.get? a=some {cls:=.none,data:=.fields ps}
 | .met f x=>h.get? a=some (PySem.W.methodObj (.ref f) (.ref x))
 | .ext φ=>φ h∧(∃ o,h.get? a=some o)∧∀ h1 h2:Heap,φ h1→(∀ o,h1.get? a=some o→h2.get? a=some o)→φ h2
def HOk (H:Hp) (h:Heap):Prop:=∀ a o,H a=some o→zbA P w H h a o
end

section
variable {P : Program} {w : World} {H H' : Hp} {h h' : Heap} {a : Addr} {o : HO}
theorem zbA.lt (x:zbA P w H h a o):a<h.objs.size:=by
 cases o with
 | lst xs=>obtain⟨_,_,_,_,e⟩:=x;exact Heap.lt_size e
 | tup xs=>obtain⟨_,_,_,p⟩:=x;exact p.lt
 | dK kvs=>obtain⟨_,_,_,_,o,_,_,e,_⟩:=x;exact Heap.lt_size e
 | dT kvs=>obtain⟨_,_,_,_,o,_,_,e,_⟩:=x;exact Heap.lt_size e
 | set S n=>obtain⟨o,_,_,_,e,_⟩:=x;exact Heap.lt_size e
 | ins C dx fs=>obtain⟨_,_,_,e,_⟩:=x;exact Heap.lt_size e
 | own y=>obtain⟨_,e⟩:=x;exact Heap.lt_size e
 | xd fs=>obtain⟨_,⟨_,_,_,e,_⟩,_⟩:=x;exact Heap.lt_size e
 | rng lo hi=>obtain⟨_,_,_,e⟩:=x;exact Heap.lt_size e
 | frz ob u=>obtain⟨e,_⟩:=x;exact Heap.lt_size e
 | tbl ps=>exact Heap.lt_size (show h.get? a=some _ from x)
 | met f y=>exact Heap.lt_size (show h.get? a=some _ from x)
 | ext φ=>obtain⟨_,⟨_,e⟩,_⟩:=x;exact Heap.lt_size e
theorem Paired.mapP {α β:Type}{F G:α→β→Prop} : ∀ {l₁:List α}{l₂:List β},Paired F l₁ l₂→(∀ a b,F a b→G a b)→Paired G l₁ l₂
 | _,_,.nil,_=>.nil
 | _,_,.cons r t,f=>.cons (f _ _ r) (Paired.mapP t f)
theorem zbA.stay (x:zbA P w H h a o) (k:∀ b u,(b=a∨H b=some (.own a))→h.get? b=some u→h'.get? b=some u)
  (ho:∀ b,H b=some (.own a)→H' b=some (.own a)) (ht:∀ b xs,H b=some (.tup xs)→H' b=some (.tup xs)):zbA P w H' h' a o:=by
 induction o with
 | lst xs=>obtain⟨z,its,n,r,e⟩:=x;exact⟨z,its,n,r,k _ _ (.inl rfl) e⟩
 | tup xs=>obtain⟨z,its,r,ob,e,c⟩:=x;exact⟨z,its,r,ob,k _ _ (.inl rfl) e,c⟩
 | dK kvs=>obtain⟨z,y,vs,r,ob,es,ep,e,c⟩:=x;exact⟨z,y,vs,r,ob,es,ep,k _ _ (.inl rfl) e,c⟩
 | dT kvs=>
  obtain⟨z,y,xs,r,ob,es,ep,e,c⟩:=x
  exact⟨z,y,xs,Paired.mapP r λp q z=>⟨z.1,ht _ _ z.2.1,z.2.2⟩,ob,es,ep,k _ _ (.inl rfl) e,c⟩
 | set S n=>obtain⟨ob,es,ep,t,e,c⟩:=x;exact⟨ob,es,ep,t,k _ _ (.inl rfl) e,c⟩
 | ins C dx fs=>
  obtain⟨d,z,ne,e,mA,⟨od,es,ep,e2,c⟩,r⟩:=x
  exact⟨ho _ d,z,ne,k _ _ (.inl rfl) e,mA,⟨od,es,ep,k _ _ (.inr d) e2,c⟩,r⟩
 | own y=>obtain⟨ob,e⟩:=x;exact⟨ob,k _ _ (.inl rfl) e⟩
 | xd fs=>obtain⟨mA,⟨od,es,ep,e,c⟩,r⟩:=x;exact⟨mA,⟨od,es,ep,k _ _ (.inl rfl) e,c⟩,r⟩
 | rng lo hi=>obtain⟨t,u,v,e⟩:=x;exact⟨t,u,v,k _ _ (.inl rfl) e⟩
 | frz ob u ih=>obtain⟨e,q⟩:=x;exact⟨k _ _ (.inl rfl) e,ih q⟩
 | tbl ps=>
  have e:h.get? a=some {cls:=.none,data:=.fields ps}:=x
  show h'.get? a=some {cls:=.none,data:=.fields ps}
  exact k a _ (.inl rfl) e
 | met f y=>
  have e:h.get? a=some (PySem.W.methodObj (.ref f) (.ref y)):=x
  show h'.get? a=some (PySem.W.methodObj (.ref f) (.ref y))
  exact k a _ (.inl rfl) e
 | ext φ=>obtain⟨p,⟨o,e⟩,st⟩:=x;exact⟨st _ _ p λo q=>k _ _ (.inl rfl) q,⟨o,k _ _ (.inl rfl) e⟩,st⟩
theorem HOk.lt (x:HOk P w H h) (e:H a=some o):a<h.objs.size:=(x a o e).lt
theorem HOk.fresh (x:HOk P w H h) (e:h.objs.size≤a):H a=none:=by
 cases q:H a with
 | none=>rfl
 | some u=>exact absurd (Nat.lt_of_lt_of_le (x.lt q) e) (Nat.lt_irrefl _)
theorem HOk.kept (x:HOk P w H h) (k:∀ b u,h.get? b=some u→h'.get? b=some u):HOk P w H h':=λa o e=>
 (x a o e).stay (λb u _ q=>k b u q) (λ_ q=>q) λ_ _ q=>q
theorem HOk.laid (x:HOk P w H h) (k:∀ b u,h.get? b=some u→h'.get? b=some u) (hp:h.objs.size≤a) (new:zbA P w (upd H a o) h' a o):HOk P w (upd H a o) h':=λb u e=>by
 have hn:=x.fresh hp
 by_cases hb:b=a
 ·subst hb;rw[zaf] at e;cases e;exact new
 ·rw[zak hb] at e
  exact (x b u e).stay (λc v _ q=>k c v q) (λc q=>by rw[zak (zam q hn)];exact q) λc xs q=>by rw[zak (zam q hn)];exact q
end

def Rd (H:Hp) (a:Addr) (u:HO):Prop:=H a=some u∨∃ o,H a=some (.frz o u)
theorem Rd.ok {P:Program}{w:World}{H:Hp}{h:Heap}{a:Addr}{u:HO}(r:Rd H a u) (x:HOk P w H h):zbA P w H h a u:=by
 rcases r with r | ⟨o,r⟩
 ·exact x a u r
 ·obtain⟨_,q⟩:=x a _ r
  exact q
def Mut:Option HO→Prop
 | some (.lst _)=>True
 | some (.dK _)=>True
 | some (.dT _)=>True
 | some (.set _ _)=>True
 | some (.ins _ _ _)=>True
 | some (.ext _)=>True
 | _=>False
section
variable {P : Program} {w : World} {H : Hp} {h h' : Heap} {x e : Addr} {o' : HO}
theorem HOk.write (ok:HOk P w H h) (mu:Mut (H x)) (he:e=x∨H e=some (.own x)) (k:∀ b u,b≠e→h.get? b=some u→h'.get? b=some u) (heo:∃ u,h'.get? e=some u)
  (new:zbA P w (upd H x o') h' x o'):HOk P w (upd H x o') h':=λb u q=>by
 have nown:∀ c y,H c=some (.own y)→c≠x:=λc y r z=>by subst z;rw[r] at mu;exact mu
 have ntup:∀ c xs,H c=some (.tup xs)→c≠x:=λc xs r z=>by subst z;rw[r] at mu;exact mu
 by_cases hb:b=x
 ·subst hb;rw[zaf] at q;cases q;exact new
 ·rw[zak hb] at q
  by_cases hbe:b=e
  ·have q':H b=some (.own x):=by
    rcases he with z | z
    ·exact absurd (hbe.trans z) hb
    ·rw[hbe];exact z
   rw[q] at q';cases q'
   obtain⟨v,hv⟩:=heo
   exact⟨v,by rw[hbe];exact hv⟩
  ·refine (ok b u q).stay (λc v hc r=>k c v ?_ r) (λc r=>by rw[zak (nown c b r)];exact r) λc xs r=>by rw[zak (ntup c xs r)];exact r
   rcases hc with rfl | hc
   ·exact hbe
   ·rintro rfl
    rcases he with z | z
    ·exact nown c b hc z
    ·rw[hc] at z;cases z;exact hb rfl
end

structure Un (fs ex:List Addr) (H H':Hp) (h h':Heap):Prop where
 keep:∀ b o,h.get? b=some o→H b=none→b∉fs→b∉ex→h'.get? b=some o
 slot:∀ b o,h.get? b=some o→H b=none→b∈fs→b∉ex→∃ sl,h'.get? b=some {o with slots:=sl}
 free:∀ b o,h.get? b=some o→H b=none→b∉ex→H' b=none
 there:∀ b o,h.get? b=some o→b∉ex→∃ o',h'.get? b=some o'
 tups:∀ b xs,H b=some (.tup xs)→H' b=some (.tup xs)
 frzs:∀ b o u,H b=some (.frz o u)→H' b=some (.frz o u)
 tbls:∀ b ps,H b=some (.tbl ps)→∃ more,H' b=some (.tbl (ps++more))
section
variable {fs fs' ex ex' : List Addr} {H H1 H2 : Hp} {h h1 h2 h' : Heap} {a x e : Addr} {o : HO}
theorem Un.any (u:Un fs ex H H1 h h1) {b:Addr}{ob:Obj}(q:h.get? b=some ob) (n:H b=none) (hx:b∉ex):∃ sl,h1.get? b=some {ob with slots:=sl}:=by
 by_cases hb:b∈fs
 ·exact u.slot b ob q n hb hx
 ·exact⟨ob.slots,u.keep b ob q n hb hx⟩
theorem Un.kept (k:∀ b u,h.get? b=some u→h'.get? b=some u):Un fs ex H H h h':=
 ⟨λb ob q _ _ _=>k b ob q,λb ob q _ _ _=>⟨ob.slots,k b ob q⟩,λ_ _ _ n _=>n,λb ob q _=>⟨ob,k b ob q⟩,λ_ _ q=>q,λ_ _ _ q=>q,λ_ ps q=>⟨#[],by rw[q];simp⟩⟩
theorem Un.refl:Un fs ex H H h h:=Un.kept λ_ _ q=>q
theorem Un.laid (k:∀ b u,h.get? b=some u→h'.get? b=some u) (hp:h.objs.size≤a) (hn:H a=none):Un fs ex H (upd H a o) h h' where
 keep:=λb u q _ _ _=>k b u q
 slot:=λb u q _ _ _=>⟨u.slots,k b u q⟩
 free:=λb u q n _=>by rw[zak (Nat.ne_of_lt (Nat.lt_of_lt_of_le (Heap.lt_size q) hp))];exact n
 there:=λb u q _=>⟨u,k b u q⟩
 tups:=λb xs q=>by rw[zak (zam q hn)];exact q
 frzs:=λb u xs q=>by rw[zak (zam q hn)];exact q
 tbls:=λb ps q=>⟨#[],by rw[zak (zam q hn),q];simp⟩
theorem Un.write (mu:Mut (H x)) (he:e=x∨H e=some (.own x)) (k:∀ b u,b≠e→h.get? b=some u→h'.get? b=some u) (heo:∃ u,h'.get? e=some u):Un fs ex H (upd H x o) h h':=by
 have hx:∀ b,H b=none→b≠x:=λb n z=>by subst z;rw[n] at mu;exact mu
 have hb:∀ b,H b=none→b≠e:=λb n z=>by
  subst z
  rcases he with r | r
  ·exact hx b n r
  ·rw[n] at r;cases r
 have hm:∀ b u,H b=some u→¬ Mut (some u)→b≠x:=λb u q nm z=>by subst z;rw[q] at mu;exact nm mu
 refine⟨λb u q n _ _=>k b u (hb b n) q,λb u q n _ _=>⟨u.slots,k b u (hb b n) q⟩,λb u q n _=>by rw[zak (hx b n)];exact n,λb u q _=>?_,
  λb xs q=>by rw[zak (hm b _ q λz=>z)];exact q,λb u xs q=>by rw[zak (hm b _ q λz=>z)];exact q,λb ps q=>⟨#[],by rw[zak (hm b _ q λz=>z),q];simp⟩⟩
 by_cases hbe:b=e
 ·subst hbe;exact heo
 ·exact⟨u,k b u hbe q⟩
end

def trk (h:Heap) (H:Hp):List Addr:=(List.range h.objs.size).filter λa=>(H a).isSome
def hidT (h:Heap) (H:Hp):Heap:=PySem.W.hideAll h (trk h H)
theorem zke (h:Heap) (H:Hp):(hidT h H).objs.size=h.objs.size:=PySem.W.hideAll_size _ _
theorem zlN {h:Heap}{H:Hp}{b:Addr}{o:Obj}(e:h.get? b=some o) (n:H b=none):(hidT h H).get? b=some o:=
 PySem.W.hideAll_get _ e λhm=>by
  have q:(H b).isSome=true:=(List.mem_filter.mp hm).2
  rw[n] at q;simp at q
theorem znn {h:Heap}{H:Hp}{b:Addr}{o:Obj}(e:(hidT h H).get? b=some o):h.get? b=some o∧H b=none:=by
 have e':h.get? b=some o:=PySem.W.of_hideAll (trk h H) e
 refine⟨e',?_⟩
 cases q:H b with
 | none=>rfl
 | some x=>
  have hm:b∈trk h H:=List.mem_filter.mpr ⟨List.mem_range.mpr (Heap.lt_size e'),by simp[q]⟩
  have z:(hidT h H).get? b=none:=PySem.W.hideAll_none (trk h H) hm
  rw[z] at e;cases e
end L2

namespace L2
open PySem PySem.Spec PyProof.Rows

structure Mod (K:Fg) (mg:Str→Option Value) (base:Heap):Prop where
 kin:K.In base
 glob:base.Ns mainGlobals mg
 blt:∃ mb,base.Ns builtinsNs mb∧∀ x:Str,x≠ "__name__" →mb x=bootBuiltins x
 nolimit:base.NoLimit
structure Cx where
 prog:Program
 w:World
 K:Fg
 mg:Str→Option Value
 base:Heap
 A:Around
 N:List Str
 s₀:Shared
 H₀:Hp
 env:Env
 outer:List Env
 stack:List Env
 ex:List Addr
 fn:Str→Bool
 calm:Bool
 pn:List (Addr × Obj)
 xe:Value→Shared→Prop
def frs (l:List Env):List Addr:=l.filterMap (·.frame)
abbrev Cx.fs (X:Cx):List Addr:=frs X.outer
def Vis (sc:Scope) (x:Str):Prop:=sc.names.lookup x=some .local∨sc.names.lookup x=some .cell∨sc.names.lookup x=some .free
def Loc (sc:Scope) (x:Str):Prop:=sc.names.lookup x=some .local∨sc.names.lookup x=some .cell
def Look (env:Env) (h:Heap) (m:Str→Option Value) (x:Str) (u:Value):Prop:=
 (env.kindOf x=some .local∧m x=some u)∨((env.kindOf x=some .cell∨env.kindOf x=some .free)∧∃ c,env.cells.lookup x=some c∧h.IsCell c (some u))
structure Cx.Ok (X:Cx):Prop where
 mod:Mod X.K X.mg X.base
 kind:X.env.scope.kind=.function
 glob:X.env.globals=mainGlobals
 blt:X.env.builtins=builtinsNs
 above:X.s₀.heap.objs.size≤X.env.locals
 inj:∀ x y c,X.env.cells.lookup x=some c→X.env.cells.lookup y=some c→x=y
 has:∀ x,(X.env.kindOf x=some .cell∨X.env.kindOf x=some .free)→∃ c,X.env.cells.lookup x=some c
 cab:∀ x c,X.fn x=true→X.env.cells.lookup x=some c→X.s₀.heap.objs.size≤c
 hd:X.calm=true→X.A.handled=none
 frames:X.A.frames=some X.stack
 stk:X.stack=X.outer∨(X.stack=X.env::X.outer∧X.env.frame=some X.env.locals)
 exf:∀ b∈X.ex,b≠X.env.locals∧∀ x c,X.env.cells.lookup x=some c→c≠b
 bs:∀ b o,X.base.get? b=some o→X.s₀.heap.get? b=some o∧X.H₀ b=none
 bsz:X.base.objs.size≤X.s₀.heap.objs.size
 noex:∀ b o,X.base.get? b=some o→b∉X.ex
 exfs:∀ b∈X.ex,b∉X.fs
 funs:X.s₀.heap.FunFrames X.base X.outer
 frf:∀ b∈X.fs,X.H₀ b=none
structure Inv (X:Cx) (pins:List (Addr × Obj)) (σ:List (Option V)) (H:Hp) (s:Shared):Prop where
 ok:X.Ok
 os:s.os=X.s₀.os
 bare:AllBare s.gens
 base:Un X.fs X.ex X.H₀ H X.s₀.heap s.heap
 loc:∃ m,s.heap.Ns X.env.locals m∧∀ (i:Nat) (x:Str) (v:V),X.N[i]?=some x→σ[i]?=some (some v)→Vis X.env.scope x→∃ u,RelV v u∧Look X.env s.heap m x u
 cell:∀ x c,X.env.cells.lookup x=some c→∃ v,s.heap.IsCell c v
 free:H X.env.locals=none
 freeC:∀ x c,X.env.cells.lookup x=some c→H c=none
 pin:∀ p∈X.pn++pins,s.heap.get? p.1=some p.2∧H p.1=none∧p.1≠X.env.locals∧p.1∉X.fs∧∀ v,p.2.data≠.cell v
 hok:HOk X.prog X.w H s.heap
 len:σ.length=X.N.length
section
variable {X : Cx} {pins : List (Addr × Obj)} {σ : List (Option V)} {H H' : Hp} {s : Shared} {h' : Heap}

theorem Cx.Ok.nofr (ok:X.Ok) {b:Addr}{o:Obj}(e:X.base.get? b=some o):b∉X.fs:=λhb=>by
 have:=(ok.funs.mem hb).1
 rw[e] at this;cases this
theorem Inv.bs (I:Inv X pins σ H s):∀ b o,X.base.get? b=some o→s.heap.get? b=some o∧H b=none:=λb o e=>
 ⟨I.base.keep b o (I.ok.bs b o e).1 (I.ok.bs b o e).2 (I.ok.nofr e) (I.ok.noex b o e),I.base.free b o (I.ok.bs b o e).1 (I.ok.bs b o e).2 (I.ok.noex b o e)⟩
theorem Inv.bk (I:Inv X pins σ H s):∀ b o,X.base.get? b=some o→s.heap.get? b=some o:=λb o e=>(I.bs b o e).1
theorem Inv.mod (I:Inv X pins σ H s):Mod X.K X.mg X.base:=I.ok.mod
theorem Inv.kIn (I:Inv X pins σ H s):X.K.In s.heap:=I.ok.mod.kin.keeps I.bk
theorem Inv.lt (I:Inv X pins σ H s):X.env.locals<s.heap.objs.size:=let ⟨_,hn,_⟩:=I.loc;hn.lt
theorem Inv.sz (I:Inv X pins σ H s):X.s₀.heap.objs.size≤s.heap.objs.size:=Nat.le_trans I.ok.above (Nat.le_of_lt I.lt)
theorem Inv.nofs (I:Inv X pins σ H s) {a:Addr}(h:s.heap.objs.size≤a):a∉X.fs:=λhb=>by
 obtain⟨_,o,ho,_⟩:=I.ok.funs.mem hb
 exact absurd (Nat.lt_of_lt_of_le (Heap.lt_size ho) (Nat.le_trans I.sz h)) (Nat.lt_irrefl _)
theorem Inv.cne (I:Inv X pins σ H s):∀ x c,X.env.cells.lookup x=some c→c≠X.env.locals:=λx c e z=>by
 obtain⟨v,o,ho,hd⟩:=I.cell x c e
 obtain⟨m,⟨o',es,ep,ho',hd',_⟩,_⟩:=I.loc
 rw[z,ho'] at ho;cases ho;rw[hd'] at hd;cases hd
theorem Inv.funs (I:Inv X pins σ H s):s.heap.FunFrames X.base X.outer:=by
 have all:∀ (l:List Env),(∀ b∈frs l,b∈X.fs)→X.s₀.heap.FunFrames X.base l→s.heap.FunFrames X.base l:=by
  intro l
  induction l with
  | nil=>intro _ _;trivial
  | cons env r ih=>
   intro hs hl
   obtain⟨hk,⟨L,o,hf,hn,ho,hd⟩,hr⟩:=hl
   have hL:L∈X.fs:=hs L (by unfold frs;rw[List.filterMap_cons,hf];exact List.mem_cons_self)
   obtain⟨sl,e⟩:=I.base.slot L o ho (I.ok.frf L hL) hL λz=>I.ok.exfs L z hL
   exact⟨hk,⟨L,_,hf,hn,e,hd⟩,ih (λb hb=>hs b (by unfold frs;rw[List.filterMap_cons,hf];exact List.mem_cons_of_mem _ hb)) hr⟩
 exact all X.outer (λ_ hb=>hb) I.ok.funs
theorem Inv.stack (I:Inv X pins σ H s):s.heap.FunFrames X.base X.stack:=by
 rcases I.ok.stk with e | ⟨e,hf⟩
 ·rw[e];exact I.funs
 ·rw[e]
  obtain⟨m,hn,_⟩:=I.loc
  refine .cons (by rw[I.ok.kind];decide) hf hn ?_ I.funs
  exact Heap.get?_none_of_le (Nat.le_trans I.ok.bsz I.ok.above)
theorem Inv.stkSub (I:Inv X pins σ H s):∀ b∈frs X.stack,b∈X.env.locals::X.fs:=λb hb=>by
 rcases I.ok.stk with e | ⟨e,hf⟩
 ·rw[e] at hb;exact List.mem_cons_of_mem _ hb
 ·rw[e] at hb
  unfold frs at hb
  rw[List.filterMap_cons,hf] at hb
  exact hb
theorem Inv.stkFree (I:Inv X pins σ H s):∀ b∈frs X.stack,H b=none:=λb hb=>by
 rcases List.mem_cons.mp (I.stkSub b hb) with e | hb
 ·rw[e];exact I.free
 ·obtain⟨_,o,ho,_⟩:=I.ok.funs.mem hb
  exact I.base.free b o ho (I.ok.frf b hb) λz=>I.ok.exfs b z hb
theorem Inv.step {g':Array GenState}{t':Nat}{d':Drawn}{ch:List Addr}(I:Inv X pins σ H s)
  (hch:∀ b∈ch,(b∈X.ex∨X.s₀.heap.objs.size≤b)∧b≠X.env.locals∧(∀ x c,X.env.cells.lookup x=some c→c≠b)∧∀ p∈X.pn++pins,p.1≠b)
  (keep:∀ b o,b≠X.env.locals→b∉X.fs→b∉ch→s.heap.get? b=some o→H b=none→h'.get? b=some o)
  (slot:∀ b o,b≠X.env.locals→b∈X.fs→b∉ch→s.heap.get? b=some o→H b=none→∃ sl,h'.get? b=some {o with slots:=sl}) (free:∀ b o,b∉ch→s.heap.get? b=some o→H b=none→H' b=none)
  (there:∀ b o,b∉ch→s.heap.get? b=some o→∃ o',h'.get? b=some o')
  (tups:∀ b xs,H b=some (.tup xs)→H' b=some (.tup xs)) (frzs:∀ b o u,H b=some (.frz o u)→H' b=some (.frz o u)) (tbls:∀ b ps,H b=some (.tbl ps)→∃ more,H' b=some (.tbl (ps++more)))
  (ns:∀ m,s.heap.Ns X.env.locals m→h'.Ns X.env.locals m) (hok:HOk X.prog X.w H' h') (hg:AllBare g') :
  Inv X pins σ H' {s with heap:=h',gens:=g',drawn:=d',toks:=t'}:=by
 have neL:∀ b o,X.s₀.heap.get? b=some o→b≠X.env.locals:=λb o e=>Nat.ne_of_lt (Nat.lt_of_lt_of_le (Heap.lt_size e) I.ok.above)
 have neC:∀ b o,X.s₀.heap.get? b=some o→b∉X.ex→b∉ch:=λb o e hx hb=>by
  rcases (hch b hb).1 with z | z
  ·exact hx z
  ·exact absurd (Nat.lt_of_lt_of_le (Heap.lt_size e) z) (Nat.lt_irrefl _)
 have cellK:∀ x c,X.env.cells.lookup x=some c→∀ v,s.heap.IsCell c v→h'.IsCell c v:=λx c e v ⟨o,ho,hd⟩=>by
  have nch:c∉ch:=λz=>(hch c z).2.2.1 x c e rfl
  by_cases hc:c∈X.fs
  ·obtain⟨sl,q⟩:=slot c o (I.cne x c e) hc nch ho (I.freeC x c e)
   exact⟨_,q,hd⟩
  ·exact⟨o,keep c o (I.cne x c e) hc nch ho (I.freeC x c e),hd⟩
 refine⟨I.ok,I.os,hg,⟨λb o e n hb hx=>?_,λb o e n hb hx=>?_,λb o e n hx=>?_,λb o e hx=>?_,λb xs e=>tups b xs (I.base.tups b xs e),λb o xs e=>frzs b o xs (I.base.frzs b o xs e),λb ps e=>?_⟩,?_,λx c e=>?_,?_,λx c e=>?_,λp hp=>?_,hok,I.len⟩
 ·exact keep b o (neL b o e) hb (neC b o e hx) (I.base.keep b o e n hb hx) (I.base.free b o e n hx)
 ·obtain⟨sl,e1⟩:=I.base.slot b o e n hb hx
  obtain⟨sl',e2⟩:=slot b _ (neL b o e) hb (neC b o e hx) e1 (I.base.free b o e n hx)
  exact⟨sl',e2⟩
 ·obtain⟨o',e1⟩:=I.base.there b o e hx
  exact free b o' (neC b o e hx) e1 (I.base.free b o e n hx)
 ·obtain⟨o',e1⟩:=I.base.there b o e hx
  exact there b o' (neC b o e hx) e1
 ·obtain⟨m1,e1⟩:=I.base.tbls b ps e
  obtain⟨m2,e2⟩:=tbls b _ e1
  exact⟨m1++m2,by rw[e2,Array.append_assoc]⟩
 ·obtain⟨m,hn,hl⟩:=I.loc
  refine⟨m,ns m hn,λi x v e1 e2 e3=>?_⟩
  obtain⟨u,r,l⟩:=hl i x v e1 e2 e3
  refine⟨u,r,?_⟩
  rcases l with l | ⟨k,c,e,z⟩
  ·exact .inl l
  ·exact .inr ⟨k,c,e,cellK x c e _ z⟩
 ·obtain⟨v,z⟩:=I.cell x c e
  exact⟨v,cellK x c e v z⟩
 ·obtain⟨m,⟨o,_,_,ho,_⟩,_⟩:=I.loc
  exact free _ o (λz=>(hch _ z).2.1 rfl) ho I.free
 ·obtain⟨v,o,ho,hd⟩:=I.cell x c e
  exact free c o (λz=>(hch c z).2.2.1 x c e rfl) ho (I.freeC x c e)
 ·obtain⟨e,n,ne,nf,d⟩:=I.pin p hp
  have nch:p.1∉ch:=λz=>(hch p.1 z).2.2.2 p hp rfl
  exact⟨keep p.1 p.2 ne nf nch e n,free p.1 p.2 nch e n,ne,nf,d⟩
theorem Inv.un {t':Nat}(I:Inv X pins σ H s) (u:Un X.fs [] H H' s.heap h') (hok:HOk X.prog X.w H' h'):Inv X pins σ H' {s with heap:=h',toks:=t'}:=by
 obtain⟨m,⟨o,es,ep,ho,r⟩,_⟩:=id I.loc
 obtain⟨sl,hL⟩:=u.any ho I.free (by simp)
 exact I.step (g':=s.gens) (d':=s.drawn) (ch:=[]) (λ_ z=>nomatch z) (λb o _ hb _ e n=>u.keep b o e n hb (by simp)) (λb o _ hb _ e n=>u.slot b o e n hb (by simp)) (λb o _ e n=>u.free b o e n (by simp)) (λb o _ e=>u.there b o e (by simp)) u.tups u.frzs u.tbls (λm' hm=>by
  obtain⟨o',es',ep',ho',r'⟩:=hm
  rw[ho] at ho';cases ho'
  exact⟨_,es',ep',hL,r'⟩) hok I.bare
theorem Inv.call {g':Array GenState}{t':Nat}{d':Drawn}{ch:List Addr}(I:Inv X pins σ H s) (u:Un (frs X.stack) ch H H' s.heap h') (hok:HOk X.prog X.w H' h') (hg:AllBare g')
  (hch:∀ b∈ch,(b∈X.ex∨X.s₀.heap.objs.size≤b)∧b≠X.env.locals∧(∀ x c,X.env.cells.lookup x=some c→c≠b)∧∀ p∈X.pn++pins,p.1≠b) :
  Inv X pins σ H' {s with heap:=h',gens:=g',drawn:=d',toks:=t'}:=by
 obtain⟨m,⟨o,es,ep,ho,r⟩,_⟩:=id I.loc
 obtain⟨sl,hL⟩:=u.any ho I.free λz=>(hch _ z).2.1 rfl
 exact I.step (ch:=ch) hch (λb o hL hb hc e n=>u.keep b o e n (λz=>(List.mem_cons.mp (I.stkSub b z)).elim hL hb) hc) (λb o _ _ hc e n=>u.any e n hc) (λb o hc e n=>u.free b o e n hc) (λb o hc e=>u.there b o e hc) u.tups u.frzs u.tbls (λm' hm=>by
  obtain⟨o',es',ep',ho',r'⟩:=hm
  rw[ho] at ho';cases ho'
  exact⟨_,es',ep',hL,r'⟩) hok hg
theorem Inv.turned {t':Nat}{it:Addr}(I:Inv X pins σ H s) (k:∀ b o,b≠it→s.heap.get? b=some o→h'.get? b=some o) (hn:H it=none) (hL:it≠X.env.locals)
  (h1:it∈X.ex∨X.s₀.heap.objs.size≤it) (h2:∀ x c,X.env.cells.lookup x=some c→c≠it) (h3:∀ p∈X.pn++pins,p.1≠it):Inv X pins σ H {s with heap:=h',toks:=t'}:=by
 have nit:∀ b u,H b=some u→b≠it:=λb u e z=>by rw[z,hn] at e;cases e
 refine I.step (g':=s.gens) (d':=s.drawn) (ch:=[it]) (λb hb=>?_) (λb o _ _ hc e _=>k b o (λz=>hc (by simp[z])) e) (λb o _ _ hc e _=>⟨o.slots,k b o (λz=>hc (by simp[z])) e⟩) (λ_ _ _ _ n=>n)
  (λb o hc e=>⟨o,k b o (λz=>hc (by simp[z])) e⟩) (λ_ _ e=>e) (λ_ _ _ e=>e) (λb ps e=>⟨#[],by rw[e];simp⟩) (λm hm=>?_) (λb u e=>?_) I.bare
 ·have e:b=it:=by simpa using hb
  subst e
  exact⟨h1,hL,h2,h3⟩
 ·obtain⟨o,es,ep,ho,r⟩:=hm
  exact⟨o,es,ep,k _ o (Ne.symm hL) ho,r⟩
 ·refine (I.hok b u e).stay (λc v hc q=>k c v ?_ q) (λ_ q=>q) λ_ _ q=>q
  rcases hc with z | z
  ·rw[z];exact nit b u e
  ·exact nit c _ z
theorem Inv.tok (I:Inv X pins σ H s) (t:Nat):Inv X pins σ H {s with toks:=t}:=I.un (h':=s.heap) (t':=t) Un.refl I.hok
theorem Inv.kept {t':Nat}(I:Inv X pins σ H s) (k:∀ b u,s.heap.get? b=some u→h'.get? b=some u):Inv X pins σ H {s with heap:=h',toks:=t'}:=I.un (Un.kept k) (I.hok.kept k)
theorem Inv.laid {a:Addr}{o:HO}{t':Nat}(I:Inv X pins σ H s) (k:∀ b u,s.heap.get? b=some u→h'.get? b=some u) (hp:s.heap.objs.size≤a) (new:zbA X.prog X.w (upd H a o) h' a o) :
  Inv X pins σ (upd H a o) {s with heap:=h',toks:=t'}:=I.un (Un.laid k hp (I.hok.fresh hp)) (I.hok.laid k hp new)
theorem Inv.write {x e:Addr}{o:HO}{t':Nat}(I:Inv X pins σ H s) (mu:Mut (H x)) (he:e=x∨H e=some (.own x)) (k:∀ b u,b≠e→s.heap.get? b=some u→h'.get? b=some u) (heo:∃ u,h'.get? e=some u)
  (new:zbA X.prog X.w (upd H x o) h' x o):Inv X pins σ (upd H x o) {s with heap:=h',toks:=t'}:=I.un (Un.write mu he k heo) (I.hok.write mu he k heo new)
theorem Inv.pins_of {pins':List (Addr × Obj)}(I:Inv X pins σ H s) (h:∀ p∈pins',s.heap.get? p.1=some p.2∧H p.1=none∧p.1≠X.env.locals∧p.1∉X.fs∧∀ v,p.2.data≠.cell v):Inv X pins' σ H s:=
 ⟨I.ok,I.os,I.bare,I.base,I.loc,I.cell,I.free,I.freeC,λp hp=>(zma.mp hp).elim (λz=>I.pin p (List.mem_append_left _ z)) (h p),I.hok,I.len⟩
theorem ziQ {N:List Str}(hN:N.Nodup) {i j:Nat}{x:Str}(a:N[i]?=some x) (b:N[j]?=some x):i=j:=by
 obtain⟨h1,e1⟩:=zge.mp a
 obtain⟨h2,e2⟩:=zge.mp b
 exact (List.getElem_inj hN).mp (e1.trans e2.symm)
theorem zg4 {M:Model}{A:Around}{E:Value→Shared→Prop}{i:Nat}{x:Str}{v:V}{u:Value}{Q:Unit→Shared→Prop}(I:Inv X pins σ H s) (hN:X.N.Nodup) (hi:X.N[i]?=some x) (hx:Loc X.env.scope x) (r:RelV v u)
  (h:∀ s',Inv X pins (σ.set i (some v)) H s'→(∃ a,Heap.SameBut a s.heap s'.heap∧(a=X.env.locals∨X.env.cells.lookup x=some a))→Q () s') (hf:X.fn x=true∨X.env.scope.names.lookup x=some .local:=by first | exact .inl rfl | exact .inr rfl | assumption):wpAny M A (storeName X.env x u) Q E s:=by
 obtain⟨m,hn,hl⟩:=id I.loc
 have hcls:(X.env.scope.kind == .class || (X.env.scope.kind == .module && X.env.locals != X.env.globals))=false:=by rw[I.ok.kind];rfl
 have hiσ:i<σ.length:=by rw[I.len];exact (zge.mp hi).1
 have cne:=I.cne
 have tracked:∀ {a:Addr}{h':Heap},(∃ o,s.heap.get? a=some o∧H a=none)→Heap.SameBut a s.heap h'→HOk X.prog X.w H h':=λ{a h'} ha hs b ob e=>by
  obtain⟨_,_,hfree⟩:=ha
  refine (I.hok b ob e).stay (λc w' hc q=>(hs.2 c ?_).trans q) (λ_ q=>q) λ_ _ q=>q
  rintro rfl
  rcases hc with rfl | hc
  ·rw[hfree] at e;cases e
  ·rw[hfree] at hc;cases hc
 rcases hx with hk | hk
 ·refine wpAny_storeName_local hk hn (λh' hn' hs=>?_) hcls
  obtain⟨oL,_,_,hoL,_⟩:=id hn
  refine h _ ⟨I.ok,I.os,I.bare,⟨λb o e n hb hx=>?_,λb o e n hb hx=>?_,I.base.free,λb o e hx=>?_,I.base.tups,I.base.frzs,I.base.tbls⟩,⟨_,hn',λj y v' e1 e2 e3=>?_⟩,λy c e=>?_,I.free,I.freeC,λp hp=>?_,tracked ⟨oL,hoL,I.free⟩ hs,by simpa using I.len⟩ ⟨_,hs,.inl rfl⟩
  ·exact (hs.2 b (Nat.ne_of_lt (Nat.lt_of_lt_of_le (Heap.lt_size e) I.ok.above))).trans (I.base.keep b o e n hb hx)
  ·obtain⟨sl,e1⟩:=I.base.slot b o e n hb hx
   exact⟨sl,(hs.2 b (Nat.ne_of_lt (Nat.lt_of_lt_of_le (Heap.lt_size e) I.ok.above))).trans e1⟩
  ·obtain⟨o',e1⟩:=I.base.there b o e hx
   exact⟨o',(hs.2 b (Nat.ne_of_lt (Nat.lt_of_lt_of_le (Heap.lt_size e) I.ok.above))).trans e1⟩
  ·by_cases hj:j=i
   ·subst hj
    rw[hi] at e1;cases e1
    rw[List.getElem?_set_self hiσ] at e2
    cases e2
    exact⟨u,r,.inl ⟨hk,by simp⟩⟩
   ·rw[List.getElem?_set_ne (Ne.symm hj)] at e2
    obtain⟨u',r',q⟩:=hl j y v' e1 e2 e3
    refine⟨u',r',?_⟩
    rcases q with ⟨k,e⟩ | ⟨k,c,e,z⟩
    ·refine .inl ⟨k,?_⟩
     have:y≠x:=λe=>hj (ziQ hN e1 (e ▸ hi))
     simp[this,e]
    ·exact .inr ⟨k,c,e,z.sameBut hs (cne y c e)⟩
  ·obtain⟨w',z⟩:=I.cell y c e
   exact⟨w',z.sameBut hs (cne y c e)⟩
  ·obtain⟨e,n,ne,nf,d⟩:=I.pin p hp
   exact⟨(hs.2 p.1 ne).trans e,n,ne,nf,d⟩
 ·have hfn:X.fn x=true:=by
   rcases hf with z | z
   ·exact z
   ·rw[z] at hk;cases hk
  obtain⟨c,hc⟩:=I.ok.has x (.inl hk)
  obtain⟨w',z⟩:=I.cell x c hc
  refine wpAny_storeName_cell I.ok.kind hk hc z (λh' hc' hs=>?_)
  obtain⟨oc,hoc,hocd⟩:=id z
  refine h {s with heap:=h'} ⟨I.ok,I.os,I.bare,⟨λb o e n hb hx=>?_,λb o e n hb hx=>?_,I.base.free,λb o e hx=>?_,I.base.tups,I.base.frzs,I.base.tbls⟩,⟨m,hn.sameBut hs (Ne.symm (cne x c hc)),λj y v' e1 e2 e3=>?_⟩,λy c' e=>?_,I.free,I.freeC,λp hp=>?_,tracked ⟨oc,hoc,I.freeC x c hc⟩ hs,by simpa using I.len⟩ ⟨c,hs,.inr hc⟩
  ·exact (hs.2 b (Nat.ne_of_lt (Nat.lt_of_lt_of_le (Heap.lt_size e) (I.ok.cab x c hfn hc)))).trans (I.base.keep b o e n hb hx)
  ·obtain⟨sl,e1⟩:=I.base.slot b o e n hb hx
   exact⟨sl,(hs.2 b (Nat.ne_of_lt (Nat.lt_of_lt_of_le (Heap.lt_size e) (I.ok.cab x c hfn hc)))).trans e1⟩
  ·obtain⟨o',e1⟩:=I.base.there b o e hx
   exact⟨o',(hs.2 b (Nat.ne_of_lt (Nat.lt_of_lt_of_le (Heap.lt_size e) (I.ok.cab x c hfn hc)))).trans e1⟩
  ·by_cases hj:j=i
   ·subst hj
    rw[hi] at e1;cases e1
    rw[List.getElem?_set_self hiσ] at e2
    cases e2
    exact⟨u,r,.inr ⟨.inl hk,c,hc,hc'⟩⟩
   ·rw[List.getElem?_set_ne (Ne.symm hj)] at e2
    obtain⟨u',r',q⟩:=hl j y v' e1 e2 e3
    refine⟨u',r',?_⟩
    rcases q with q | ⟨k,c',e,z'⟩
    ·exact .inl q
    ·refine .inr ⟨k,c',e,z'.sameBut hs ?_⟩
     rintro rfl
     exact hj (ziQ hN e1 (I.ok.inj _ _ _ e hc ▸ hi))
  ·by_cases hcc:c'=c
   ·subst hcc;exact⟨_,hc'⟩
   ·obtain⟨w2,z2⟩:=I.cell y c' e
    exact⟨w2,z2.sameBut hs hcc⟩
  ·obtain⟨e,n,ne,nf,d⟩:=I.pin p hp
   refine⟨(hs.2 p.1 ?_).trans e,n,ne,nf,d⟩
   intro q
   rw[q,hoc] at e
   have q':oc=p.2:=Option.some.inj e
   exact d w' (by rw[←q'];exact hocd)
theorem ziR {M:Model}{A:Around}{E:Value→Shared→Prop}{i:Nat}{x:Str}{v:V}{u:Value}{Q:Unit→Shared→Prop}(I:Inv X pins σ H s) (hN:X.N.Nodup) (hi:X.N[i]?=some x) (hx:Loc X.env.scope x) (r:RelV v u)
  (h:∀ s',Inv X pins (σ.set i (some v)) H s'→Q () s') (hf:X.fn x=true∨X.env.scope.names.lookup x=some .local:=by first | exact .inl rfl | exact .inr rfl | assumption):wpAny M A (storeName X.env x u) Q E s:=
 zg4 I hN hi hx r (λs' I' _=>h s' I') hf
theorem Inv.call' {s':Shared}{ch:List Addr}(I:Inv X pins σ H s) (ho:s'.os=s.os) (u:Un (frs X.stack) ch H H' s.heap s'.heap) (hok:HOk X.prog X.w H' s'.heap) (hg:AllBare s'.gens)
  (hch:∀ b∈ch,(b∈X.ex∨X.s₀.heap.objs.size≤b)∧b≠X.env.locals∧(∀ x c,X.env.cells.lookup x=some c→c≠b)∧∀ p∈X.pn++pins,p.1≠b):Inv X pins σ H' s':=by
 obtain⟨h',g',d',t',o'⟩:=s'
 have e:o'=s.os:=ho
 subst e
 exact I.call (g':=g') (t':=t') (d':=d') u hok hg hch
end

abbrev XK:=Value→Option Addr→Hp→Prop
abbrev St:=List (Option V)
abbrev VK:=V→Hp→Prop
abbrev TE:=St→Hp→VK→Prop
abbrev TT:=St→Hp→(Bool→Hp→Prop)→Prop
abbrev TA:=St→Hp→(List V→Hp→Prop)→Prop
structure Ends where
 nx:St→Hp→Prop
 rt:VK
 bk:St→Hp→Prop:=λ_ _=>False
 ct:St→Hp→Prop:=λ_ _=>False
abbrev TS:=Ends→St→Hp→Prop
def EP (X:Cx) (pins:List (Addr × Obj)) (σ:St) (Q:VK) (u:Value) (s':Shared):Prop:=∃ v H',Inv X pins σ H' s'∧RelV v u∧Q v H'
def TP (X:Cx) (pins:List (Addr × Obj)) (σ:St) (Q:Bool→Hp→Prop) (b:Bool) (s':Shared):Prop:=∃ H',Inv X pins σ H' s'∧Q b H'
def AP (X:Cx) (pins:List (Addr × Obj)) (σ:St) (Q:List V→Hp→Prop) (us:List Value) (s':Shared):Prop:=∃ vs H',Inv X pins σ H' s'∧Vals vs us∧Q vs H'
def SP (X:Cx) (pins:List (Addr × Obj)) (D:Ends) (f:Flow) (s':Shared):Prop:=
 match f with
 | .next=>∃ σ' H',Inv X pins σ' H' s'∧D.nx σ' H'
 | .brk=>∃ σ' H',Inv X pins σ' H' s'∧D.bk σ' H'
 | .cont=>∃ σ' H',Inv X pins σ' H' s'∧D.ct σ' H'
 | .ret u=>∃ v σ' H',Inv X pins σ' H' s'∧RelV v u∧D.rt v H'
def PE (X:Cx) (e:Expr) (t:TE):Prop:=
 ∀ (pins:List (Addr × Obj)) (s:Shared) (σ:St) (H:Hp) (Q:VK),Inv X pins σ H s→t σ H Q→wpAny (model X.prog X.w) X.A (eval e X.env) (EP X pins σ Q) X.xe s
def PT (X:Cx) (e:Expr) (t:TT):Prop:=
 ∀ (pins:List (Addr × Obj)) (s:Shared) (σ:St) (H:Hp) (Q:Bool→Hp→Prop),Inv X pins σ H s→t σ H Q→wpAny (model X.prog X.w) X.A (isTrue e X.env (eval e X.env)) (TP X pins σ Q) X.xe s
def PW (X:Cx) (e:Expr) (t:TT):Prop:=
 ∀ (whole:Sem Value) (pins:List (Addr × Obj)) (s:Shared) (σ:St) (H:Hp) (Q:Bool→Hp→Prop),Inv X pins σ H s→t σ H Q→wpAny (model X.prog X.w) X.A (isTrue e X.env whole) (TP X pins σ Q) X.xe s
theorem PW.pt {X:Cx}{e:Expr}{t:TT}(h:PW X e t):PT X e t:=h _
def PA (X:Cx) (es:List Expr) (t:TA):Prop:=
 ∀ (pos:Pos) (pins:List (Addr × Obj)) (s:Shared) (σ:St) (H:Hp) (Q:List V→Hp→Prop),Inv X pins σ H s→t σ H Q→wpAny (model X.prog X.w) X.A (spliced (backTo pos (starEach es X.env))) (AP X pins σ Q) X.xe s
def PS (X:Cx) (st:Stmt) (t:TS):Prop:=
 ∀ (pins:List (Addr × Obj)) (s:Shared) (σ:St) (H:Hp) (D:Ends),Inv X pins σ H s→t D σ H→wpAny (model X.prog X.w) X.A (exec st X.env) (SP X pins D) X.xe s
def PSs (X:Cx) (st:List Stmt) (t:TS):Prop:=
 ∀ (pins:List (Addr × Obj)) (s:Shared) (σ:St) (H:Hp) (D:Ends),Inv X pins σ H s→t D σ H→wpAny (model X.prog X.w) X.A (execs st X.env) (SP X pins D) X.xe s
theorem thn {α:Type}{t:Sem α}{Q Q':α→Shared→Prop}{M:Model}{A:Around}{E:Value→Shared→Prop}{s:Shared}(h:wpAny M A t Q E s) (hQ:∀ a s,Q a s→Q' a s):wpAny M A t Q' E s:=wpAny_mono h hQ λ_ _ x=>x
end L2

namespace L2
open PySem PySem.Spec PyProof.Rows
section
variable {X : Cx}

theorem bin {a b:Expr}{ta tb:TE}(ha:PE X a ta) (hb:PE X b tb) {pins:List (Addr × Obj)}{s:Shared}{σ:St}{H:Hp}{R:V→V→Hp→Prop}(I:Inv X pins σ H s) (h:ta σ H λx H1=>tb σ H1 λy H2=>R x y H2)
  {α:Type}{Q:α→Shared→Prop}{f:Value→Value→Sem α}
  (hf:∀ v u s2 x y H2,Inv X pins σ H2 s2→RelV x v→RelV y u→R x y H2→wpAny (model X.prog X.w) X.A (f v u) Q X.xe s2) :
  wpAny (model X.prog X.w) X.A (eval a X.env) (λv s₁=>wpAny (model X.prog X.w) X.A (eval b X.env) (λu s₂=>wpAny (model X.prog X.w) X.A (f v u) Q X.xe s₂) X.xe s₁) X.xe s:=by
 refine thn (ha pins s σ H _ I h) λv s1 ⟨x,H1,I1,r1,q1⟩=>?_
 refine thn (hb pins s1 σ H1 _ I1 q1) λu s2 ⟨y,H2,I2,r2,q2⟩=>?_
 exact hf v u s2 x y H2 I2 r1 r2 q2
def tVar (i:Nat):TE:=λσ H Q=>∃ v,σ[i]?=some (some v)∧Q v H
def tC (v:V):TE:=λ_ H Q=>Q v H
theorem zov {i:Nat}{x:Str}{pos:Pos}(hN:X.N[i]?=some x) (hv:Vis X.env.scope x) (hd:(x == ("__debug__" : Str))=false:=by decide) (hcd:(x == ("__classdict__" : Str))=false:=by decide):PE X (.Name x pos) (tVar i):=by
 intro pins s σ H Q I h
 obtain⟨v,e,h⟩:=h
 obtain⟨m,hn,hl⟩:=I.loc
 obtain⟨u,r,l⟩:=hl i x v hN e hv
 have fin:EP X pins σ Q u s:=⟨v,H,I,r,h⟩
 rcases l with ⟨hk,hm⟩ | ⟨hk,c,hc,hcell⟩
 ·exact wpAny_Name (wpAny_loadName_local I.ok.kind hk hn hm fin) hd
 ·rcases hk with hk | hk
  ·exact wpAny_Name (wpAny_loadName_cell I.ok.kind hk hc hcell fin) hd
  ·exact wpAny_Name (wpAny_loadName_free I.ok.kind hk hc hcell fin hcd) hd
theorem zaa {i j pos} : PE X (.Constant (.int i) j pos) (tC (.int i)):=λ_ _ _ H _ I h=>wpAny_Constant_int ⟨.int i,H,I.tok _,⟨_,rfl⟩,h⟩
theorem zno {b j pos} : PE X (.Constant (.bool b) j pos) (tC (.bl b)):=λ_ _ _ H _ I h=>Constant_bool ⟨.bl b,H,I,rfl,h⟩
theorem zdC {j pos} : PE X (.Constant .none j pos) (tC .non):=λ_ _ _ H _ I h=>Constant_none ⟨.non,H,I,rfl,h⟩
theorem zaJ {x j pos} : PE X (.Constant (.str x) j pos) (tC (.str x)):=λ_ _ _ H _ I h=>Calls.Constant_str ⟨.str x,H,I.tok _,⟨_,rfl⟩,h⟩
def Gl (X:Cx) (x:Str):Prop:=X.env.kindOf x=some .globalImplicit
theorem ze7 {E:Value→Shared→Prop}{pins:List (Addr × Obj)}{s:Shared}{σ:St}{H:Hp}{x:Str}{u:Value}{pos:Pos}{Q:Value→Shared→Prop}(I:Inv X pins σ H s) (hg:Gl X x) (hm:X.mg x=some u) (h:Q u s)
  (hd:(x == ("__debug__" : Str))=false:=by decide):wpAny (model X.prog X.w) X.A (eval (.Name x pos) X.env) Q E s:=
 Calls.Name_function_global I.ok.kind hg (Calls.loadGlobal_global (by rw[I.ok.glob];exact I.mod.glob.keeps I.bk) hm h) hd
theorem zf9 {E:Value→Shared→Prop}{pins:List (Addr × Obj)}{s:Shared}{σ:St}{H:Hp}{x:Str}{u:Value}{pos:Pos}{Q:Value→Shared→Prop}(I:Inv X pins σ H s) (hg:Gl X x) (hm:X.mg x=none) (hv:bootBuiltins x=some u) (h:Q u s)
  (hn:x≠ "__name__":=by decide) (hd:(x == ("__debug__" : Str))=false:=by decide):wpAny (model X.prog X.w) X.A (eval (.Name x pos) X.env) Q E s:=by
 obtain⟨mb,h1,h2⟩:=I.mod.blt
 exact Calls.Name_function_global I.ok.kind hg (Calls.loadGlobal_builtin (by rw[I.ok.glob];exact I.mod.glob.keeps I.bk) hm (by rw[I.ok.blt];exact h1.keeps I.bk) ((h2 x hn).trans hv) h) hd
theorem zkf {x:Str}{v:V}{u:Value}{pos:Pos}(hg:Gl X x) (hm:X.mg x=some u) (r:RelV v u) (hd:(x == ("__debug__" : Str))=false:=by decide):PE X (.Name x pos) (tC v):=
 λ_ _ _ H _ I h=>ze7 I hg hm ⟨v,H,I,r,h⟩ hd
theorem zkg {x:Str}{v:V}{u:Value}{pos:Pos}(hg:Gl X x) (hm:X.mg x=none) (hv:bootBuiltins x=some u) (r:RelV v u) (hn:x≠ "__name__":=by decide) (hd:(x == ("__debug__" : Str))=false:=by decide):PE X (.Name x pos) (tC v):=
 λ_ _ _ H _ I h=>zf9 I hg hm hv ⟨v,H,I,r,h⟩ hn hd
variable {a b : Expr} {ta tb : TE} {pos : Pos}
def PC (X:Cx) (op:CmpOp) (a b:Expr) (t:TE):Prop:=
 ∀ (pins:List (Addr × Obj)) (s:Shared) (σ:St) (H:Hp) (Q:VK),Inv X pins σ H s→t σ H Q→
  wpAny (model X.prog X.w) X.A (eval a X.env) (λv s₁=>wpAny (model X.prog X.w) X.A (eval b X.env) (λu s₂=>wpAny (model X.prog X.w) X.A (compareOp op v u) (EP X pins σ Q) X.xe s₂) X.xe s₁) X.xe s
def tB (t:TE):TT:=λσ H Q=>t σ H λx H1=>∃ c,x=.bl c∧Q c H1
theorem zg5 {op:CmpOp}{t:TE}(h:PC X op a b t) (h1:behindInMarks op b=false:=by first | exact nobehind _ (by decide) (by decide) | rfl):PT X (.Compare a [op] [b] pos) (tB t):=by
 intro pins s σ H Q I hw
 refine wpAny_isTrue_Compare1 (thn (h pins s σ H _ I hw) λv s1 h1=>thn h1 λu s2 h2=>thn h2 λc s3 ⟨x,H1,I1,r1,q1⟩=>?_) h1
 obtain⟨d,rfl,q⟩:=q1
 cases r1
 exact wpAny_truthy_bool ⟨H1,I1,q⟩
theorem zdD {e:Expr}{t:TE}(h:PE X e t) (he:∀ whole,isTrue e X.env whole=(do let v ←whole;standAt e.pos;holding [v] (truthy v)):=by intro _;rfl):PT X e (tB t):=by
 intro pins s σ H Q I hw
 refine isTrue_plain (thn (h pins s σ H _ I hw) λv s1 ⟨x,H1,I1,r1,q1⟩=>?_) (he _)
 obtain⟨d,rfl,q⟩:=q1
 cases r1
 exact wpAny_truthy_bool ⟨H1,I1,q⟩
variable {tA tB' : TT} {rest : List Expr}
def tAnd (t u:TT):TT:=λσ H Q=>t σ H λc H1=>if c=true then u σ H1 Q else Q false H1
def tOr (t u:TT):TT:=λσ H Q=>t σ H λc H1=>if c=true then Q true H1 else u σ H1 Q
def tNot (t:TT):TT:=λσ H Q=>t σ H λc H1=>Q (!c) H1
theorem zgw (ha:PT X a tA):PW X (.BoolOp .And [a] pos) tA:=by
 intro wh pins s σ H Q I h
 refine isTrue_and (thn (ha pins s σ H Q I h) λc s1 e=>?_)
 cases c with
 | true=>exact isTrue_and_nil e
 | false=>exact e
theorem ziS (ha:PT X a tA):PW X (.BoolOp .Or [a] pos) tA:=by
 intro wh pins s σ H Q I h
 refine isTrue_or (thn (ha pins s σ H Q I h) λc s1 e=>?_)
 cases c with
 | false=>exact isTrue_or_nil e
 | true=>exact e
theorem ziT (ha:PT X a tA) (hb:PW X (.BoolOp .And (b::rest) pos) tB'):PW X (.BoolOp .And (a::b::rest) pos) (tAnd tA tB'):=by
 intro wh pins s σ H Q I h
 refine isTrue_and (thn (ha pins s σ H _ I h) λc s1 ⟨H1,I1,q1⟩=>?_)
 cases c with
 | true=>exact hb wh pins s1 σ H1 Q I1 q1
 | false=>exact⟨H1,I1,q1⟩
theorem zkh (ha:PT X a tA) (hb:PW X (.BoolOp .Or (b::rest) pos) tB'):PW X (.BoolOp .Or (a::b::rest) pos) (tOr tA tB'):=by
 intro wh pins s σ H Q I h
 refine isTrue_or (thn (ha pins s σ H _ I h) λc s1 ⟨H1,I1,q1⟩=>?_)
 cases c with
 | true=>exact⟨H1,I1,q1⟩
 | false=>exact hb wh pins s1 σ H1 Q I1 q1
theorem zg6 (ha:PT X a tA):PT X (.UnaryOp .Not a pos) (tNot tA):=by
 intro pins s σ H Q I h
 exact isTrue_not (ha pins s σ H (λc H1=>Q (!c) H1) I h)
def zow (ta tb:TE):TE:=λσ H Q=>ta σ H λx H1=>∃ c,x=.bl c∧if c=true then tb σ H1 Q else Q (.bl false) H1
theorem zb1 {op}{t:TE}(h:PE X a t):PE X (.BoolOp op [a] pos) t:=λpins s σ H Q I hw=>BoolOp_one (h pins s σ H Q I hw)
theorem zbw (ha:PE X a ta) (hb:PE X (.BoolOp .And (b::rest) pos) tb):PE X (.BoolOp .And (a::b::rest) pos) (zow ta tb):=by
 intro pins s σ H Q I h
 refine BoolOp_and (thn (ha pins s σ H _ I h) λv s1 ⟨x,H1,I1,r1,q1⟩=>?_)
 obtain⟨c,rfl,q1⟩:=q1
 cases r1
 refine wpAny_truthy_bool ?_
 cases c with
 | true=>exact hb pins s1 σ H1 Q I1 q1
 | false=>exact⟨.bl false,H1,I1,rfl,q1⟩
def tIf (t:TT) (ta tb:TE):TE:=λσ H Q=>t σ H λc H1=>if c=true then ta σ H1 Q else tb σ H1 Q
theorem ziU {c:Expr}(hc:PT X c tA) (ha:PE X a ta) (hb:PE X b tb):PE X (.IfExp c a b pos) (tIf tA ta tb):=by
 intro pins s σ H Q I h
 refine wpAny_IfExp (thn (hc pins s σ H _ I h) λd s1 ⟨H1,I1,q1⟩=>?_)
 cases d with
 | true=>exact ha pins s1 σ H1 Q I1 q1
 | false=>exact hb pins s1 σ H1 Q I1 q1
end
end L2

namespace L2
open PySem PySem.Spec PyProof.Rows

def SqL (K:Fg) (H:Hp) (a:Addr) (xs:List V):Prop:=
 Rd H a (.lst xs)∨
  ∃ (o:Obj) (its:Array Value) (n:Nat),K.lookup a=some o∧o.cls=.type "list" ∧o.dict=none∧o.data=.seq its n∧its.size≤sizeLine∧Vals xs its.toList
def SqT (K:Fg) (H:Hp) (a:Addr) (xs:List V):Prop:=
 Rd H a (.tup xs)∨
  ∃ (o:Obj) (its:Array Value) (n:Nat),K.lookup a=some o∧o.cls=.type "tuple" ∧o.data=.seq its n∧its.size≤sizeLine∧Vals xs its.toList
def absV:Value→Option V
 | .none=>some .non
 | .bool b=>some (.bl b)
 | .int i _=>some (.int i)
 | .str x _=>some (.str x)
 | .bytes b _=>some (.byt b)
 | .float b _=>some (.flt b)
 | .ref a=>some (.ref a)
 | .type n=>some (.ty n)
 | _=>none
theorem RelV.abs {x:V}{u:Value}(r:RelV x u):absV u=some x:=by
 cases x with
 | non=>cases r;rfl
 | bl _=>cases r;rfl
 | int _=>obtain⟨t,rfl⟩:=r;rfl
 | str _=>obtain⟨t,rfl⟩:=r;rfl
 | byt _=>obtain⟨t,rfl⟩:=r;rfl
 | flt _=>obtain⟨t,rfl⟩:=r;rfl
 | ref _=>cases r;rfl
 | ty _=>cases r;rfl
theorem RelV.inj {x y:V}{u:Value}(r:RelV x u) (q:RelV y u):x=y:=Option.some.inj (r.abs.symm.trans q.abs)
theorem Vals.inj:∀ {xs ys:List V}{us:List Value},Vals xs us→Vals ys us→xs=ys
 | _,_,_,.nil,.nil=>rfl
 | _,_,_,.cons r t,.cons r' t'=>by rw[r.inj r',Vals.inj t t']
section
variable {X : Cx} {pins : List (Addr × Obj)} {σ : St} {H : Hp} {s : Shared} {a : Addr} {xs ys : List V}
theorem SqL.of {K:Fg}(h:H a=some (.lst xs)):SqL K H a xs:=.inl (.inl h)
theorem SqT.of {K:Fg}(h:H a=some (.tup xs)):SqT K H a xs:=.inl (.inl h)
theorem Inv.list (I:Inv X pins σ H s) (h:SqL X.K H a xs):∃ its:List Value,Vals xs its∧PlainL s.heap a its.toArray∧xs.length≤sizeLine:=by
 rcases h with h | ⟨o,its,n,hk,hc,hd,hs,hz,r⟩
 ·obtain⟨z,its,n,r,e⟩:=h.ok I.hok
  exact⟨its,r,⟨_,n,e,rfl,rfl,rfl⟩,z⟩
 ·refine⟨its.toList,r,⟨o,n,I.kIn a o hk,hc,hd,by simpa using hs⟩,?_⟩
  have e:=r.length
  simp only[Array.length_toList] at e
  omega
theorem Inv.tuple (I:Inv X pins σ H s) (h:SqT X.K H a xs):∃ its:List Value,Vals xs its∧IsTup s.heap a its.toArray∧xs.length≤sizeLine:=by
 rcases h with h | ⟨o,its,n,hk,hc,hs,hz,r⟩
 ·obtain⟨z,its,r,p⟩:=h.ok I.hok
  exact⟨its,r,p,z⟩
 ·refine⟨its.toList,r,⟨o,I.kIn a o hk,hc,n,by simpa using hs⟩,?_⟩
  have e:=r.length
  simp only[Array.length_toList] at e
  omega
theorem Inv.list_inj (I:Inv X pins σ H s) (h:SqL X.K H a xs) (h':SqL X.K H a ys):xs=ys:=by
 obtain⟨its,r,⟨o,n,e,_,_,d⟩,_⟩:=I.list h
 obtain⟨its',r',⟨o',n',e',_,_,d'⟩,_⟩:=I.list h'
 rw[e] at e';cases e'
 rw[d] at d'
 injection d' with d1 _
 have:its=its':=by simpa using congrArg Array.toList d1
 subst this
 exact r.inj r'
theorem Inv.tuple_inj (I:Inv X pins σ H s) (h:SqT X.K H a xs) (h':SqT X.K H a ys):xs=ys:=by
 obtain⟨its,r,⟨o,e,_,n,d⟩,_⟩:=I.tuple h
 obtain⟨its',r',⟨o',e',_,n',d'⟩,_⟩:=I.tuple h'
 rw[e] at e';cases e'
 rw[d] at d'
 injection d' with d1 _
 have:its=its':=by simpa using congrArg Array.toList d1
 subst this
 exact r.inj r'
end

abbrev Cx.wish (X:Cx) (E:Value→Shared→Prop):Cx:={X with xe:=E}
abbrev Cx.nox (X:Cx):Cx:=X.wish λ_ _=>False
theorem Cx.Ok.wish {X:Cx}(ok:X.Ok) (E:Value→Shared→Prop):(X.wish E).Ok:=
 ⟨ok.mod,ok.kind,ok.glob,ok.blt,ok.above,ok.inj,ok.has,ok.cab,ok.hd,ok.frames,ok.stk,ok.exf,ok.bs,ok.bsz,ok.noex,ok.exfs,ok.funs,ok.frf⟩
theorem Cx.Ok.unwish {X:Cx}{E:Value→Shared→Prop}(ok:(X.wish E).Ok):X.Ok:=
 ⟨ok.mod,ok.kind,ok.glob,ok.blt,ok.above,ok.inj,ok.has,ok.cab,ok.hd,ok.frames,ok.stk,ok.exf,ok.bs,ok.bsz,ok.noex,ok.exfs,ok.funs,ok.frf⟩
section
variable {X : Cx} {pins : List (Addr × Obj)} {σ : St} {H : Hp} {s : Shared} {E : Value → Shared → Prop}
theorem Inv.wish (I:Inv X pins σ H s) (E:Value→Shared→Prop):Inv (X.wish E) pins σ H s:=⟨I.ok.wish E,I.os,I.bare,I.base,I.loc,I.cell,I.free,I.freeC,I.pin,I.hok,I.len⟩
theorem Inv.unwish (I:Inv (X.wish E) pins σ H s):Inv X pins σ H s:=⟨I.ok.unwish,I.os,I.bare,I.base,I.loc,I.cell,I.free,I.freeC,I.pin,I.hok,I.len⟩
theorem SP.unwish {D:Ends}{f:Flow}{s':Shared}(h:SP (X.wish E) pins D f s'):SP X pins D f s':=by
 cases f with
 | next=>obtain⟨σ',H',I,q⟩:=h;exact⟨σ',H',I.unwish,q⟩
 | brk=>obtain⟨σ',H',I,q⟩:=h;exact⟨σ',H',I.unwish,q⟩
 | cont=>obtain⟨σ',H',I,q⟩:=h;exact⟨σ',H',I.unwish,q⟩
 | ret u=>obtain⟨v,σ',H',I,r,q⟩:=h;exact⟨v,σ',H',I.unwish,r,q⟩
theorem PSs.nox {st:List Stmt}{t:TS}(h:PSs X.nox st t):PSs X st t:=λpins s σ H D I hw=>
 wpAny_mono (h pins s σ H D (I.wish _) hw) (λ_ _ q=>q.unwish) λ_ _ z=>False.elim z
end

section
variable {X : Cx} {st : Stmt} {rest : List Stmt} {t u : TS} {e : Expr} {te : TE} {pos : Pos}
def zki:TS:=λD σ H=>D.nx σ H
def tSeq (t u:TS):TS:=λD σ H=>t {D with nx:=u D} σ H
theorem zav:PSs X [] zki:=λ_ _ σ H _ I h=>wpAny_execs_nil ⟨σ,H,I,h⟩
theorem zag (h1:PS X st t) (h2:PSs X rest u):PSs X (st::rest) (tSeq t u):=by
 intro pins s σ H D I h
 refine wpAny_execs_cons (thn (h1 pins s σ H {D with nx:=u D} I h) λf s1 q=>?_)
 cases f with
 | next=>
  obtain⟨σ',H',I',q⟩:=q
  exact h2 pins s1 σ' H' D I' q
 | ret v=>exact q
 | brk=>exact q
 | cont=>exact q
theorem zai (h1:PS X st t):PSs X [st] t:=by
 intro pins s σ H D I h
 refine wpAny_execs_cons (thn (h1 pins s σ H D I h) λf s1 q=>?_)
 cases f with
 | next=>exact wpAny_execs_nil q
 | ret v=>exact q
 | brk=>exact q
 | cont=>exact q
theorem Inv.quiet {pins:List (Addr × Obj)}{σ:St}{H:Hp}{s:Shared}(I:Inv X pins σ H s):interactive X.env=false:=by simp[interactive,I.ok.kind]
def znp (te:TE):TS:=λD σ H=>te σ H λ_ H1=>D.nx σ H1
theorem zaS (he:PE X e te) (hs:swapsWith e none pos.line X.env=pure false:=by rfl):PS X (.Expr e pos) (znp te):=by
 intro pins s σ H D I h
 exact wpAny_Expr_any (thn (he pins s σ H _ I h) λv s1 ⟨x,H1,I1,r1,q1⟩=>⟨σ,H1,I1,q1⟩) I.quiet hs
def tRet (te:TE):TS:=λD σ H=>te σ H D.rt
theorem zar (he:PE X e te):PS X (.Return (some e) pos) (tRet te):=by
 intro pins s σ H D I h
 exact wpAny_Return_some (thn (he pins s σ H _ I h) λv s1 ⟨x,H1,I1,r1,q1⟩=>⟨x,σ,H1,I1,r1,q1⟩)
def tRetN:TS:=λD _ H=>D.rt .non H
theorem zkj:PS X (.Return none pos) tRetN:=λ_ _ σ H _ I h=>wpAny_Return_none ⟨.non,σ,H,I,rfl,h⟩
def tIfS (c:TT) (t u:TS):TS:=λD σ H=>c σ H λb H1=>if b=true then t D σ H1 else u D σ H1
theorem zaW {c:Expr}{a b:List Stmt}{tc:TT}(hc:PT X c tc) (ha:PSs X a t) (hb:PSs X b u):PS X (.If c a b pos) (tIfS tc t u):=by
 intro pins s σ H D I h
 refine wpAny_If (thn (hc pins s σ H _ I h) λd s1 ⟨H1,I1,q1⟩=>?_)
 cases d with
 | true=>exact ha pins s1 σ H1 D I1 q1
 | false=>exact hb pins s1 σ H1 D I1 q1
end

abbrev TG:=V→St→Hp→(St→Hp→Prop)→Prop
abbrev TGs:=List V→St→Hp→(St→Hp→Prop)→Prop
def PG (X:Cx) (target:Expr) (t:TG):Prop:=
 ∀ (pins:List (Addr × Obj)) (s:Shared) (σ:St) (H:Hp) (v:V) (u:Value) (Q:St→Hp→Prop),Inv X pins σ H s→RelV v u→t v σ H Q→
  wpAny (model X.prog X.w) X.A (assign target X.env u) (λ_ s'=>∃ σ' H',Inv X pins σ' H' s'∧Q σ' H') X.xe s
def PGs (X:Cx) (ts:List Expr) (t:TGs):Prop:=
 ∀ (pins:List (Addr × Obj)) (s:Shared) (σ:St) (H:Hp) (vs:List V) (us:List Value) (Q:St→Hp→Prop),Inv X pins σ H s→Vals vs us→t vs σ H Q→
  wpAny (model X.prog X.w) X.A (assignInOrder ((assignEach ts X.env).map (·.2)) us) (λ_ s'=>∃ σ' H',Inv X pins σ' H' s'∧Q σ' H') X.xe s
abbrev TSet:=V→V→V→Hp→(Hp→Prop)→Prop
def PSet (X:Cx) (t:TSet):Prop:=
 ∀ (pins:List (Addr × Obj)) (s:Shared) (σ:St) (H:Hp) (o i v:V) (ov iv u:Value) (Q:Hp→Prop),Inv X pins σ H s→RelV o ov→RelV i iv→RelV v u→t o i v H Q→
  wpAny (model X.prog X.w) X.A (setItem ov iv u) (λ_ s'=>∃ H',Inv X pins σ H' s'∧Q H') X.xe s
section
variable {X : Cx} {pos : Pos}
def zlO (i:Nat):TG:=λv σ H Q=>Q (σ.set i (some v)) H
theorem zay {i:Nat}{x:Str}(hN:X.N.Nodup) (hi:X.N[i]?=some x) (hx:Loc X.env.scope x) (hf:X.fn x=true∨X.env.scope.names.lookup x=some .local:=by first | exact .inl rfl | exact .inr rfl | assumption):PG X (.Name x pos) (zlO i):=by
 intro pins s σ H v u Q I r h
 exact wpAny_assign_Name (ziR I hN hi hx r (λs' I'=>⟨_,H,I',h⟩) hf)
def gNil:TGs:=λvs σ H Q=>vs=[]∧Q σ H
inductive ConsI (vs:List V) (P:V→List V→Prop):Prop
 | mk (v:V) (r:List V) (e:vs=v::r) (q:P v r):ConsI vs P
def gCons (t:TG) (u:TGs):TGs:=λvs σ H Q=>ConsI vs λv r=>t v σ H λσ' H'=>u r σ' H' Q
theorem zda:PGs X [] gNil:=by
 intro pins s σ H vs us Q I r h
 obtain⟨e,h⟩:=h
 subst e
 cases r
 exact assignInOrder_nil ⟨σ,H,I,h⟩
theorem zbf {e:Expr}{es:List Expr}{t:TG}{u:TGs}(h1:PG X e t) (h2:PGs X es u)
  (hs:(assignEach (e::es) X.env).map (·.2)=assign e X.env::(assignEach es X.env).map (·.2):=by rfl):PGs X (e::es) (gCons t u):=by
 intro pins s σ H vs us Q I r h
 obtain⟨v,vr,e1,h⟩:=h
 subst e1
 cases r with
 | cons r rr=>
  rw[hs]
  refine assignInOrder_cons (thn (h1 pins s σ H _ _ _ I r h) λ_ s1 ⟨σ1,H1,I1,q1⟩=>?_)
  exact h2 pins s1 σ1 H1 _ _ Q I1 rr q1
inductive TupI (K:Fg) (n:Nat) (v:V) (H:Hp) (P:List V→Prop):Prop
 | mk (a:Addr) (xs:List V) (e:v=.ref a) (h:SqT K H a xs) (l:xs.length=n) (q:P xs):TupI K n v H P
def gTup (K:Fg) (n:Nat) (t:TGs):TG:=λv σ H Q=>TupI K n v H λxs=>t xs σ H Q
theorem zox {es:List Expr}{k:Nat}{t:TGs}{n:Nat}(hc:X.calm=true) (h:PGs X es t)
  (hn:(assignEach es X.env).length=n:=by rfl) (hst:(assignEach es X.env).findIdx? (·.1)=none:=by rfl):PG X (.Tuple es k pos) (gTup X.K n t):=by
 intro pins s σ H v u Q I r hw
 obtain⟨a,xs,e1,hq,hl,hw⟩:=hw
 subst e1
 cases r
 obtain⟨its,rv,ht,hz⟩:=I.tuple hq
 refine assign_Tuple_tuple (I.ok.hd hc) ht (by simp[hn,←hl,rv.length]) hst λh' hx=>?_
 have I1:Inv X pins σ H {s with heap:=h'}:=I.kept (t':=s.toks) λb o e=>hx b o (Nat.ne_of_lt (Heap.lt_size e)) e
 exact h pins _ σ H xs _ Q I1 (by simpa using rv) hw
def gSub (to ti:TE) (t:TSet):TG:=λv σ H Q=>to σ H λo H1=>ti σ H1 λi H2=>t o i v H2 λH3=>Q σ H3
theorem zga {o i:Expr}{to ti:TE}{t:TSet}(ho:PE X o to) (hi:PE X i ti) (hs:PSet X t)
  (ha:∀ v,assign (.Subscript o i pos) X.env v=(do
   let ov ←holding [v] (eval o X.env)
   let iv ←holding [v,ov] (eval i X.env)
   standAt pos
   holding [v,ov,iv] (setItem ov iv v)
   release [v,ov,iv] []):=by intro _;rfl):PG X (.Subscript o i pos) (gSub to ti t):=by
 intro pins s σ H v u Q I r h
 rw[ha]
 refine wpAny_bind (wpAny_holding (thn (ho pins s σ H _ I h) λov s1 ⟨x,H1,I1,r1,q1⟩=>?_))
 refine wpAny_bind (wpAny_holding (thn (hi pins s1 σ H1 _ I1 q1) λiv s2 ⟨y,H2,I2,r2,q2⟩=>?_))
 refine wpAny_bind (wpAny_standAt (wpAny_bind (wpAny_holding (thn (hs pins s2 σ H2 x y v ov iv u _ I2 r1 r2 r q2) λ_ s3 ⟨H3,I3,q3⟩=>?_))))
 exact wpAny_release ⟨σ,H3,I3,q3⟩
def tAsg (te:TE) (g:TG):TS:=λD σ H=>te σ H λx H1=>g x σ H1 D.nx
theorem zey {tg e:Expr}{te:TE}{g:TG}(he:PE X e te) (hg:PG X tg g) (hs:swapsWithSole [tg] e pos.line X.env=pure false:=by rfl) (hw:swappedStores [tg] e X.env=pure none:=by rfl)
  (h1:(assignEach [tg] X.env).map (·.2)=[assign tg X.env]:=by rfl):PS X (.Assign [tg] e pos) (tAsg te g):=by
 intro pins s σ H D I h
 refine wpAny_Assign_stores (thn (he pins s σ H _ I h) λv s1 ⟨x,H1,I1,r1,q1⟩=>?_) hs hw
 rw[h1]
 exact thn (hg pins s1 σ H1 x v _ I1 r1 q1) λ_ s2 q=>q
theorem zaA {i:Nat}{x:Str}{e:Expr}{te:TE}{pos':Pos}(hN:X.N.Nodup) (hi:X.N[i]?=some x) (hx:Loc X.env.scope x) (he:PE X e te) (hs:swapsWith e (some (.Name x pos')) pos.line X.env=pure false:=by rfl) (hf:X.fn x=true∨X.env.scope.names.lookup x=some .local:=by first | exact .inl rfl | exact .inr rfl | assumption) :
  PS X (.Assign [.Name x pos'] e pos) (tAsg te (zlO i)):=by
 intro pins s σ H D I h
 refine wpAny_Assign_Name (thn (he pins s σ H _ I h) λv s1 ⟨y,H1,I1,r1,q1⟩=>?_) hs
 exact ziR I1 hN hi hx r1 (λs2 I2=>⟨_,H1,I2,q1⟩) hf
end

section
variable {X : Cx} {pos : Pos}
def zoy (c:TT) (tb:TS):TS:=λD σ H=>∃ W:Nat→St→Hp→Prop,(∃ m,W m σ H)∧∀ m σ H,W m σ H→
 c σ H λb H1=>if b=true then ∃ N:St→Hp→Prop,(∀ σ' H',N σ' H'→∃ m',m'<m∧W m' σ' H')∧tb {D with nx:=N,ct:=N,bk:=D.nx} σ H1 else D.nx σ H1
theorem zgx {c:Expr}{body:List Stmt}{tc:TT}{tb:TS}(hp:PassesOwn (model X.prog X.w) X.A X.env X.xe) (hc:PT X c tc) (hb:PSs X body tb):PS X (.While c body [] pos) (zoy tc tb):=by
 intro pins s σ H D I h
 obtain⟨W,⟨m0,w0⟩,turn⟩:=h
 refine wpAny_While (codeAny_whileLoop (λn s'=>∃ σ' H',Inv X pins σ' H' s'∧W n σ' H') ?_ m0 ⟨σ,H,I,w0⟩)
 rintro n s1 ⟨σ1,H1,I1,w1⟩
 refine wpAny_passesOwn hp (thn (hc pins s1 σ1 H1 _ I1 (turn n σ1 H1 w1)) λb s2 ⟨H2,I2,q2⟩=>?_)
 cases b with
 | true=>
  obtain⟨N,hN,q2⟩:=q2
  rw[if_pos rfl]
  refine wpAny_passesOwn hp (thn (hb pins s2 σ1 H2 _ I2 q2) λf s3 q3=>?_)
  cases f with
  | next=>
   obtain⟨σ3,H3,I3,n3⟩:=q3
   obtain⟨m',hm,w3⟩:=hN σ3 H3 n3
   exact⟨m',hm,σ3,H3,I3,w3⟩
  | cont=>
   obtain⟨σ3,H3,I3,n3⟩:=q3
   obtain⟨m',hm,w3⟩:=hN σ3 H3 n3
   exact⟨m',hm,σ3,H3,I3,w3⟩
  | brk=>exact q3
  | ret v=>exact q3
 | false=>
  rw[if_neg Bool.false_ne_true]
  exact wpAny_execs_nil ⟨σ1,H2,I2,q2⟩
end

structure It where
 go:Nat→Hp→Prop
 yld:Nat→Hp→V→Hp→Prop
 stop:Nat→Hp→Prop
def FpOk (X:Cx) (pins:List (Addr × Obj)) (H:Hp) (b:Addr):Prop:=
 H b=none∧b≠X.env.locals∧b∉X.fs∧(b∈X.ex∨X.s₀.heap.objs.size≤b)∧(∀ x c,X.env.cells.lookup x=some c→c≠b)∧∀ p∈X.pn++pins,p.1≠b
theorem Inv.fpOk {X:Cx}{pins:List (Addr × Obj)}{σ:St}{H H':Hp}{s:Shared}{b:Addr}(I:Inv X pins σ H s) (hb:s.heap.objs.size≤b) (hn:H' b=none):FpOk X pins H' b:=by
 refine⟨hn,Nat.ne_of_gt (Nat.lt_of_lt_of_le I.lt hb),I.nofs hb,.inr (Nat.le_trans I.sz hb),λx c e z=>?_,λp hp z=>?_⟩
 ·obtain⟨v,q⟩:=I.cell x c e
  exact absurd (Nat.lt_of_lt_of_le q.lt (by rw[z];exact hb)) (Nat.lt_irrefl _)
 ·exact absurd (Nat.lt_of_lt_of_le (Heap.lt_size (I.pin p hp).1) (by rw[z];exact hb)) (Nat.lt_irrefl _)
structure Turn (P:Program) (w:World) (K:Fg) (tg:Expr) (J:It) (fp:List Addr) (it:Addr) (tn:Nat→Heap→Prop):Prop where
 mem:it∈fp
 obj:∀ i h,tn i h→∀ b∈fp,∃ o,h.get? b=some o∧∀ v,o.data≠.cell v
 keep:∀ i h h',tn i h→(∀ b∈fp,∀ o,h.get? b=some o→h'.get? b=some o)→tn i h'
 item:∀ (X:Cx),X.prog=P→X.w=w→X.K=K→X.calm=true→∀ (i:Nat) (pins:List (Addr × Obj)) (s:Shared) (σ:St) (H:Hp) (E:Value→Shared→Prop),Inv X pins σ H s→(∀ b∈fp,FpOk X pins H b)→tn i s.heap→J.go i H→
  wpAny (model P w) X.A (pyNext (.ref it)) (λr s1=>∃ u,r=some u∧
   wpAny (model P w) X.A (letOwnedTupleGo tg (.ref it) u) (λ_ s2=>∃ x H',Inv X pins σ H' s2∧RelV x u∧J.yld i H x H'∧tn (i+1) s2.heap∧∀ b∈fp,H' b=none) E s1) E s
 done:∀ (X:Cx),X.prog=P→X.w=w→X.K=K→X.calm=true→∀ (i:Nat) (pins:List (Addr × Obj)) (s:Shared) (σ:St) (H:Hp) (E:Value→Shared→Prop),Inv X pins σ H s→(∀ b∈fp,FpOk X pins H b)→tn i s.heap→J.stop i H→
  wpAny (model P w) X.A (pyNext (.ref it)) (λr s1=>r=none∧Inv X pins σ H s1) E s
 self:∀ (A:Around) (i:Nat) (s:Shared) (Q:Value→Shared→Prop) (E:Value→Shared→Prop),tn i s.heap→Q (.ref it) s→wpAny (model P w) A (pyIter (.ref it)) Q E s
abbrev TI:=St→Hp→(It→Hp→Prop)→Prop
def PIE (X:Cx) (pins:List (Addr × Obj)) (σ:St) (tg:Expr) (R:It→Hp→Prop) (itv:Value) (s2:Shared):Prop:=
 ∃ (it:Addr) (fp:List Addr) (tn:Nat→Heap→Prop) (J:It) (H':Hp),itv=.ref it∧Inv X pins σ H' s2∧Turn X.prog X.w X.K tg J fp it tn∧tn 0 s2.heap∧(∀ b∈fp,FpOk X pins H' b)∧R J H'
def PI (X:Cx) (tg iter:Expr) (wi:TI):Prop:=
 ∀ (pins:List (Addr × Obj)) (s:Shared) (σ:St) (H:Hp) (R:It→Hp→Prop),Inv X pins σ H s→wi σ H R→
  wpAny (model X.prog X.w) X.A (eval iter X.env) (λv s1=>wpAny (model X.prog X.w) X.A (pyIter v) (PIE X pins σ tg R) X.xe s1) X.xe s
theorem znq {M:Model}{A:Around}{E:Value→Shared→Prop}{s:Shared}{tg:Expr}{it:Addr}{u:Value}{o:Obj}{n:String}{vs:Array Value}{Q:Unit→Shared→Prop}(ho:s.heap.get? it=some o) (hc:o.cls=.type n) (hd:o.data=.fields vs)
    (hn:["enumerate","zip","dict_itemiterator","dict_reverseitemiterator","odict_iterator","itertools.zip_longest","itertools.pairwise"].contains n=false) (hQ:Q () s):wpAny M A (letOwnedTupleGo tg (.ref it) u) Q E s:=by
  unfold letOwnedTupleGo
  cases tg <;> first
    | exact wpAny_pure hQ
    | (cases u <;> first
        | exact wpAny_pure hQ
        | (refine wpAny_bind (wpAny_load ho ?_)
           rw[hc,hd]
           show wpAny M A (if (["enumerate","zip","dict_itemiterator","dict_reverseitemiterator","odict_iterator","itertools.zip_longest","itertools.pairwise"].contains n && vs[0]? == some (rawInt _))=true then _ else _) Q E s
           rw[if_neg (by intro h;rw[hn,Bool.false_and] at h;cases h)]
           exact wpAny_pure hQ))
def Itl (K:Fg) (a:Addr):It:=
 ⟨λi H=>∃ xs x,SqL K H a xs∧xs[i]?=some x,λi H x H'=>H'=H∧∀ xs,SqL K H a xs→xs[i]?=some x,λi H=>∃ xs,SqL K H a xs∧xs.length≤i⟩
def Itt (K:Fg) (a:Addr):It:=
 ⟨λi H=>∃ xs x,SqT K H a xs∧xs[i]?=some x,λi H x H'=>H'=H∧∀ xs,SqT K H a xs→xs[i]?=some x,λi H=>∃ xs,SqT K H a xs∧xs.length≤i⟩
def Itr (lo:Int) (n:Nat):It:=⟨λi _=>i<n,λi H x H'=>H'=H∧x=.int (lo+i),λi _=>n≤i⟩
theorem zkk {P:Program}{w:World}{K:Fg}{tg:Expr}(a it:Addr):Turn P w K tg (Itl K a) [it] it (λi h=>h.IsListIter it a i) where
 mem:=by simp
 obj:=λi h st b hb=>by
  have e:b=it:=by simpa using hb
  subst e
  obtain⟨o,e,c,d⟩:=st
  exact⟨o,e,λv z=>by rw[d] at z;cases z⟩
 keep:=λi h h' st k=>st.at λo e=>k it (by simp) o e
 item:=by
  intro X hP hw hK hc i pins s σ H E I hf st hg
  subst hP hw hK
  obtain⟨xs,x,hq,hx⟩:=hg
  obtain⟨its,rv,p,hz⟩:=I.list hq
  obtain⟨u,hu,ru⟩:=rv.get hx
  obtain⟨f0,f1,f2,f3,f4,f5⟩:=hf it (by simp)
  refine wpAny_pyNext_list_item st p.isList (x:=u) (by simpa using hu) λh' st' sb=>?_
  have I1:Inv X pins σ H {s with heap:=h'}:=I.turned (t':=s.toks) (λb o hb e=>(sb.2 b hb).trans e) f0 f1 f3 f4 f5
  obtain⟨o,e,c,d⟩:=id st'
  exact⟨u,rfl,znq (s:={s with heap:=h'}) e c d (by decide) ⟨x,H,I1,ru,⟨rfl,λys hy=>by rw[I.list_inj hy hq];exact hx⟩,st',λb hb=>(hf b hb).1⟩⟩
 done:=by
  intro X hP hw hK hc i pins s σ H E I hf st hg
  subst hP hw hK
  obtain⟨xs,hq,hx⟩:=hg
  obtain⟨its,rv,p,hz⟩:=I.list hq
  obtain⟨f0,f1,f2,f3,f4,f5⟩:=hf it (by simp)
  have hl:=rv.length
  exact wpAny_pyNext_list_end (I.ok.hd hc) st p.isList (by simp;omega) λh' eb=>⟨rfl,I.turned (t':=s.toks) (λb o hb e=>eb b o hb e) f0 f1 f3 f4 f5⟩
 self:=λ_ _ _ _ _ st h=>wpAny_pyIter_listiter st h
theorem zjt {P:Program}{w:World}{K:Fg}{tg:Expr}(a it:Addr):Turn P w K tg (Itt K a) [it] it (λi h=>h.IsTupleIter it a i) where
 mem:=by simp
 obj:=λi h st b hb=>by
  have e:b=it:=by simpa using hb
  subst e
  obtain⟨o,e,c,d⟩:=st
  exact⟨o,e,λv z=>by rw[d] at z;cases z⟩
 keep:=λi h h' st k=>st.at λo e=>k it (by simp) o e
 item:=by
  intro X hP hw hK hc i pins s σ H E I hf st hg
  subst hP hw hK
  obtain⟨xs,x,hq,hx⟩:=hg
  obtain⟨its,rv,p,hz⟩:=I.tuple hq
  obtain⟨u,hu,ru⟩:=rv.get hx
  obtain⟨f0,f1,f2,f3,f4,f5⟩:=hf it (by simp)
  refine wpAny_pyNext_tuple_item st (show s.heap.IsTuple a its.toArray from p) (x:=u) (by simpa using hu) λh' st' sb=>?_
  have I1:Inv X pins σ H {s with heap:=h'}:=I.turned (t':=s.toks) (λb o hb e=>(sb.2 b hb).trans e) f0 f1 f3 f4 f5
  obtain⟨o,e,c,d⟩:=id st'
  exact⟨u,rfl,znq (s:={s with heap:=h'}) e c d (by decide) ⟨x,H,I1,ru,⟨rfl,λys hy=>by rw[I.tuple_inj hy hq];exact hx⟩,st',λb hb=>(hf b hb).1⟩⟩
 done:=by
  intro X hP hw hK hc i pins s σ H E I hf st hg
  subst hP hw hK
  obtain⟨xs,hq,hx⟩:=hg
  obtain⟨its,rv,p,hz⟩:=I.tuple hq
  obtain⟨f0,f1,f2,f3,f4,f5⟩:=hf it (by simp)
  have hl:=rv.length
  exact wpAny_pyNext_tuple_end (I.ok.hd hc) st (show s.heap.IsTuple a its.toArray from p) (by simp;omega) λh' eb=>⟨rfl,I.turned (t':=s.toks) (λb o hb e=>eb b o hb e) f0 f1 f3 f4 f5⟩
 self:=λ_ _ _ _ _ st h=>wpAny_pyIter_tupleiter st h
theorem zju {P:Program}{w:World}{K:Fg}{tg:Expr}(it:Addr) (lo:Int) (n:Nat):Turn P w K tg (Itr lo n) [it] it (λi h=>IsRangeIter h it (lo+(i:Nat) * 1) ((n:Int) - (i:Nat)) 1) where
 mem:=by simp
 obj:=λi h st b hb=>by
  have e:b=it:=by simpa using hb
  subst e
  exact⟨_,st,λv z=>by
   have z':Data.fields _=Data.cell v:=z
   cases z'⟩
 keep:=λi h h' st k=>k it (by simp) _ st
 item:=by
  intro X hP hw hK hc i pins s σ H E I hf st hg
  subst hP hw hK
  obtain⟨f0,f1,f2,f3,f4,f5⟩:=hf it (by simp)
  have W:=Walks.range (prog:=X.prog) (w:=X.w) (I.ok.hd hc) it lo 1 n
  refine W.item i s _ _ hg st λv h' tk hv st' kk=>?_
  obtain⟨t,rfl⟩:=hv
  have I1:Inv X pins σ H {s with heap:=h',toks:=tk}:=I.turned (λb o hb e=>kk b o (by simpa using hb) e) f0 f1 f3 f4 f5
  refine⟨_,rfl,znq (s:={s with heap:=h',toks:=tk}) (n:="range_iterator") st' rfl rfl (by decide) ⟨.int (lo+i),H,I1,⟨t,?_⟩,⟨rfl,rfl⟩,st',λb hb=>(hf b hb).1⟩⟩
  rw[Int.mul_one]
 done:=by
  intro X hP hw hK hc i pins s σ H E I hf st hg
  subst hP hw hK
  obtain⟨f0,f1,f2,f3,f4,f5⟩:=hf it (by simp)
  exact wpAny_pyNext_range_end (I.ok.hd hc) st (by have:n≤i:=hg;omega) λh' eb=>⟨rfl,I.turned (t':=s.toks) (λb o hb e=>eb b o hb e) f0 f1 f3 f4 f5⟩
 self:=λ_ _ _ _ _ st h=>wpAny_pyIter_rangeiter st h
end L2

namespace L2
open PySem PySem.Spec PyProof.Rows
section
variable {X : Cx} {tg : Expr}
def znr (K:Fg) (tl:TE):TI:=λσ H R=>tl σ H λx H1=>∃ a,x=.ref a∧(∃ xs,SqL K H1 a xs)∧R (Itl K a) H1
def iTup (K:Fg) (tl:TE):TI:=λσ H R=>tl σ H λx H1=>∃ a,x=.ref a∧(∃ xs,SqT K H1 a xs)∧R (Itt K a) H1
theorem zns {l:Expr}{tl:TE}(hl:PE X l tl):PI X tg l (znr X.K tl):=by
 intro pins s σ H R I h
 refine thn (hl pins s σ H _ I h) λv s1 ⟨x,H1,I1,r1,q1⟩=>?_
 obtain⟨a,e,⟨xs,hq⟩,q⟩:=q1
 subst e
 cases r1
 obtain⟨its,rv,p,hz⟩:=I1.list hq
 refine wpAny_pyIter_list p.isList ?_
 refine⟨s1.heap.objs.size,[s1.heap.objs.size],_,_,H1,rfl,I1.kept (t':=s1.toks) λb o e=>Heap.get?_push_of_some _ e,zkk a _,⟨_,Heap.get?_push_size _ rfl,rfl,rfl⟩,λb hb=>?_,q⟩
 have e:b=s1.heap.objs.size:=by simpa using hb
 subst e
 exact I1.fpOk (Nat.le_refl _) (I1.hok.fresh (Nat.le_refl _))
theorem zoz {l:Expr}{tl:TE}(hl:PE X l tl):PI X tg l (iTup X.K tl):=by
 intro pins s σ H R I h
 refine thn (hl pins s σ H _ I h) λv s1 ⟨x,H1,I1,r1,q1⟩=>?_
 obtain⟨a,e,⟨xs,hq⟩,q⟩:=q1
 subst e
 cases r1
 obtain⟨its,rv,p,hz⟩:=I1.tuple hq
 refine wpAny_pyIter_tuple (show s1.heap.IsTuple a its.toArray from p) ?_
 refine⟨s1.heap.objs.size,[s1.heap.objs.size],_,_,H1,rfl,I1.kept (t':=s1.toks) λb o e=>Heap.get?_push_of_some _ e,zjt a _,⟨_,Heap.get?_push_size _ rfl,rfl,rfl⟩,λb hb=>?_,q⟩
 have e:b=s1.heap.objs.size:=by simpa using hb
 subst e
 exact I1.fpOk (Nat.le_refl _) (I1.hok.fresh (Nat.le_refl _))
theorem zlP {pins:List (Addr × Obj)}{σ:St}{H:Hp}{s:Shared}{R:It→Hp→Prop}{E:Value→Shared→Prop}{lo hi:Int}{t u v:Tok}{tk:Nat}(I:Inv X pins σ H s) (h1:-(2 ^ 62)≤lo) (h2:lo<2 ^ 62) (h3:-(2 ^ 62)≤hi) (h4:hi<2 ^ 62)
  (q:R (Itr lo (hi - lo).toNat) H):wpAny (model X.prog X.w) X.A (pyIter (.ref s.heap.objs.size)) (PIE X pins σ tg R) E {s with heap:=s.heap.push {cls:=.type "range",data:=.fields #[.int lo t,.int hi u,.int 1 v]},toks:=tk}:=by
 refine wpAny_pyIter_range (IsRange.new ..) (small_one h1 h2 h3 h4) ?_
 have I1:Inv X pins σ H {s with heap:=s.heap.push {cls:=.type "range",data:=.fields #[.int lo t,.int hi u,.int 1 v]},toks:=tk}:=I.kept λb o e=>Heap.get?_push_of_some _ e
 refine⟨(s.heap.push {cls:=.type "range",data:=.fields #[.int lo t,.int hi u,.int 1 v]}).objs.size,[(s.heap.push {cls:=.type "range",data:=.fields #[.int lo t,.int hi u,.int 1 v]}).objs.size],_,_,H,rfl,
  I1.kept (t':=tk) λb o e=>Heap.get?_push_of_some _ e,zju _ lo (hi - lo).toNat,?_,λb hb=>?_,q⟩
 ·have e1:lo+((0:Nat):Int) * 1=lo:=by simp
  have e2:(((hi - lo).toNat:Nat):Int) - ((0:Nat):Int)=Builtin.Range.rangeSize lo hi 1:=by rw[rangeSize_one];split <;> omega
  show IsRangeIter _ _ (lo+((0:Nat):Int) * 1) ((((hi - lo).toNat:Nat):Int) - ((0:Nat):Int)) 1
  rw[e1,e2]
  exact Heap.get?_push_size _ rfl
 ·have e:b=(s.heap.push {cls:=.type "range",data:=.fields #[.int lo t,.int hi u,.int 1 v]}).objs.size:=by simpa using hb
  subst e
  exact I1.fpOk (Nat.le_refl _) (I1.hok.fresh (Nat.le_refl _))
def zoA (ta:TA):TI:=λσ H R=>ta σ H λvs H1=>∃ j:Int,vs=[.int j]∧-(2 ^ 62)≤j∧j<2 ^ 62∧R (Itr 0 j.toNat) H1
theorem zbD {a:Expr}{ta:TA}{p pos:Pos}(hg:Gl X "range") (hm:X.mg "range"=none) (ha:PA X [a] ta) (hs:starEach [a] X.env=[(false,eval a X.env)]:=by rfl):PI X tg (.Call (.Name "range" p) [a] [] pos) (zoA ta):=by
 intro pins s σ H R I h
 refine Call_ (zf9 I hg hm boot_range (PyProof.Rows.callWith_type1 (thn (ha pos pins s σ H _ I h) λus s1 ⟨vs,H1,I1,r1,q1⟩=>?_) hs rfl))
 obtain⟨j,e,q1,q2,q⟩:=q1
 subst e
 cases r1 with
 | cons r rr=>
  cases rr
  obtain⟨t,rfl⟩:=r
  exact call_range_1 (zlP I1 (by omega) (by omega) q1 q2 (by simpa using q))
def tFor (wi:TI) (g:TG) (tb:TS):TS:=λD σ H=>wi σ H λJ H1=>∃ W:Nat→Nat→St→Hp→Prop,(∃ m,W 0 m σ H1)∧∀ i m σ H,W i m σ H→
 (J.stop i H∧D.nx σ H)∨(J.go i H∧∃ N:St→Hp→Prop,(∀ σ' H',N σ' H'→∃ m',m'<m∧W (i+1) m' σ' H')∧∀ x H',J.yld i H x H'→g x σ H' λσ2 H2=>tb {D with nx:=N,ct:=N,bk:=D.nx} σ2 H2)
def zg7 (fp:List Addr) (h:Heap):List (Addr × Obj):=fp.filterMap λb=>(h.get? b).map λo=>(b,o)
theorem zdu {fp:List Addr}{h:Heap}{b:Addr}{o:Obj}(hb:b∈fp) (e:h.get? b=some o):(b,o)∈zg7 fp h:=List.mem_filterMap.mpr ⟨b,hb,by rw[e];rfl⟩
theorem zkl {fp:List Addr}{h:Heap}{p:Addr × Obj}(hp:p∈zg7 fp h):p.1∈fp∧h.get? p.1=some p.2:=by
 obtain⟨b,hb,e⟩:=List.mem_filterMap.mp hp
 cases q:h.get? b with
 | none=>rw[q] at e;cases e
 | some o=>
  rw[q] at e
  have e':(b,o)=p:=Option.some.inj e
  subst e'
  exact⟨hb,q⟩
theorem Inv.pinned {pins:List (Addr × Obj)}{σ:St}{H:Hp}{s:Shared}{fp:List Addr}(I:Inv X pins σ H s) (hf:∀ b∈fp,FpOk X pins H b) (ho:∀ b∈fp,∃ o,s.heap.get? b=some o∧∀ v,o.data≠.cell v):Inv X (pins++zg7 fp s.heap) σ H s:=
 I.pins_of λp hp=>(zma.mp hp).elim (λz=>I.pin p (List.mem_append_right _ z)) λz=>by
  obtain⟨hb,e⟩:=zkl z
  obtain⟨f0,f1,f2,_⟩:=hf p.1 hb
  obtain⟨o,e',d⟩:=ho p.1 hb
  rw[e] at e';cases e'
  exact⟨e,f0,f1,f2,d⟩
theorem Inv.unpinned {pins pl:List (Addr × Obj)}{σ:St}{H:Hp}{s:Shared}(I:Inv X (pins++pl) σ H s):Inv X pins σ H s:=I.pins_of λp hp=>I.pin p (List.mem_append_right _ (List.mem_append_left _ hp))
theorem zdW {iter:Expr}{body:List Stmt}{wi:TI}{g:TG}{tb:TS}{pos:Pos}(hp:PassesOwn (model X.prog X.w) X.A X.env X.xe) (hc:X.calm=true) (hi:PI X tg iter wi) (hg:PG X tg g) (hb:PSs X body tb)
  (hs:∀ x,foldedSetIterable iter X.env x=pure x:=by intro _;rfl):PS X (.For tg iter body [] pos) (tFor wi g tb):=by
 intro pins s σ H D I h
 refine wpAny_For (thn (hi pins s σ H _ I h) λv s1 h1=>thn h1 λitv s2 h2=>?_) hs
 obtain⟨it,fp,tn,J,H2,e,I2,T,st2,f2,W,⟨m0,w0⟩,turn⟩:=h2
 subst e
 -- what stays true of the iterator's objects through the loop
 have stat:∀ {H':Hp},(∀ b∈fp,H' b=none)→∀ b∈fp,FpOk X pins H' b:=λhn b hb=>⟨hn b hb,(f2 b hb).2⟩
 refine codeAny_forLoop_any (λn s'=>∃ i σ' H',Inv X pins σ' H' s'∧tn i s'.heap∧(∀ b∈fp,H' b=none)∧W i n σ' H') ?_ m0 ⟨0,σ,H2,I2,st2,λb hb=>(f2 b hb).1,w0⟩
 rintro n s3 ⟨i,σ3,H3,I3,st3,fr3,w3⟩
 rcases turn i n σ3 H3 w3 with ⟨stop,qn⟩ | ⟨go,N,hN,step⟩
 ·refine wpAny_passesOwn hp (thn (T.done X rfl rfl rfl hc i pins s3 σ3 H3 X.xe I3 (stat fr3) st3 stop) λr s4 ⟨hr,I4⟩=>?_)
  subst hr
  exact wpAny_execs_nil ⟨σ3,H3,I4,qn⟩
 ·refine wpAny_passesOwn hp (thn (T.item X rfl rfl rfl hc i pins s3 σ3 H3 X.xe I3 (stat fr3) st3 go) λr s4 ⟨u,hr,h4⟩=>?_)
  subst hr
  refine wpAny_passesOwn hp (thn h4 λ_ s5 ⟨x,H5,I5,r5,y5,st5,fr5⟩=>?_)
  have I5':=I5.pinned (stat fr5) (T.obj _ _ st5)
  refine wpAny_passesOwn hp (thn (hg _ s5 σ3 H5 x u _ I5' r5 (step x H5 y5)) λ_ s6 ⟨σ6,H6,I6,q6⟩=>?_)
  refine wpAny_passesOwn hp (thn (hb _ s6 σ6 H6 _ I6 q6) λf s7 q7=>?_)
  have again:∀ {σ7:St}{H7:Hp},Inv X (pins++zg7 fp s5.heap) σ7 H7 s7→N σ7 H7→∃ m,m<n∧∃ i σ' H',Inv X pins σ' H' s7∧tn i s7.heap∧(∀ b∈fp,H' b=none)∧W i m σ' H':=λ{σ7 H7} I7 n7=>by
   obtain⟨m',hm,w7⟩:=hN σ7 H7 n7
   refine⟨m',hm,i+1,σ7,H7,I7.unpinned,T.keep _ _ _ st5 λb hb o e=>(I7.pin (b,o) (List.mem_append_right _ (List.mem_append_right _ (zdu hb e)))).1,λb hb=>?_,w7⟩
   obtain⟨o,e,d⟩:=T.obj _ _ st5 b hb
   exact (I7.pin (b,o) (List.mem_append_right _ (List.mem_append_right _ (zdu hb e)))).2.1
  cases f with
  | next=>obtain⟨σ7,H7,I7,n7⟩:=q7;exact again I7 n7
  | cont=>obtain⟨σ7,H7,I7,n7⟩:=q7;exact again I7 n7
  | brk=>obtain⟨σ7,H7,I7,q7⟩:=q7;exact⟨σ7,H7,I7.unpinned,q7⟩
  | ret v=>obtain⟨x7,σ7,H7,I7,r7,q7⟩:=q7;exact⟨x7,σ7,H7,I7.unpinned,r7,q7⟩
end

theorem zlQ {K:Fg}{a:Addr}{xs:List V}{g:TG}{tb:TS}{D:Ends}{σ:St}{H:Hp}(Pv:Nat→St→Hp→Prop) (h0:Pv 0 σ H) (hl:∀ i σ H,i≤xs.length→Pv i σ H→SqL K H a xs)
  (hs:∀ i x σ H,xs[i]?=some x→Pv i σ H→g x σ H λσ2 H2=>tb {D with nx:=Pv (i+1),ct:=Pv (i+1),bk:=D.nx} σ2 H2) (hd:∀ σ H,Pv xs.length σ H→D.nx σ H) :
  ∃ W:Nat→Nat→St→Hp→Prop,(∃ m,W 0 m σ H)∧∀ i m σ H,W i m σ H→
   ((Itl K a).stop i H∧D.nx σ H)∨((Itl K a).go i H∧∃ N:St→Hp→Prop,(∀ σ' H',N σ' H'→∃ m',m'<m∧W (i+1) m' σ' H')∧∀ x H',(Itl K a).yld i H x H'→g x σ H' λσ2 H2=>tb {D with nx:=N,ct:=N,bk:=D.nx} σ2 H2):=by
 refine⟨λi m σ H=>m=xs.length - i∧i≤xs.length∧Pv i σ H,⟨xs.length,by simp,Nat.zero_le _,h0⟩,?_⟩
 rintro i m σ H ⟨rfl,hi,p⟩
 have q:=hl i σ H hi p
 by_cases hlt:i<xs.length
 ·refine .inr ⟨⟨xs,xs[i],q,by simp[hlt]⟩,Pv (i+1),λσ' H' p'=>⟨xs.length - (i+1),by omega,rfl,hlt,p'⟩,λx H' y=>?_⟩
  obtain⟨e,y⟩:=y
  subst e
  exact hs i x σ _ (y xs q) p
 ·have e:i=xs.length:=by omega
  subst e
  exact .inl ⟨⟨xs,q,Nat.le_refl _⟩,hd σ H p⟩
theorem znt {K:Fg}{a:Addr}{xs:List V}{g:TG}{tb:TS}{D:Ends}{σ:St}{H:Hp}(Pv:Nat→St→Hp→Prop) (h0:Pv 0 σ H) (hl:∀ i σ H,i≤xs.length→Pv i σ H→SqT K H a xs)
  (hs:∀ i x σ H,xs[i]?=some x→Pv i σ H→g x σ H λσ2 H2=>tb {D with nx:=Pv (i+1),ct:=Pv (i+1),bk:=D.nx} σ2 H2) (hd:∀ σ H,Pv xs.length σ H→D.nx σ H) :
  ∃ W:Nat→Nat→St→Hp→Prop,(∃ m,W 0 m σ H)∧∀ i m σ H,W i m σ H→
   ((Itt K a).stop i H∧D.nx σ H)∨((Itt K a).go i H∧∃ N:St→Hp→Prop,(∀ σ' H',N σ' H'→∃ m',m'<m∧W (i+1) m' σ' H')∧∀ x H',(Itt K a).yld i H x H'→g x σ H' λσ2 H2=>tb {D with nx:=N,ct:=N,bk:=D.nx} σ2 H2):=by
 refine⟨λi m σ H=>m=xs.length - i∧i≤xs.length∧Pv i σ H,⟨xs.length,by simp,Nat.zero_le _,h0⟩,?_⟩
 rintro i m σ H ⟨rfl,hi,p⟩
 have q:=hl i σ H hi p
 by_cases hlt:i<xs.length
 ·refine .inr ⟨⟨xs,xs[i],q,by simp[hlt]⟩,Pv (i+1),λσ' H' p'=>⟨xs.length - (i+1),by omega,rfl,hlt,p'⟩,λx H' y=>?_⟩
  obtain⟨e,y⟩:=y
  subst e
  exact hs i x σ _ (y xs q) p
 ·have e:i=xs.length:=by omega
  subst e
  exact .inl ⟨⟨xs,q,Nat.le_refl _⟩,hd σ H p⟩
theorem zkm {lo:Int}{n:Nat}{g:TG}{tb:TS}{D:Ends}{σ:St}{H:Hp}(Pv:Nat→St→Hp→Prop) (h0:Pv 0 σ H)
  (hs:∀ i σ H,i<n→Pv i σ H→g (.int (lo+i)) σ H λσ2 H2=>tb {D with nx:=Pv (i+1),ct:=Pv (i+1),bk:=D.nx} σ2 H2) (hd:∀ σ H,Pv n σ H→D.nx σ H) :
  ∃ W:Nat→Nat→St→Hp→Prop,(∃ m,W 0 m σ H)∧∀ i m σ H,W i m σ H→
   ((Itr lo n).stop i H∧D.nx σ H)∨((Itr lo n).go i H∧∃ N:St→Hp→Prop,(∀ σ' H',N σ' H'→∃ m',m'<m∧W (i+1) m' σ' H')∧∀ x H',(Itr lo n).yld i H x H'→g x σ H' λσ2 H2=>tb {D with nx:=N,ct:=N,bk:=D.nx} σ2 H2):=by
 refine⟨λi m σ H=>m=n - i∧i≤n∧Pv i σ H,⟨n,by simp,Nat.zero_le _,h0⟩,?_⟩
 rintro i m σ H ⟨rfl,hi,p⟩
 by_cases hlt:i<n
 ·refine .inr ⟨hlt,Pv (i+1),λσ' H' p'=>⟨n - (i+1),by omega,rfl,hlt,p'⟩,λx H' y=>?_⟩
  obtain⟨e,y⟩:=y
  subst e y
  exact hs i σ _ hlt p
 ·have e:i=n:=by omega
  subst e
  exact .inl ⟨Nat.le_refl _,hd σ H p⟩
end L2

namespace L2
open PySem PySem.Spec PyProof.Rows

abbrev R2:=V→V→Hp→VK→Prop
def OpR (X:Cx) (f:Value→Value→Sem Value) (r:R2):Prop:=
 ∀ (pins:List (Addr × Obj)) (s:Shared) (σ:St) (H:Hp) (x y:V) (v u:Value) (Q:VK),Inv X pins σ H s→RelV x v→RelV y u→r x y H Q→
  wpAny (model X.prog X.w) X.A (f v u) (EP X pins σ Q) X.xe s
def UnR (X:Cx) (f:Value→Sem Value) (r:V→Hp→VK→Prop):Prop:=
 ∀ (pins:List (Addr × Obj)) (s:Shared) (σ:St) (H:Hp) (x:V) (v:Value) (Q:VK),Inv X pins σ H s→RelV x v→r x H Q→
  wpAny (model X.prog X.w) X.A (f v) (EP X pins σ Q) X.xe s
def zce (X:Cx) (f:Value) (r:List V→Hp→VK→Prop):Prop:=
 ∀ (pins:List (Addr × Obj)) (s:Shared) (σ:St) (H:Hp) (xs:List V) (us:List Value) (Q:VK),Inv X pins σ H s→Vals xs us→r xs H Q→
  wpAny (model X.prog X.w) X.A (call f us) (EP X pins σ Q) X.xe s
def TruR (X:Cx) (r:V→Hp→(Bool→Hp→Prop)→Prop):Prop:=
 ∀ (pins:List (Addr × Obj)) (s:Shared) (σ:St) (H:Hp) (x:V) (v:Value) (Q:Bool→Hp→Prop),Inv X pins σ H s→RelV x v→r x H Q→
  wpAny (model X.prog X.w) X.A (truthy v) (TP X pins σ Q) X.xe s
def tOp (r:R2) (ta tb:TE):TE:=λσ H Q=>ta σ H λx H1=>tb σ H1 λy H2=>r x y H2 Q
def tUn (r:V→Hp→VK→Prop) (ta:TE):TE:=λσ H Q=>ta σ H λx H1=>r x H1 Q
def rI (C:Int→Int→Prop) (g:Int→Int→V):R2:=λx y H Q=>∃ i j,x=.int i∧y=.int j∧C i j∧Q (g i j) H
def rI0 (g:Int→Int→V):R2:=λx y H Q=>∃ i j,x=.int i∧y=.int j∧Q (g i j) H
def rU (g:Int→V):V→Hp→VK→Prop:=λx H Q=>∃ i,x=.int i∧Q (g i) H
section
variable {X : Cx} {a b c : Expr} {ta tb tc : TE} {pos : Pos}

theorem binT (ha:PE X a ta) (hb:PE X b tb) {pins:List (Addr × Obj)}{s:Shared}{σ:St}{H:Hp}{R:V→V→Hp→Prop}(I:Inv X pins σ H s)
  (h:ta σ H λx H1=>tb σ H1 λy H2=>R x y H2) {Q:Value→Shared→Prop}{f:Value→Value→Sem Value}
  (hf:∀ v u s2 x y H2,Inv X pins σ H2 s2→RelV x v→RelV y u→R x y H2→wpAny (model X.prog X.w) X.A (f v u) Q X.xe s2) :
  wpAny (model X.prog X.w) X.A (eval a X.env) (λv s₁=>wpAny (model X.prog X.w) X.A (eval b X.env) (λu s₂=>wpAny (model X.prog X.w) X.A (f v u) Q X.xe s₂) X.xe s₁) X.xe s:=by
 refine thn (ha pins s σ H _ I h) λv s1 ⟨x,H1,I1,r1,q1⟩=>?_
 refine thn (hb pins s1 σ H1 _ I1 q1) λu s2 ⟨y,H2,I2,r2,q2⟩=>?_
 exact hf v u s2 x y H2 I2 r1 r2 q2
theorem zao {op:Operator}{r:R2}(ho:OpR X (binaryOp op) r) (ha:PE X a ta) (hb:PE X b tb):PE X (.BinOp a op b pos) (tOp r ta tb):=by
 intro pins s σ H Q I h
 exact wpAny_BinOp (binT ha hb I h λv u s2 x y H2 I2 rx ry q=>ho pins s2 σ H2 x y v u Q I2 rx ry q)
theorem zdB {op:UnaryOp}{r:V→Hp→VK→Prop}(ho:UnR X (unaryOp op) r) (ha:PE X a ta):PE X (.UnaryOp op a pos) (tUn r ta):=by
 intro pins s σ H Q I h
 exact UnaryOp_ (thn (ha pins s σ H _ I h) λv s1 ⟨x,H1,I1,r1,q1⟩=>ho pins s1 σ H1 x v Q I1 r1 q1)
theorem opI {f:Value→Value→Sem Value}{C:Int→Int→Prop}{g:Int→Int→Int}
  (rule:∀ (i j:Int) (t u:Tok) (s:Shared) (Q:Value→Shared→Prop) (E:Value→Shared→Prop),C i j→Q (.int (g i j) s.toks) {s with toks:=s.toks+1}→wpAny (model X.prog X.w) X.A (f (.int i t) (.int j u)) Q E s) :
  OpR X f (rI C λi j=>.int (g i j)):=by
 intro pins s σ H x y v u Q I rx ry h
 obtain⟨i,j,rfl,rfl,hc,q⟩:=h
 obtain⟨t,rfl⟩:=rx
 obtain⟨t',rfl⟩:=ry
 exact rule i j t t' s _ _ hc ⟨.int (g i j),H,I.tok _,⟨_,rfl⟩,q⟩
theorem opI0 {f:Value→Value→Sem Value}{g:Int→Int→Int}
  (rule:∀ (i j:Int) (t u:Tok) (s:Shared) (Q:Value→Shared→Prop) (E:Value→Shared→Prop),Q (.int (g i j) s.toks) {s with toks:=s.toks+1}→wpAny (model X.prog X.w) X.A (f (.int i t) (.int j u)) Q E s) :
  OpR X f (rI0 λi j=>.int (g i j)):=by
 intro pins s σ H x y v u Q I rx ry h
 obtain⟨i,j,rfl,rfl,q⟩:=h
 obtain⟨t,rfl⟩:=rx
 obtain⟨t',rfl⟩:=ry
 exact rule i j t t' s _ _ ⟨.int (g i j),H,I.tok _,⟨_,rfl⟩,q⟩
theorem opB0 {f:Value→Value→Sem Value}{g:Int→Int→Bool}
  (rule:∀ (i j:Int) (t u:Tok) (s:Shared) (Q:Value→Shared→Prop) (E:Value→Shared→Prop),Q (.bool (g i j)) s→wpAny (model X.prog X.w) X.A (f (.int i t) (.int j u)) Q E s) :
  OpR X f (rI0 λi j=>.bl (g i j)):=by
 intro pins s σ H x y v u Q I rx ry h
 obtain⟨i,j,rfl,rfl,q⟩:=h
 obtain⟨t,rfl⟩:=rx
 obtain⟨t',rfl⟩:=ry
 exact rule i j t t' s _ _ ⟨.bl (g i j),H,I,rfl,q⟩
def CDiv (i j:Int):Prop:=0<j∧j<1073741824
def CPow (i j:Int):Prop:=0≤j∧j≤1000000∧i.natAbs<2 ^ 64
def CMul (i j:Int):Prop:=(-(2 ^ 64)<i∧i<2 ^ 64)∨(-(2 ^ 64)<j∧j<2 ^ 64)
theorem CMul.ok {i j:Int}(h:CMul i j):IntMulOk i j:=by
 rcases h with ⟨h1,h2⟩ | ⟨h1,h2⟩
 ·exact .of_left (intBits_le_64 h1 h2)
 ·exact .of_right (intBits_le_64 h1 h2)
theorem zoB:OpR X (binaryOp .Add) (rI0 λi j=>.int (i+j)):=opI0 λ_ _ _ _ _ _ _ q=>add_int q
theorem zgb:OpR X (binaryOp .Sub) (rI0 λi j=>.int (i - j)):=opI0 λ_ _ _ _ _ _ _ q=>sub_int q
theorem zoC:OpR X (binaryOp .Mult) (rI CMul λi j=>.int (i * j)):=opI λ_ _ _ _ _ _ _ hc q=>mul_int q hc.ok
theorem zaG:OpR X (binaryOp .FloorDiv) (rI CDiv λi j=>.int (i / j)):=opI λi j _ _ _ _ _ hc q=>by
 have h1:(0:Int)<j:=hc.1
 have h2:j<1073741824:=hc.2
 exact floordiv_int (by omega) (by rw[Int.fdiv_eq_ediv_of_nonneg i (by omega)];exact q) (.inl (PyProof.noPylong_small (by omega)))
theorem zaU:OpR X (binaryOp .Mod) (rI (λ_ j=>0<j) λi j=>.int (i % j)):=opI λi j _ _ _ _ _ hc q=>by
 have h1:(0:Int)<j:=hc
 exact mod_int' (by omega) (by rw[Int.fmod_eq_emod_of_nonneg i (by omega)];exact q)
theorem zgc:OpR X (binaryOp .Pow) (rI CPow λi j=>.int (i ^ j.toNat)):=opI λ_ _ _ _ _ _ _ hc q=>pow_int_small hc.1 hc.2.1 hc.2.2 q
theorem unI {f:Value→Sem Value}{g:Int→Int}
  (rule:∀ (i:Int) (t:Tok) (s:Shared) (Q:Value→Shared→Prop) (E:Value→Shared→Prop),Q (.int (g i) s.toks) {s with toks:=s.toks+1}→wpAny (model X.prog X.w) X.A (f (.int i t)) Q E s) :
  UnR X f (rU λi=>.int (g i)):=by
 intro pins s σ H x v Q I rx h
 obtain⟨i,rfl,q⟩:=h
 obtain⟨t,rfl⟩:=rx
 exact rule i t s _ _ ⟨.int (g i),H,I.tok _,⟨_,rfl⟩,q⟩
theorem zb2:UnR X (unaryOp .USub) (rU λi=>.int (-i)):=unI λ_ _ _ _ _ q=>neg_int q
end

def scal:V→V→Bool
 | .non,.non=>true | .non,.int _=>true | .int _,.non=>true | .non,.bl _=>true | .bl _,.non=>true | .non,.str _=>true | .str _,.non=>true
 | .int _,.int _=>true | .bl _,.bl _=>true | .str _,.str _=>true | .byt _,.byt _=>true
 | .int _,.str _=>true | .str _,.int _=>true | .bl _,.str _=>true | .str _,.bl _=>true
 | _,_=>false
def rEq:R2:=λx y H Q=>scal x y=true∧Q (.bl (decide (x=y))) H
def rNe:R2:=λx y H Q=>scal x y=true∧Q (.bl (!decide (x=y))) H
theorem zkn {i j:Int} : decide (V.int i=V.int j)=(i == j):=by
 rw[Bool.eq_iff_iff]
 simp
theorem zmW {i j:Bool} : decide (V.bl i=V.bl j)=(i == j):=by
 rw[Bool.eq_iff_iff]
 simp
theorem zko {i j:Str} : decide (V.str i=V.str j)=(i == j):=by
 rw[Bool.eq_iff_iff]
 simp
theorem zkp {i j:Array UInt8} : decide (V.byt i=V.byt j)=(i.toList == j.toList):=by
 rw[Bool.eq_iff_iff]
 cases i
 cases j
 simp
section
variable {X : Cx} {a b c : Expr} {ta tb tc : TE} {pos : Pos}
theorem zba {pins:List (Addr × Obj)}{σ:St}{H:Hp}{s:Shared}{Q:VK}{k k':Bool}(I:Inv X pins σ H s) (q:Q (.bl k) H) (e:k=k'):EP X pins σ Q (.bool k') s:=by
 subst e
 exact⟨.bl k,H,I,rfl,q⟩
theorem op_eq:OpR X (compareOp .Eq) rEq:=by
 intro pins s σ H x y v u Q I rx ry h
 obtain⟨hs,q⟩:=h
 cases x with
 | non=>
  cases rx
  cases y with
  | non=>cases ry;exact PySem.EqNone.eq_none_none (zba I q (by simp))
  | bl j=>cases ry;exact PySem.EqNone.eq_none_bool (zba I q (by simp))
  | int j=>obtain⟨t',rfl⟩:=ry;exact PySem.EqNone.eq_none_int (zba I q (by simp))
  | str j=>obtain⟨t',rfl⟩:=ry;exact PySem.EqNone.eq_none_str (zba I q (by simp))
  | _=>exact absurd (show false=true from hs) Bool.false_ne_true
 | bl i=>
  cases rx
  cases y with
  | non=>cases ry;exact PySem.EqNone.eq_bool_none (zba I q (by simp))
  | bl j=>cases ry;exact eq_bool (zba I q zmW)
  | str j=>obtain⟨t',rfl⟩:=ry;exact PySem.EqMixed.eq_bool_str (zba I q (by simp))
  | _=>exact absurd (show false=true from hs) Bool.false_ne_true
 | int i=>
  obtain⟨t,rfl⟩:=rx
  cases y with
  | non=>cases ry;exact PySem.EqNone.eq_int_none (zba I q (by simp))
  | int j=>obtain⟨t',rfl⟩:=ry;exact eq_int (zba I q zkn)
  | str j=>obtain⟨t',rfl⟩:=ry;exact PySem.EqMixed.eq_int_str (zba I q (by simp))
  | _=>exact absurd (show false=true from hs) Bool.false_ne_true
 | str i=>
  obtain⟨t,rfl⟩:=rx
  cases y with
  | non=>cases ry;exact PySem.EqNone.eq_str_none (zba I q (by simp))
  | bl j=>cases ry;exact PySem.EqMixed.eq_str_bool (zba I q (by simp))
  | int j=>obtain⟨t',rfl⟩:=ry;exact PySem.EqMixed.eq_str_int (zba I q (by simp))
  | str j=>obtain⟨t',rfl⟩:=ry;exact eq_str (zba I q zko)
  | _=>exact absurd (show false=true from hs) Bool.false_ne_true
 | byt i=>
  obtain⟨t,rfl⟩:=rx
  cases y with
  | byt j=>obtain⟨t',rfl⟩:=ry;exact PySem.W.eq_bytes (zba I q zkp)
  | _=>exact absurd (show false=true from hs) Bool.false_ne_true
 | _=>cases y <;> exact absurd (show false=true from hs) Bool.false_ne_true
theorem op_ne:OpR X (compareOp .NotEq) rNe:=by
 intro pins s σ H x y v u Q I rx ry h
 obtain⟨hs,q⟩:=h
 cases x with
 | non=>
  cases rx
  cases y with
  | non=>cases ry;exact PySem.EqNone.ne_none_none (zba I q (by simp))
  | bl j=>cases ry;exact PySem.EqNone.ne_none_bool (zba I q (by simp))
  | int j=>obtain⟨t',rfl⟩:=ry;exact PySem.EqNone.ne_none_int (zba I q (by simp))
  | str j=>obtain⟨t',rfl⟩:=ry;exact PySem.EqNone.ne_none_str (zba I q (by simp))
  | _=>exact absurd (show false=true from hs) Bool.false_ne_true
 | bl i=>
  cases rx
  cases y with
  | non=>cases ry;exact PySem.EqNone.ne_bool_none (zba I q (by simp))
  | bl j=>cases ry;exact ne_bool (zba I q (congrArg not zmW))
  | str j=>obtain⟨t',rfl⟩:=ry;exact PySem.EqMixed.ne_bool_str (zba I q (by simp))
  | _=>exact absurd (show false=true from hs) Bool.false_ne_true
 | int i=>
  obtain⟨t,rfl⟩:=rx
  cases y with
  | non=>cases ry;exact PySem.EqNone.ne_int_none (zba I q (by simp))
  | int j=>obtain⟨t',rfl⟩:=ry;exact ne_int (zba I q (congrArg not zkn))
  | str j=>obtain⟨t',rfl⟩:=ry;exact PySem.EqMixed.ne_int_str (zba I q (by simp))
  | _=>exact absurd (show false=true from hs) Bool.false_ne_true
 | str i=>
  obtain⟨t,rfl⟩:=rx
  cases y with
  | non=>cases ry;exact PySem.EqNone.ne_str_none (zba I q (by simp))
  | bl j=>cases ry;exact PySem.EqMixed.ne_str_bool (zba I q (by simp))
  | int j=>obtain⟨t',rfl⟩:=ry;exact PySem.EqMixed.ne_str_int (zba I q (by simp))
  | str j=>obtain⟨t',rfl⟩:=ry;exact ne_str (zba I q (congrArg not zko))
  | _=>exact absurd (show false=true from hs) Bool.false_ne_true
 | byt i=>
  obtain⟨t,rfl⟩:=rx
  cases y with
  | byt j=>obtain⟨t',rfl⟩:=ry;exact PySem.W.ne_bytes (zba I q (congrArg not zkp))
  | _=>exact absurd (show false=true from hs) Bool.false_ne_true
 | _=>cases y <;> exact absurd (show false=true from hs) Bool.false_ne_true
theorem op_lt:OpR X (compareOp .Lt) (rI0 λi j=>.bl (decide (i<j))):=opB0 λ_ _ _ _ _ _ _ q=>lt_int q
theorem zjv:OpR X (compareOp .LtE) (rI0 λi j=>.bl (decide (i≤j))):=opB0 λ_ _ _ _ _ _ _ q=>le_int q
theorem zoD:OpR X (compareOp .Gt) (rI0 λi j=>.bl (decide (j<i))):=opB0 λ_ _ _ _ _ _ _ q=>gt_int q
theorem zoE:OpR X (compareOp .GtE) (rI0 λi j=>.bl (decide (j≤i))):=opB0 λ_ _ _ _ _ _ _ q=>ge_int q
theorem zg8:OpR X (compareOp .Is) (λx y H Q=>y=.non∧Q (.bl (decide (x=.non))) H):=by
 intro pins s σ H x y v u Q I rx ry h
 obtain⟨rfl,q⟩:=h
 cases ry
 refine is_none_gen (zba I q ?_)
 cases x <;> first
  | (cases rx;rfl)
  | (obtain⟨t,rfl⟩:=rx;rfl)
theorem zkq:OpR X (compareOp .IsNot) (λx y H Q=>y=.non∧Q (.bl (!decide (x=.non))) H):=by
 intro pins s σ H x y v u Q I rx ry h
 obtain⟨rfl,q⟩:=h
 cases ry
 refine isnot_none_gen (zba I q ?_)
 cases x <;> first
  | (cases rx;rfl)
  | (obtain⟨t,rfl⟩:=rx;rfl)
theorem OpR.or {f:Value→Value→Sem Value}{r r':R2}(h:OpR X f r) (h':OpR X f r'):OpR X f (λx y H Q=>r x y H Q∨r' x y H Q):=by
 intro pins s σ H x y v u Q I rx ry q
 rcases q with q | q
 ·exact h pins s σ H x y v u Q I rx ry q
 ·exact h' pins s σ H x y v u Q I rx ry q
theorem zau (b:Expr) {op:CmpOp}(h:op≠.In:=by decide) (h2:op≠.NotIn:=by decide):behindInMarks op b=false:=by
 have e1:(op == CmpOp.In)=false:=by cases op <;> first | rfl | exact absurd rfl h
 have e2:(op == CmpOp.NotIn)=false:=by cases op <;> first | rfl | exact absurd rfl h2
 cases b <;> simp[behindInMarks,e1,e2]
theorem zbB {op:CmpOp}{r:R2}(ho:OpR X (compareOp op) r) (ha:PE X a ta) (hb:PE X b tb) (hm:behindInMarks op b=false):PE X (.Compare a [op] [b] pos) (tOp r ta tb):=by
 intro pins s σ H Q I h
 exact wpAny_Compare1 (binT ha hb I h λv u s2 x y H2 I2 rx ry q=>ho pins s2 σ H2 x y v u Q I2 rx ry q) hm
def znu (t:TE):TT:=λσ H Q=>t σ H λx H'=>∃ k,x=.bl k∧Q k H'
theorem zas {op:CmpOp}{r:R2}(ho:OpR X (compareOp op) r) (ha:PE X a ta) (hb:PE X b tb) (hm:behindInMarks op b=false):PT X (.Compare a [op] [b] pos) (znu (tOp r ta tb)):=by
 intro pins s σ H Q I h
 refine wpAny_isTrue_Compare1 (thn (ha pins s σ H _ I h) λv s1 ⟨x,H1,I1,r1,q1⟩=>thn (hb pins s1 σ H1 _ I1 q1) λu s2 ⟨y,H2,I2,r2,q2⟩=>
  thn (ho pins s2 σ H2 x y v u _ I2 r1 r2 q2) λc s3 ⟨z,H3,I3,r3,k,e,q3⟩=>?_) hm
 subst e
 cases r3
 exact wpAny_truthy_bool ⟨H3,I3,q3⟩
def zkr (r r':R2) (ta tb tc:TE):TE:=λσ H Q=>ta σ H λx H1=>tb σ H1 λy H2=>r x y H2 λz H3=>∃ k,z=.bl k∧
 (if k=true then tc σ H3 λw' H4=>r' y w' H4 Q else Q (.bl false) H3)
theorem zlR {op op':CmpOp}{r r':R2}(ho:OpR X (compareOp op) r) (ho':OpR X (compareOp op') r') (ha:PE X a ta) (hb:PE X b tb) (hc:PE X c tc)
  (hm:lastMarks [op,op'] [b,c]=false:=by with_unfolding_all rfl):PE X (.Compare a [op,op'] [b,c] pos) (zkr r r' ta tb tc):=by
 intro pins s σ H Q I h
 refine Compare_chain (thn (ha pins s σ H _ I h) λv s1 ⟨x,H1,I1,r1,q1⟩=>chain_link (thn (hb pins s1 σ H1 _ I1 q1) λu s2 ⟨y,H2,I2,r2,q2⟩=>
  thn (ho pins s2 σ H2 x y v u _ I2 r1 r2 q2) λd s3 ⟨z,H3,I3,r3,k,e,q3⟩=>?_)) hm
 subst e
 cases r3
 refine wpAny_truthy_bool ?_
 cases k with
 | false=>exact ite_ff ⟨.bl false,H3,I3,rfl,q3⟩
 | true=>exact ite_tt (chain_last (thn (hc pins s3 σ H3 _ I3 q3) λw' s4 ⟨z',H4,I4,r4,q4⟩=>ho' pins s4 σ H4 y z' u w' Q I4 r2 r4 q4))
theorem zlS {op op':CmpOp}{r r':R2}(ho:OpR X (compareOp op) r) (ho':OpR X (compareOp op') r') (ha:PE X a ta) (hb:PE X b tb) (hc:PE X c tc)
  (hm:lastMarks [op,op'] [b,c]=false:=by with_unfolding_all rfl):PT X (.Compare a [op,op'] [b,c] pos) (znu (zkr r r' ta tb tc)):=by
 intro pins s σ H Q I h
 refine isTrue_chain (thn (ha pins s σ H _ I h) λv s1 ⟨x,H1,I1,r1,q1⟩=>test_link (thn (hb pins s1 σ H1 _ I1 q1) λu s2 ⟨y,H2,I2,r2,q2⟩=>
  thn (ho pins s2 σ H2 x y v u _ I2 r1 r2 q2) λd s3 ⟨z,H3,I3,r3,k,e,q3⟩=>?_)) hm
 subst e
 cases r3
 refine wpAny_truthy_bool ?_
 cases k with
 | false=>
  obtain⟨k',e',q'⟩:=q3
  cases e'
  exact ite_ff ⟨H3,I3,q'⟩
 | true=>
  refine ite_tt (test_last (thn (hc pins s3 σ H3 _ I3 q3) λw' s4 ⟨z',H4,I4,r4,q4⟩=>thn (ho' pins s4 σ H4 y z' u w' _ I4 r2 r4 q4) λd' s5 ⟨z2,H5,I5,r5,k2,e2,q5⟩=>?_))
  subst e2
  cases r5
  exact wpAny_truthy_bool ⟨H5,I5,q5⟩
def TruV (K:Fg) (x:V) (H:Hp) (k:Bool):Prop:=
 match x with
 | .non=>k=false
 | .bl b=>k=b
 | .int i=>k=(i != 0)
 | .str y=>y.length≤sizeLine∧k=((y.length:Int) != 0)
 | .byt y=>y.size≤sizeLine∧k=((y.size:Int) != 0)
 | .ref p=>(∃ xs,SqL K H p xs∧k=!xs.isEmpty)∨(∃ xs,SqT K H p xs∧k=!xs.isEmpty)∨∃ kvs,H p=some (.dK kvs)∧k=!kvs.isEmpty
 | _=>False
theorem zjw {κ:Type}{kvs:List (κ × V)}{vs:List (κ × Value)}(r:KV kvs vs):(!vs.isEmpty)=!kvs.isEmpty:=by
 cases r <;> rfl
theorem zgd {xs:List V}{its:List Value}(r:Vals xs its):(!its.toArray.isEmpty)=!xs.isEmpty:=by
 cases r <;> simp
theorem zgf:(sizeLine:Nat)<2 ^ 63:=by rw[sizeLine_eq];decide
theorem zoF:TruR X (λx H Q=>∃ k,TruV X.K x H k∧Q k H):=by
 intro pins s σ H x v Q I rx h
 obtain⟨k,e,q⟩:=h
 have hl:=zgf
 have hs:sizeLine=16777216:=sizeLine_eq
 cases x with
 | non=>
  cases rx
  have e':k=false:=e
  subst e'
  exact truthy_none ⟨H,I,q⟩
 | bl b=>
  cases rx
  have e':k=b:=e
  subst e'
  exact wpAny_truthy_bool ⟨H,I,q⟩
 | int i=>
  obtain⟨t,rfl⟩:=rx
  have e':k=(i != 0):=e
  subst e'
  exact PySem.P.truthy_int ⟨H,I,q⟩
 | str y=>
  obtain⟨t,rfl⟩:=rx
  obtain⟨hy,e'⟩:y.length≤sizeLine∧k=((y.length:Int) != 0):=e
  subst e'
  exact PySem.P.truthy_str (by omega) ⟨H,I.tok _,q⟩
 | byt y=>
  obtain⟨t,rfl⟩:=rx
  obtain⟨hy,e'⟩:y.size≤sizeLine∧k=((y.size:Int) != 0):=e
  subst e'
  exact PySem.W.truthy_bytes (by omega) ⟨H,I.tok _,q⟩
 | ref p=>
  cases rx
  have e':(∃ xs,SqL X.K H p xs∧k=!xs.isEmpty)∨(∃ xs,SqT X.K H p xs∧k=!xs.isEmpty)∨∃ kvs,H p=some (.dK kvs)∧k=!kvs.isEmpty:=e
  rcases e' with ⟨xs,hx,e'⟩ | ⟨xs,hx,e'⟩ | ⟨kvs,hx,e'⟩
  ·subst e'
   obtain⟨its,r,pl,hz⟩:=I.list hx
   have hlen:=r.length
   exact wpAny_truthy_list pl.isList (by simp only[zst];omega) ⟨H,I.tok _,by rw[zgd r];exact q⟩
  ·subst e'
   obtain⟨its,r,pl,hz⟩:=I.tuple hx
   have hlen:=r.length
   exact truthy_tuple pl (by simp only[zst];omega) ⟨H,I.tok _,by rw[zgd r];exact q⟩
  ·subst e'
   obtain⟨hz,hS,vs,r,m⟩:kvs.length≤sizeLine∧(p == sysModules)=false∧∃ vs,KV kvs vs∧s.heap.DictOf (zbo X.prog X.w) p vs:=I.hok p _ hx
   have hlen:kvs.length=vs.length:=Paired.length r
   exact wpAny_truthy_dict hS m (by omega) ⟨H,I.tok _,by rw[zjw r];exact q⟩
 | _=>exact (show False from e).elim
theorem zlT (ha:PE X a ta) (he:∀ whole,isTrue a X.env whole=(do let v ←whole;standAt a.pos;holding [v] (truthy v))) :
  PT X a (λσ H Q=>ta σ H λx H'=>∃ k,TruV X.K x H' k∧Q k H'):=by
 intro pins s σ H Q I h
 exact isTrue_plain (thn (ha pins s σ H _ I h) λv s1 ⟨x,H1,I1,r1,q1⟩=>zoF pins s1 σ H1 x v Q I1 r1 q1) (he _)
theorem zgy {x:V}{us:List Value}(r:Vals [x] us):∃ u,us=[u]∧RelV x u:=by
 cases r with
 | cons r1 r2=>cases r2;exact⟨_,rfl,r1⟩
theorem zoG {x y:V}{us:List Value}(r:Vals [x,y] us):∃ u w',us=[u,w']∧RelV x u∧RelV y w':=by
 cases r with
 | cons r1 r2=>
  cases r2 with
  | cons r3 r4=>cases r4;exact⟨_,_,rfl,r1,r3⟩
theorem zks (hc:X.calm=true):zce X (.builtin "max") (λxs H Q=>∃ i j,xs=[.int i,.int j]∧Q (.int (if j>i then j else i)) H):=by
 intro pins s σ H xs us Q I r h
 obtain⟨i,j,rfl,q⟩:=h
 obtain⟨u,w',rfl,⟨t,rfl⟩,⟨t',rfl⟩⟩:=zoG r
 refine max_two_ints (I.ok.hd hc) λh' tk k=>⟨_,H,I.kept k,?_,q⟩
 by_cases hj:j>i
 ·rw[if_pos hj,if_pos hj];exact⟨_,rfl⟩
 ·rw[if_neg hj,if_neg hj];exact⟨_,rfl⟩
theorem zkt:zce X (.type "int") (λxs H Q=>(∃ i,xs=[.int i]∧Q (.int i) H)∨∃ k,xs=[.bl k]∧Q (.int (if k then 1 else 0)) H):=by
 intro pins s σ H xs us Q I r h
 rcases h with ⟨i,rfl,q⟩ | ⟨k,rfl,q⟩
 ·obtain⟨u,rfl,t,rfl⟩:=zgy r
  exact call_int_int ⟨.int i,H,I,⟨_,rfl⟩,q⟩
 ·obtain⟨u,rfl,r1⟩:=zgy r
  cases r1
  exact call_int_bool ⟨.int (if k then 1 else 0),H,I.tok _,⟨_,rfl⟩,q⟩
end
end L2

namespace L2
open PySem PySem.Spec PyProof.Rows

structure ObjM (h:Heap) (x dx C:Addr) (mA:Str→Option Value):Prop where
 obj:h.get? x=some (PySem.W.instObj C dx)
 ns:h.Ns1 dx mA
 ne:dx≠x
theorem zku {h:Heap}{dx:Addr}{mA:Str→Option Value}(n:h.Ns1 dx mA):∃ od,h.get? dx=some od∧∀ name,PySem.W.lookIn name od=some (mA name):=by
 obtain⟨o,es,ep,ho,hd,hk,_,hm⟩:=n
 refine⟨o,ho,λname=>?_⟩
 have e:=hm name
 unfold nsFind findBy at e
 rw[←Array.find?_toList] at e
 unfold PySem.W.lookIn
 rw[hd]
 dsimp only
 split
 ·rename_i y q
  rw[q] at e
  exact congrArg some e
 ·rename_i q
  rw[q] at e
  have a:es.toList.any (·.refKey)=false:=by
   rw[List.any_eq_false]
   intro y hy
   obtain⟨z,t,hkey⟩:=hk y (Array.mem_toList_iff.mp hy)
   simp[DictEntry.refKey,hkey]
  have a':¬ es.toList.any (·.refKey)=true:=by rw[a];exact Bool.false_ne_true
  rw[if_neg a']
  exact congrArg some e
theorem ObjM.look {h:Heap}{x dx C:Addr}{mA:Str→Option Value}(I:ObjM h x dx C mA):∃ od,PySem.W.InstAt h x (PySem.W.instObj C dx) C (some od)∧∀ name,PySem.W.lookIn name od=some (mA name):=
 let ⟨od,ho,hl⟩:=zku I.ns
 ⟨od,⟨I.obj,rfl,rfl,ho⟩,hl⟩
section
variable {prog : Program} {w : World} {A : Around} {E : Value → Shared → Prop} {s : Shared} {K : Fg} {x dx C f : Addr} {mA : Str → Option Value} {name : Str} {v : Value}

theorem znv {expr:Bool}{Q:Value→Shared→Prop}(X:K.In s.heap) (I:ObjM s.heap x dx C mA) (hg:PySem.W.plainGet K C name=true) (hh:PySem.W.hasDictIn K C=true)
  (ha:PySem.W.findIn K (.ref C) name=some none) (hv:mA name=some v) (hv':PySem.W.handedIn v=true) (h:Q v {s with toks:=s.toks+1}) :
  wpAny (model prog w) A (getAttr (.ref x) name expr) Q E s:=by
 obtain⟨od,J,hl⟩:=I.look
 exact PySem.W.get_value X J (PySem.W.plainGet_of hg).1 (PySem.W.findObj_own hh ha rfl (by rw[hl,hv])) hv' h
theorem zlU {pl:Sem Bool}{Q:Value × List Value→Shared→Prop}(X:K.In s.heap) (I:ObjM s.heap x dx C mA) (hg:PySem.W.plainGet K C name=true)
  (hf:PySem.W.findIn K (.ref C) name=some (some (.ref f))) (ht:PySem.W.isFn K (.ref f)=true) (hv:mA name=none) (h:Q (.ref f,[.ref x]) s) :
  wpAny (model prog w) A (getMethod (.ref x) name pl) Q E s:=by
 obtain⟨od,J,hl⟩:=I.look
 exact PySem.W.method_fn X J (PySem.W.plainGet_of hg).1 (PySem.W.plainGet_of hg).2 hf (beq_iff_eq.mp ht) (by show (PySem.W.lookIn name od).map (·.isSome)=some false;rw[hl,hv];rfl) h
theorem znw {ns:List Str}{Q:Unit→Shared→Prop}(X:K.In s.heap) (I:ObjM s.heap x dx C mA)
  (hs:PySem.W.findIn K (.ref C) "__setattr__"=some (some (.builtin "object.__setattr__"))) (hp:PySem.W.plainOver K C=true) (ht:PySem.W.takerIn K C name=some none) (hh:PySem.W.hasDictIn K C=true)
  (hw:PySem.Within mA ns) (hsz:ns.length≤sizeLine)
  (h:∀ h',ObjM h' x dx C (λy=>if y=name then some v else mA y)→Heap.SameBut dx s.heap h'→Q () {s with heap:=h',toks:=s.toks+2}) :
  wpAny (model prog w) A (setAttr (.ref x) name v) Q E s:=by
 obtain⟨od,J,hl⟩:=I.look
 refine PySem.W.set_plain X J hs (PySem.W.osa_open (s:={s with toks:=s.toks+1}) (r:=none) X J hp ht λb=>?_)
 obtain⟨cd,hc,hd'⟩:=PySem.W.any_some hh
 have hx:s.heap.get? x=some ⟨.ref C,some dx,.plain,#[]⟩:=I.obj
 refine wpAny_bind (wpAny_pure (wpAny_bind (wpAny_bind (wpAny_loadPart hx (wpAny_bind (PySem.W.Looks.here (s:={s with toks:=s.toks+1}) (PySem.W.looks_clsIn X hc) ?_))))))
 rw[hd']
 refine wpAny_pure (a:=some dx) (wpAny_bind (wpAny_pure (wpAny_bind ?_)))
 refine wpAny_nsSet1 (s:={s with toks:=s.toks+1}) I.ns λh' hn2 hs2=>?_
 obtain⟨oD,esD,epD,hoD,hdD,hcD⟩:=hn2.count (PySem.Within.cons name v hw)
 refine wpAny_bind (wpAny_lookBehind hoD (by rw[hdD];exact pastItsLine_dict (Nat.le_trans hcD (by rw[List.length_cons];omega))) ?_)
 exact wpAny_pure (h _ ⟨(hs2.2 _ (Ne.symm I.ne)).trans I.obj,hn2,I.ne⟩ hs2)
theorem zlV {R:Result→Shared→Prop}{vs:List Value}{kw:List (Str × Value)}(X:K.In s.heap) (hm:PySem.W.makesIn K C=true)
  (hi:PySem.W.findIn K (.ref C) "__init__"=some (some (.ref f))) (hf:PySem.W.typeIn K (.ref f)=some (.type "function"))
  (h:codeAny (model prog w) (A.under (.builtin "type.__call__" ⟨.ref C::vs,kw⟩)) (.call (.ref f) ⟨.ref (s.heap.objs.size+1)::vs,kw⟩) (PySem.W.InitBack (s.heap.objs.size+1) R)
   {s with heap:=(s.heap.push PySem.W.emptyDict).push (PySem.W.instObj C s.heap.objs.size)}) :
  codeAny (model prog w) A (.call (.ref C) ⟨vs,kw⟩) R s:=by
 obtain⟨hh,g,d,t,os⟩:=s
 exact PySem.W.make_core (PySem.W.makes_of X hm) (PySem.W.looks_findIn X hi) (λself=>PySem.W.bind_fn X self hf) (.inl rfl) h
end

def putF (f:Str) (v:V):List (Str × V)→List (Str × V)
 | []=>[(f,v)]
 | (g,x)::r=>if g=f then (g,v)::r else (g,x)::putF f v r
theorem zaK (f g:Str) (v:V):∀ fs:List (Str × V),(putF f v fs).lookup g=if g=f then some v else fs.lookup g
 | []=>by
  show List.lookup g [(f,v)]=_
  by_cases h:g=f
  ·have hb:(g == f)=true:=beq_iff_eq.mpr h
   simp only[List.lookup,hb,if_pos h]
  ·have hb:(g == f)=false:=beq_eq_false_iff_ne.mpr h
   simp only[List.lookup,hb,if_neg h]
 | (k,x)::r=>by
  have ih:=zaK f g v r
  rw[show putF f v ((k,x)::r)=(if k=f then (k,v)::r else (k,x)::putF f v r) from rfl]
  by_cases hk:k=f
  ·rw[if_pos hk]
   by_cases h:g=k
   ·have hb:(g == k)=true:=beq_iff_eq.mpr h
    simp only[List.lookup,hb,if_pos (h.trans hk)]
   ·have hb:(g == k)=false:=beq_eq_false_iff_ne.mpr h
    simp only[List.lookup,hb,if_neg (λe:g=f=>h (e.trans hk.symm))]
  ·rw[if_neg hk]
   by_cases h:g=k
   ·have hb:(g == k)=true:=beq_iff_eq.mpr h
    simp only[List.lookup,hb,if_neg (λe:g=f=>hk (h.symm.trans e))]
   ·have hb:(g == k)=false:=beq_eq_false_iff_ne.mpr h
    simp only[List.lookup,hb]
    exact ih
theorem ze8 (f:Str) (v:V):∀ fs:List (Str × V),f∈(putF f v fs).map (·.1)∧∀ g,g∈fs.map (·.1)→g∈(putF f v fs).map (·.1)
 | []=>⟨by simp[putF],λg h=>by simp at h⟩
 | (k,x)::r=>by
  obtain⟨i1,i2⟩:=ze8 f v r
  rw[show putF f v ((k,x)::r)=(if k=f then (k,v)::r else (k,x)::putF f v r) from rfl]
  by_cases hk:k=f
  ·rw[if_pos hk]
   subst hk
   exact⟨by simp,λg h=>by simpa using h⟩
  ·rw[if_neg hk]
   refine⟨?_,λg h=>?_⟩
   ·rw[zmc]
    exact List.mem_cons_of_mem _ i1
   ·rw[zmc] at h ⊢
    rcases List.mem_cons.mp h with e | e
    ·exact List.mem_cons.mpr (.inl e)
    ·exact List.mem_cons_of_mem _ (i2 g e)
theorem zdN (f:Str) (v:V):∀ fs:List (Str × V),(putF f v fs).length≤fs.length+1
 | []=>by simp[putF]
 | (k,x)::r=>by
  have ih:=zdN f v r
  rw[show putF f v ((k,x)::r)=(if k=f then (k,v)::r else (k,x)::putF f v r) from rfl]
  by_cases hk:k=f
  ·rw[if_pos hk,List.length_cons,List.length_cons];omega
  ·rw[if_neg hk,List.length_cons,List.length_cons];omega
theorem RelO.some_of {v:V}{o:Option Value}(r:RelO (some v) o):∃ u,o=some u∧RelV v u:=by
 cases o with
 | none=>exact (show False from r).elim
 | some u=>exact⟨u,rfl,r⟩
theorem RelO.none_of {o:Option Value}(r:RelO none o):o=none:=by
 cases o with
 | none=>rfl
 | some u=>exact (show False from r).elim
theorem zkv {v:V}{u:Value}(r:RelV v u):PySem.W.handedIn u=true:=by
 cases v with
 | non=>cases (show u=Value.none from r);rfl
 | bl b=>cases (show u=Value.bool b from r);rfl
 | int i=>obtain⟨t,e⟩:=(show ∃ t,u=Value.int i t from r);cases e;rfl
 | str x=>obtain⟨t,e⟩:=(show ∃ t,u=Value.str x t from r);cases e;rfl
 | byt b=>obtain⟨t,e⟩:=(show ∃ t,u=Value.bytes b t from r);cases e;rfl
 | flt b=>obtain⟨t,e⟩:=(show ∃ t,u=Value.float b t from r);cases e;rfl
 | ref a=>cases (show u=Value.ref a from r);rfl
 | ty n=>cases (show u=Value.type n from r);rfl
section
variable {P : Program} {w : World} {H H' : Hp} {h h' : Heap} {a C dx : Addr} {fs fs' : List (Str × V)}
theorem zgz (hok:HOk P w H h) (e:H a=some (.ins C dx fs)):∃ mA,ObjM h a dx C mA∧(∀ f,RelO (fs.lookup f) (mA f))∧PySem.Within mA (fs.map (·.1))∧fs.length≤1000∧H dx=some (.own a):=by
 obtain⟨d,z,ne,ob,mA,n,r,q⟩:=(show zbA P w H h a (.ins C dx fs) from hok a _ e)
 exact⟨mA,⟨ob,n,ne⟩,r,q,z,d⟩
end

structure Cls (K:Fg) (C:Addr):Prop where
 pg:PySem.W.plainGet K C Str.empty=true
 hd:PySem.W.hasDictIn K C=true
 po:PySem.W.plainOver K C=true
 sa:PySem.W.findIn K (.ref C) "__setattr__"=some (some (.builtin "object.__setattr__"))
theorem Cls.get {K:Fg}{C:Addr}(c:Cls K C) (f:Str):PySem.W.plainGet K C f=true:=c.pg
def zbE (K:Fg) (C:Addr) (f:Str):Prop:=PySem.W.findIn K (.ref C) f=some none
theorem zbE.taker {K:Fg}{C:Addr}{f:Str}(n:zbE K C f):PySem.W.takerIn K C f=some none:=by
 unfold PySem.W.takerIn
 rw[show PySem.W.findIn K (.ref C) f=some none from n]
 rfl
structure Meth (K:Fg) (C:Addr) (m:Str) (f:Addr):Prop where
 at_:PySem.W.findIn K (.ref C) m=some (some (.ref f))
 fn:PySem.W.isFn K (.ref f)=true
 kp:PySem.W.keepIn K (.ref f)=true
section
variable {X : Cx} {pins : List (Addr × Obj)} {σ : St} {H : Hp} {s : Shared} {a C dx : Addr} {fs : List (Str × V)} {f : Str} {v : V} {A : Around} {E : Value → Shared → Prop}

theorem zjx {b:Bool}{Q:Value→Shared→Prop}(I:Inv X pins σ H s) (e:H a=some (.ins C dx fs)) (c:Cls X.K C) (n:zbE X.K C f) (l:fs.lookup f=some v)
  (h:∀ u s',Inv X pins σ H s'→RelV v u→Q u s'):wpAny (model X.prog X.w) A (getAttr (.ref a) f b) Q E s:=by
 obtain⟨mA,O,r,_,_,_⟩:=zgz I.hok e
 obtain⟨u,hu,ru⟩:=RelO.some_of (v:=v) (o:=mA f) (by rw[←l];exact r f)
 exact znv I.kIn O (c.get f) c.hd n hu (zkv ru) (h u _ (I.tok _) ru)
theorem zek {m:Str}{g:Addr}{pl:Sem Bool}{Q:Value × List Value→Shared→Prop}(I:Inv X pins σ H s) (e:H a=some (.ins C dx fs)) (c:Cls X.K C) (k:Meth X.K C m g) (l:fs.lookup m=none)
  (h:Q (.ref g,[.ref a]) s):wpAny (model X.prog X.w) A (getMethod (.ref a) m pl) Q E s:=by
 obtain⟨mA,O,r,_,_,_⟩:=zgz I.hok e
 have hn:mA m=none:=RelO.none_of (by rw[←l];exact r m)
 exact zlU I.kIn O (c.get m) k.at_ k.fn hn h
theorem zjy {y:V}{u:Value}{Q:Unit→Shared→Prop}(I:Inv X pins σ H s) (e:H a=some (.ins C dx fs)) (c:Cls X.K C) (n:zbE X.K C f) (hl:fs.length<1000) (ry:RelV y u)
  (h:∀ s',Inv X pins σ (upd H a (.ins C dx (putF f y fs))) s'→Q () s'):wpAny (model X.prog X.w) A (setAttr (.ref a) f u) Q E s:=by
 obtain⟨mA,O,r,wi,_,ho⟩:=zgz I.hok e
 have hz:(fs.map (·.1)).length≤sizeLine:=by rw[zlm,sizeLine_eq];omega
 refine znw I.kIn O c.sa c.po n.taker c.hd wi hz λh' O' sb=>h _ ?_
 have hd:∃ o,h'.get? dx=some o:=let ⟨o,_,_,e',_⟩:=O'.ns;⟨o,e'⟩
 refine I.write (x:=a) (e:=dx) (by rw[e];exact True.intro) (.inr ho) (λb q hb z=>(sb.2 b hb).trans z) hd ?_
 refine⟨by rw[zak O.ne];exact ho,?_,O.ne,O'.obj,_,O'.ns,λg=>?_,λg hg=>?_⟩
 ·have:=zdN f y fs;omega
 ·show RelO ((putF f y fs).lookup g) (if g=f then some u else mA g)
  rw[zaK]
  by_cases q:g=f
  ·rw[if_pos q,if_pos q];exact ry
  ·rw[if_neg q,if_neg q];exact r g
 ·by_cases q:g=f
  ·rw[q];exact (ze8 f y fs).1
  ·refine (ze8 f y fs).2 g (wi g λz=>hg ?_)
   show (if g=f then some u else mA g)=none
   rw[if_neg q];exact z
theorem Inv.made (I:Inv X pins σ H s):Inv X pins σ (upd (upd H s.heap.objs.size (.own (s.heap.objs.size+1))) (s.heap.objs.size+1) (.ins C s.heap.objs.size []))
  {s with heap:=(s.heap.push PySem.W.emptyDict).push (PySem.W.instObj C s.heap.objs.size)}:=by
 have e1:(s.heap.push PySem.W.emptyDict).get? s.heap.objs.size=some PySem.W.emptyDict:=Heap.get?_push_size s.heap rfl
 have e2:((s.heap.push PySem.W.emptyDict).push (PySem.W.instObj C s.heap.objs.size)).get? (s.heap.objs.size+1)=some (PySem.W.instObj C s.heap.objs.size):=by
  have:=Heap.get?_push_size (s.heap.push PySem.W.emptyDict) (o:=PySem.W.instObj C s.heap.objs.size) rfl
  rwa [Heap.size_push] at this
 have e3:(s.heap.push PySem.W.emptyDict).Ns s.heap.objs.size (λ_=>none):=⟨PySem.W.emptyDict,#[],_,e1,rfl,(λe he=>absurd he (by simp)),λ_=>rfl⟩
 have I1:=I.laid (a:=s.heap.objs.size) (o:=.own (s.heap.objs.size+1)) (h':=s.heap.push PySem.W.emptyDict) (t':=s.toks) (λb u q=>Heap.get?_push_of_some _ q) (Nat.le_refl _) ⟨_,e1⟩
 refine I1.laid (a:=s.heap.objs.size+1) (o:=.ins C s.heap.objs.size []) (t':=s.toks) (λb u q=>Heap.get?_push_of_some _ q) (Nat.le_of_eq (Heap.size_push _ _)) ?_
 have ne:s.heap.objs.size≠s.heap.objs.size+1:=Nat.ne_of_lt (Nat.lt_succ_self _)
 refine⟨by rw[zak ne,zaf],Nat.zero_le _,ne,e2,λ_=>none,(Heap.Ns1.of_empty e3).at λo q=>Heap.get?_push_of_some _ q,λ_=>True.intro,λy hy=>absurd rfl hy⟩
theorem znx {prog:Program}{w:World}{env:Env}{e:Expr}{f:Str}{pos:Pos}{s:Shared}{Q:Value→Shared→Prop}(hb:attributeBase e f env (eval e env)=eval e env)
  (h:wpAny (model prog w) A (eval e env) (λo s₁=>wpAny (model prog w) A (getAttr o f true) Q E s₁) E s):wpAny (model prog w) A (eval (.Attribute e f pos) env) Q E s:=
 Attribute_any_ h (by rw[arm_eval_Attribute,hb])
end

inductive FldI (K:Fg) (f:Str) (x:V) (H:Hp) (Q:VK):Prop
 | mk (a C dx:Addr) (fs:List (Str × V)) (v:V) (e:x=.ref a) (ea:H a=some (.ins C dx fs)) (c:Cls K C) (n:zbE K C f) (l:fs.lookup f=some v) (q:Q v H):FldI K f x H Q
inductive FldS (K:Fg) (f:Str) (y x:V) (H:Hp) (P:Hp→Prop):Prop
 | mk (a C dx:Addr) (fs:List (Str × V)) (e:x=.ref a) (ea:H a=some (.ins C dx fs)) (c:Cls K C) (n:zbE K C f) (l:fs.length<1000) (q:P (upd H a (.ins C dx (putF f y fs)))):FldS K f y x H P
def tFld (K:Fg) (ta:TE) (f:Str):TE:=λσ H Q=>ta σ H λx H1=>FldI K f x H1 Q
def sFld (K:Fg) (ta tv:TE) (f:Str):TS:=λD σ H=>tv σ H λy H1=>ta σ H1 λx H2=>FldS K f y x H2 (D.nx σ)
section
variable {X : Cx} {o e value : Expr} {f : Str} {pos pos' tpos : Pos} {ta tv : TE}
theorem zoH (he:PE X e ta) (hb:attributeBase e f X.env (eval e X.env)=eval e X.env):PE X (.Attribute e f pos) (tFld X.K ta f):=by
 intro pins s σ H Q I h
 refine znx hb (thn (he pins s σ H _ I h) λu s1 ⟨x,H1,I1,rx,a,C,dx,fs,v,ex,ea,c,n,l,q⟩=>?_)
 subst ex
 obtain rfl:u=Value.ref a:=rx
 exact zjx I1 ea c n l λu' s2 I2 ru=>⟨v,H1,I2,ru,q⟩
theorem zbq (ha:PE X o ta) (hv:PE X value tv) (hs:swapsWith value (some (.Attribute o f pos')) pos.line X.env=pure false):PS X (.Assign [.Attribute o f pos'] value pos) (sFld X.K ta tv f):=by
 intro pins s σ H D I h
 refine plainObj_wpAny_Assign_Attribute (thn (hv pins s σ H _ I h) λu s1 ⟨y,H1,I1,ry,q⟩=>thn (ha pins s1 σ H1 _ I1 q) λov s2 ⟨x,H2,I2,rx,a,C,dx,fs,ex,ea,c,n,l,q2⟩=>?_) hs
 subst ex
 obtain rfl:ov=Value.ref a:=rx
 exact zjy I2 ea c n l ry λs3 I3=>⟨σ,_,I3,q2⟩
theorem zny {pl:Sem Bool}{m:Str}{apos:Pos}{args:List Expr}{pins:List (Addr × Obj)}{s:Shared}{σ:St}{H:Hp}{Q:Value→Shared→Prop}{te:TE}(he:PE X e te) (I:Inv X pins σ H s)
  (h:te σ H λx H1=>∃ a C dx fs g,x=.ref a∧H1 a=some (.ins C dx fs)∧Cls X.K C∧Meth X.K C m g∧fs.lookup m=none∧
   ∀ s1,Inv X pins σ H1 s1→wpAny (model X.prog X.w) X.A (callWith pos (.ref g) [.ref a] (backTo pos (starEach args X.env)) (backToKw pos (keywordEach [] X.env))) Q X.xe s1)
  (ht:eval (.Call (.Attribute e m apos) args [] pos) X.env=(do
   let ov ←eval e X.env
   standAt apos.atName
   let (f,first) ←holding [ov] (getMethod ov m pl)
   callWith pos f first (backTo pos (starEach args X.env)) (backToKw pos (keywordEach [] X.env)))) :
  wpAny (model X.prog X.w) X.A (eval (.Call (.Attribute e m apos) args [] pos) X.env) Q X.xe s:=by
 refine PySem.W.methodCall_KW (pl:=pl) (thn (he pins s σ H _ I h) λu s1 ⟨x,H1,I1,rx,a,C,dx,fs,g,ex,ea,c,k,l,q⟩=>?_) ht
 subst ex
 obtain rfl:u=Value.ref a:=rx
 exact zek I1 ea c k l (q s1 I1)
end

section
variable {X : Cx} {pins : List (Addr × Obj)} {σ : St} {H : Hp} {s : Shared} {A : Around} {E : Value → Shared → Prop} {Q : Value → Shared → Prop} {c : Value} {b : Bool}
inductive TyOf (K:Fg) (H:Hp):V→Value→Prop where
 | non:TyOf K H .non (.type "NoneType")
 | bl (x:Bool):TyOf K H (.bl x) (.type "bool")
 | int (i:Int):TyOf K H (.int i) (.type "int")
 | str (x:Str):TyOf K H (.str x) (.type "str")
 | flt (x:UInt64):TyOf K H (.flt x) (.type "float")
 | lst {a:Addr}{xs:List V}(e:H a=some (.lst xs)):TyOf K H (.ref a) (.type "list")
 | frz {a:Addr}{o:Obj}{xs:List V}(e:H a=some (.frz o (.lst xs))):TyOf K H (.ref a) (.type "list")
 | tup {a:Addr}{xs:List V}(e:H a=some (.tup xs)):TyOf K H (.ref a) (.type "tuple")
 | dK {a:Addr}{kvs:List (Key × V)}(e:H a=some (.dK kvs)):TyOf K H (.ref a) (.type "dict")
 | dT {a:Addr}{kvs:List (List Key × V)}(e:H a=some (.dT kvs)):TyOf K H (.ref a) (.type "dict")
 | ins {a C dx:Addr}{fs:List (Str × V)}(e:H a=some (.ins C dx fs)) (cl:Cls K C) (ha:PySem.W.findIn K (.ref C) "__class__"=some (some (.builtin "object.__class__")))
   (hn:PySem.W.specialIn K (.builtin "object.__class__") "__get__"=some (some (.builtin "getset_descriptor.__get__"))) (htk:PySem.W.takesIn K (.builtin "object.__class__")=some true)
   (hm:PySem.W.mroIn K C (.type "object")=some true):TyOf K H (.ref a) (.ref C)
theorem zkw {x:V}{u t:Value}(I:Inv X pins σ H s) (rx:RelV x u) (ty:TyOf X.K H x t) (e:PySem.W.kitOne X.K t c=some b) (h:∀ tk,Q (.bool b) {s with toks:=tk}) :
  wpAny (model X.prog X.w) A (call (.builtin "isinstance") [u,c]) Q E s:=by
 cases ty with
 | non=>cases (show u=Value.none from rx);exact PySem.W.kia_one PySem.W.kitx_none I.kIn True.intro e (λz=>nomatch z) h
 | bl y=>cases (show u=Value.bool y from rx);exact PySem.W.kia_one PySem.W.kitx_bool I.kIn True.intro e (λz=>nomatch z) h
 | int i=>obtain⟨t,q⟩:=(show ∃ t,u=Value.int i t from rx);cases q;exact PySem.W.kia_one PySem.W.kitx_int I.kIn True.intro e (λz=>nomatch z) h
 | str y=>obtain⟨t,q⟩:=(show ∃ t,u=Value.str y t from rx);cases q;exact PySem.W.kia_one PySem.W.kitx_str I.kIn True.intro e (λz=>nomatch z) h
 | flt y=>obtain⟨t,q⟩:=(show ∃ t,u=Value.float y t from rx);cases q;exact PySem.W.kia_one PySem.W.kitx_float I.kIn True.intro e (λz=>nomatch z) h
 | @lst a xs ea=>
  cases (show u=Value.ref a from rx)
  obtain⟨_,_,n,_,h1⟩:=(show zbA X.prog X.w H s.heap a (.lst xs) from I.hok a _ ea)
  exact PySem.W.kia_one PySem.W.kitx_list I.kIn ⟨_,h1,rfl⟩ e (λz=>nomatch z) h
 | @frz a ob xs ea=>
  cases (show u=Value.ref a from rx)
  obtain⟨_,_,_,n,_,h1⟩:=(show zbA X.prog X.w H s.heap a (.frz ob (.lst xs)) from I.hok a _ ea)
  exact PySem.W.kia_one PySem.W.kitx_list I.kIn ⟨_,h1,rfl⟩ e (λz=>nomatch z) h
 | @tup a xs ea=>
  cases (show u=Value.ref a from rx)
  obtain⟨_,_,_,p⟩:=(show zbA X.prog X.w H s.heap a (.tup xs) from I.hok a _ ea)
  obtain⟨o,h1,h2,_⟩:=p
  exact PySem.W.kia_one PySem.W.kitx_tuple I.kIn ⟨o,h1,h2⟩ e (λz=>nomatch z) h
 | @dK a kvs ea=>
  cases (show u=Value.ref a from rx)
  obtain⟨_,_,vs,_,p⟩:=(show zbA X.prog X.w H s.heap a (.dK kvs) from I.hok a _ ea)
  obtain⟨o,es,ep,h1,h2,_⟩:=p
  exact PySem.W.kia_one PySem.W.kitx_dict I.kIn ⟨o,h1,h2.1⟩ e (λz=>nomatch z) h
 | @dT a kvs ea=>
  cases (show u=Value.ref a from rx)
  obtain⟨_,_,xs,_,o,es,ep,h1,h2,_⟩:=(show zbA X.prog X.w H s.heap a (.dT kvs) from I.hok a _ ea)
  exact PySem.W.kia_one PySem.W.kitx_dict I.kIn ⟨o,h1,h2.1⟩ e (λz=>nomatch z) h
 | @ins a C dx fs ea cl ha hn htk hm=>
  cases (show u=Value.ref a from rx)
  obtain⟨mA,O,_⟩:=zgz I.hok ea
  obtain⟨od,J,_⟩:=O.look
  exact PySem.W.kia_one (PySem.W.kitx_own (cl.get _) cl.hd ha hn htk hm) I.kIn J e (λz=>nomatch z) h
end
end L2

namespace L2
open PySem PySem.Spec PyProof.Rows

structure Room (k:Nat) (A:Around):Prop where
 hd:A.handled=none
 dp:A.depth+3 * k+5<recursionLimit
 un:A.units+16 * k+200<cLine
 gd:A.guards=some []
theorem Room.mono {j k:Nat}{A:Around}(r:Room k A) (h:j≤k):Room j A:=⟨r.hd,by have:=r.dp;omega,by have:=r.un;omega,r.gd⟩
theorem Room.deeper {k:Nat}{A:Around}(r:Room (k+1) A) (env:Env):Room k (A.deeper env):=
 ⟨r.hd,by have:=r.dp;show A.depth+1+3 * k+5<_;omega,by have:=r.un;show A.units+3+16 * k+200<_;omega,r.gd⟩
theorem zjz {A:Around}{C:Addr}{us:List Value}{kw:List (Str × Value)} : (A.under (.builtin "type.__call__" ⟨.ref C::us,kw⟩)).depth=A.depth+1:=by
 first | rfl | simp[Around.under,Code.weight,Code.isCreation,Code.isGuard,Code.isCaller,Code.frames,Code.isFrame,guardIds]
theorem zjA {A:Around}{C:Addr}{us:List Value}{kw:List (Str × Value)} : (A.under (.builtin "type.__call__" ⟨.ref C::us,kw⟩)).units=A.units+1:=by
 first | rfl | simp[Around.under,Code.cUnits,Code.frames,Code.isFrame]
theorem zh5 {A:Around}{C:Addr}{us:List Value}{kw:List (Str × Value)}(h:A.guards=some []):(A.under (.builtin "type.__call__" ⟨.ref C::us,kw⟩)).guards=some []:=by
 simp[Around.under,Code.guards,Code.isGuard,guardIds,pushGuards,h]
theorem Room.make {k:Nat}{A:Around}(r:Room (k+1) A) (C:Addr) (us:List Value) (kw:List (Str × Value)):Room k (A.under (.builtin "type.__call__" ⟨.ref C::us,kw⟩)):=
 ⟨r.hd,by have:=r.dp;rw[zjz];omega,by have:=r.un;rw[zjA];omega,zh5 r.gd⟩
theorem Room.depth {k:Nat}{A:Around}(r:Room k A):A.depth<recursionLimit:=by have:=r.dp;omega
theorem Room.units {k:Nat}{A:Around}(r:Room k A):A.units+64<cLine:=by have:=r.un;omega
def tNil:TA:=λ_ H Q=>Q [] H
def zcR (ta:TE) (tr:TA):TA:=λσ H Q=>ta σ H λx H1=>tr σ H1 λxs H2=>Q (x::xs) H2
section
variable {X : Cx} {e : Expr} {es : List Expr} {te : TE} {t : TA} {pos : Pos}
theorem zad:PA X [] tNil:=λ_ _ _ _ H Q I h=>Calls.spliced_nil ⟨[],H,I,.nil,h⟩
theorem zbe (ha:PE X e te) (hr:PA X es t) (hs:starEach (e::es) X.env=(false,eval e X.env)::starEach es X.env:=by rfl):PA X (e::es) (zcR te t):=by
 intro pos pins s σ H Q I h
 rw[hs]
 show wpAny _ _ (spliced ((false,eval e X.env)::backTo pos (starEach es X.env))) _ _ s
 refine Calls.spliced_cons (thn (ha pins s σ H _ I h) λu s1 ⟨x,H1,I1,r1,q1⟩=>?_)
 exact thn (hr pos pins s1 σ H1 _ I1 q1) λus s2 ⟨xs,H2,I2,r2,q2⟩=>⟨x::xs,H2,I2,.cons r1 r2,q2⟩
def tTup (t:TA):TE:=λσ H Q=>t σ H λxs H1=>xs.length≤sizeLine∧∀ p,H1 p=none→Q (.ref p) (upd H1 p (.tup xs))
def tLst (t:TA):TE:=λσ H Q=>t σ H λxs H1=>xs.length≤sizeLine∧∀ p,H1 p=none→Q (.ref p) (upd H1 p (.lst xs))
theorem zaL {x1}(h:PA X es t):PE X (.Tuple es x1 pos) (tTup t):=by
 intro pins s σ H Q I hq
 refine wpAny_Tuple_spliced (thn (h pos pins s σ H _ I hq) λus s1 ⟨xs,H1,I1,r,z,q⟩=>⟨by rw[←r.length];exact z,?_⟩)
 have hf:H1 s1.heap.objs.size=none:=I1.hok.fresh (Nat.le_refl _)
 refine⟨.ref s1.heap.objs.size,upd H1 s1.heap.objs.size (.tup xs),I1.laid (t':=s1.toks) (λb u e=>Heap.get?_push_of_some _ e) (Nat.le_refl _) ?_,rfl,q _ hf⟩
 exact⟨z,us,r,⟨_,Heap.get?_push_size _ rfl,rfl,_,rfl⟩⟩
theorem za6 (h:PA X es t):PE X (.List es pos) (tLst t):=by
 intro pins s σ H Q I hq
 refine wpAny_List_spliced (thn (h pos pins s σ H _ I hq) λus s1 ⟨xs,H1,I1,r,z,q⟩=>⟨by rw[←r.length];exact z,?_⟩)
 have hf:H1 s1.heap.objs.size=none:=I1.hok.fresh (Nat.le_refl _)
 refine⟨.ref s1.heap.objs.size,upd H1 s1.heap.objs.size (.lst xs),I1.laid (t':=s1.toks) (λb u e=>Heap.get?_push_of_some _ e) (Nat.le_refl _) ?_,rfl,q _ hf⟩
 exact⟨z,us,0,r,Heap.get?_push_size _ rfl⟩
end

abbrev Sp:=List V→Hp→VK→XK→Prop
abbrev CXT:=List Env→Hp→Shared→XK→Value→Shared→Prop
structure Env0 (P:Program) (w:World) (K:Fg) (mg:Str→Option Value) (base:Heap) (A:Around) (outer:List Env) (s:Shared) (H:Hp):Prop where
 frames:A.frames=some outer
 mod:Mod K mg base
 bs:∀ b o,base.get? b=some o→s.heap.get? b=some o∧H b=none
 bsz:base.objs.size≤s.heap.objs.size
 funs:s.heap.FunFrames base outer
 frf:∀ b∈frs outer,H b=none
 hok:HOk P w H s.heap
 bare:AllBare s.gens
def CE (outer:List Env) (P:Program) (w:World) (H:Hp) (s:Shared) (Q:VK) (u:Value) (s':Shared):Prop:=
 ∃ v H',s'.os=s.os∧AllBare s'.gens∧Un (frs outer) [] H H' s.heap s'.heap∧HOk P w H' s'.heap∧RelV v u∧Q v H'
def CR (CX:CXT) (outer:List Env) (P:Program) (w:World) (H:Hp) (s:Shared) (Q:VK) (E:XK) (r:Result) (s':Shared):Prop:=
 match r with
 | .ok (.ret u)=>CE outer P w H s Q u s'
 | .ok _=>False
 | .error e=>CX outer H s E e s'
structure FnOk (P:Program) (w:World) (K:Fg) (mg:Str→Option Value) (base:Heap) (CX:CXT) (k:Nat) (f:Addr) (fd:FuncData) (ps:List Str) (sp:Sp):Prop where
 len:∀ vs H Q E,sp vs H Q E→vs.length=ps.length
 run:∀ (A:Around) (outer:List Env) (s:Shared) (H:Hp) (args:Args) (us:List Value) (vs:List V) (Q:VK) (E:XK),Room k A→Env0 P w K mg base A outer s H→BindsTo s fd args (ps.zip us)→Vals vs us→sp vs H Q E→
  codeAny (model P w) A (.call (.ref f) args) (CR CX outer P w H s Q E) s
theorem FnOk.mono {P:Program}{w:World}{K:Fg}{mg:Str→Option Value}{base:Heap}{CX:CXT}{j k:Nat}{f:Addr}{fd:FuncData}{ps:List Str}{sp:Sp}(F:FnOk P w K mg base CX j f fd ps sp) (h:j≤k) :
  FnOk P w K mg base CX k f fd ps sp:=⟨F.len,λA outer s H args us vs Q E hr=>F.run A outer s H args us vs Q E (hr.mono h)⟩
theorem Env0.make {P:Program}{w:World}{K:Fg}{mg:Str→Option Value}{base:Heap}{A:Around}{outer:List Env}{s:Shared}{H:Hp}(e:Env0 P w K mg base A outer s H) (C:Addr) (us:List Value) (kw:List (Str × Value)) :
  Env0 P w K mg base (A.under (.builtin "type.__call__" ⟨.ref C::us,kw⟩)) outer s H:=⟨by first | exact e.frames | (simpa [Around.under,Code.envs,Code.isFrame,pushEnvs] using e.frames),e.mod,e.bs,e.bsz,e.funs,e.frf,e.hok,e.bare⟩
section
variable {X : Cx} {pins : List (Addr × Obj)} {σ : St} {H : Hp} {s s' : Shared}
theorem Inv.env0 (I:Inv X pins σ H s):Env0 X.prog X.w X.K X.mg X.base X.A X.stack s H:=
 ⟨I.ok.frames,I.ok.mod,I.bs,Nat.le_trans I.ok.bsz I.sz,I.stack,I.stkFree,I.hok,I.bare⟩
theorem Inv.after {Q:VK}{u:Value}(I:Inv X pins σ H s) (h:CE X.stack X.prog X.w H s Q u s'):EP X pins σ Q u s':=by
 obtain⟨v,H',os,bare,un,hok,r,q⟩:=h
 obtain⟨hh,g,d,t,os'⟩:=s'
 obtain rfl:os'=s.os:=os
 exact⟨v,H',I.call (h':=hh) (g':=g) (d':=d) (t':=t) (ch:=[]) un hok bare (λb z=>absurd z (by simp)),r,q⟩
end

def zlW (sp:Sp) (dvs:List V) (E:XK) (t:TA):TE:=λσ H Q=>t σ H λvs H1=>sp (vs++dvs) H1 Q E
inductive MethI (C:Addr) (m:Str) (x:V) (H:Hp) (P:Prop):Prop
 | mk (a dx:Addr) (fs:List (Str × V)) (e:x=.ref a) (ea:H a=some (.ins C dx fs)) (l:fs.lookup m=none) (q:P):MethI C m x H P
def zjB (C:Addr) (m:Str) (sp:Sp) (dvs:List V) (E:XK) (ta:TE) (t:TA):TE:=λσ H Q=>ta σ H λx H1=>MethI C m x H1 (t σ H1 λvs H2=>sp (x::(vs++dvs)) H2 Q E)
def zh6 (C:Addr) (sp:Sp) (dvs:List V) (E:XK) (t:TA):TE:=λσ H Q=>t σ H λvs H1=>∀ x dx,H1 x=none→H1 dx=none→dx≠x→
 sp (.ref x::(vs++dvs)) (upd (upd H1 dx (.own x)) x (.ins C dx [])) (λv H2=>v=.non∧Q (.ref x) H2) E
def zdO (K:Fg) (fd:FuncData) (ps:List Str) (ds:List Value):Prop:=
 ∀ (s:Shared) (us:List Value),K.In s.heap→(us++ds).length=ps.length→BindsTo s fd ⟨us,[]⟩ (ps.zip (us++ds))
theorem zdO.all {K:Fg}{fd:FuncData}{ps:List Str}(h:∀ us:List Value,us.length=ps.length→bindArgs fd ⟨us,[]⟩=pure (ps.zip us)):zdO K fd ps []:=λs us _ hl=>by
 rw[List.append_nil] at hl ⊢
 exact .of_eq (h us hl)
def zcf (CX:CXT) (X:Cx) (E:XK):Prop:=∀ (pins:List (Addr × Obj)) (σ:St) (H:Hp) (s:Shared) (e:Value) (s':Shared),Inv X pins σ H s→CX X.stack H s E e s'→X.xe e s'
section
variable {X : Cx} {CX : CXT} {k : Nat} {f C : Addr} {fd : FuncData} {ps : List Str} {sp : Sp} {dvs : List V} {ds : List Value} {E : XK} {x m : Str} {p pos apos : Pos} {e o : Expr} {es : List Expr} {ta : TE} {t : TA}

theorem zkx {pins:List (Addr × Obj)}{σ:St}{H:Hp}{s:Shared}{Q:VK}{us:List Value}{vs:List V}(F:FnOk X.prog X.w X.K X.mg X.base CX k f fd ps sp) (hr:Room k X.A) (hb:zdO X.K fd ps ds) (hd:Vals dvs ds) (hx:zcf CX X E)
  (I:Inv X pins σ H s) (r:Vals vs us) (h:sp (vs++dvs) H Q E):wpAny (model X.prog X.w) X.A (call (.ref f) us) (EP X pins σ Q) X.xe s:=by
 have r2:Vals (vs++dvs) (us++ds):=r.append hd
 have hl:(us++ds).length=ps.length:=by rw[←r2.length];exact F.len _ _ _ _ h
 refine wpAny_call (codeAny_mono (F.run X.A X.stack s H ⟨us,[]⟩ (us++ds) (vs++dvs) Q E hr I.env0 (hb s us I.kIn hl) r2 h) λr s' hq=>?_)
 cases r with
 | error e=>exact hx pins σ H s e s' I hq
 | ok fl=>
  cases fl with
  | ret u=>exact I.after hq
  | next=>exact False.elim hq
  | brk=>exact False.elim hq
  | cont=>exact False.elim hq
theorem zky (F:FnOk X.prog X.w X.K X.mg X.base CX k f fd ps sp) (hr:Room k X.A) (hg:Gl X x) (hm:X.mg x=some (.ref f)) (hk:PySem.W.keepIn X.K (.ref f)=true) (hb:zdO X.K fd ps ds) (hd:Vals dvs ds) (hx:zcf CX X E)
  (ha:PA X (e::es) t) (hdb:(x == ("__debug__" : Str))=false:=by decide) (he:starEach (e::es) X.env=(false,eval e X.env)::starEach es X.env:=by rfl) (hpl:(backTo pos (starEach es X.env)).any (·.1)=false:=by rfl) :
  PE X (.Call (.Name x p) (e::es) [] pos) (zlW sp dvs E t):=by
 intro pins s σ H Q I h
 refine wpAny_Call_Name_kw (ze7 I hg hm ?_ hdb)
 refine PySem.W.callWith_K (h₀:=X.base) I.ok.mod.kin hk (thn (ha pos pins s σ H _ I h) λus s1 ⟨vs,H1,I1,r,q⟩=>⟨I1.kIn,?_⟩) he hpl
 exact zkx F hr hb hd hx I1 r q
theorem znz {pl:Sem Bool}(he:PE X o ta) (c:Cls X.K C) (hm:Meth X.K C m f) (F:FnOk X.prog X.w X.K X.mg X.base CX k f fd ps sp) (hr:Room k X.A) (hb:zdO X.K fd ps ds) (hd:Vals dvs ds) (hx:zcf CX X E) (ha:PA X (e::es) t)
  (hst:starEach (e::es) X.env=(false,eval e X.env)::starEach es X.env:=by rfl) (hpl:(backTo pos (starEach es X.env)).any (·.1)=false:=by rfl)
  (ht:eval (.Call (.Attribute o m apos) (e::es) [] pos) X.env=(do
   let ov ←eval o X.env
   standAt apos.atName
   let (f,first) ←holding [ov] (getMethod ov m pl)
   callWith pos f first (backTo pos (starEach (e::es) X.env)) (backToKw pos (keywordEach [] X.env))):=by rfl) :
  PE X (.Call (.Attribute o m apos) (e::es) [] pos) (zjB C m sp dvs E ta t):=by
 intro pins s σ H Q I h
 refine PySem.W.methodCall_KW (pl:=pl) (thn (he pins s σ H _ I h) λu s1 ⟨x,H1,I1,rx,a,dx,fs,ex,ea,l,q⟩=>?_) ht
 subst ex
 obtain rfl:u=Value.ref a:=rx
 refine zek I1 ea c hm l ?_
 refine PySem.W.callWith_K (first:=[.ref a]) (h₀:=X.base) I.ok.mod.kin hm.kp (thn (ha pos pins s1 σ H1 _ I1 q) λus s2 ⟨vs,H2,I2,r,q2⟩=>⟨I2.kIn,?_⟩) hst hpl
 exact zkx (us:=.ref a::us) (vs:=.ref a::vs) F hr hb hd hx I2 (.cons rfl r) q2
theorem zlX {pl:Sem Bool}(he:PE X o ta) (c:Cls X.K C) (hm:Meth X.K C m f) (F:FnOk X.prog X.w X.K X.mg X.base CX k f fd ps sp) (hr:Room k X.A) (hb:zdO X.K fd ps ds) (hd:Vals dvs ds) (hx:zcf CX X E)
  (ht:eval (.Call (.Attribute o m apos) [] [] pos) X.env=(do
   let ov ←eval o X.env
   standAt apos.atName
   let (f,first) ←holding [ov] (getMethod ov m pl)
   callWith pos f first (backTo pos (starEach [] X.env)) (backToKw pos (keywordEach [] X.env))):=by rfl) :
  PE X (.Call (.Attribute o m apos) [] [] pos) (zjB C m sp dvs E ta tNil):=by
 intro pins s σ H Q I h
 refine PySem.W.methodCall_KW (pl:=pl) (thn (he pins s σ H _ I h) λu s1 ⟨x,H1,I1,rx,a,dx,fs,ex,ea,l,q⟩=>?_) ht
 subst ex
 obtain rfl:u=Value.ref a:=rx
 refine zek I1 ea c hm l ?_
 exact PySem.W.callWith_K0 (first:=[.ref a]) I1.kIn hm.kp (zkx (us:=[.ref a]) (vs:=[.ref a]) F hr hb hd hx I1 (.cons rfl .nil) q)
structure Mk (K:Fg) (C f:Addr):Prop where
 makes:PySem.W.makesIn K C=true
 init:PySem.W.findIn K (.ref C) "__init__"=some (some (.ref f))
 fn:PySem.W.isFn K (.ref f)=true
 kp:PySem.W.keepIn K (.ref C)=true
theorem ziV {pins:List (Addr × Obj)}{σ:St}{H:Hp}{s:Shared}{Q:VK}{us:List Value}{vs:List V}(M:Mk X.K C f) (F:FnOk X.prog X.w X.K X.mg X.base CX k f fd ps sp) (hr:Room (k+1) X.A) (hb:zdO X.K fd ps ds) (hd:Vals dvs ds)
  (hx:zcf CX X E) (I:Inv X pins σ H s) (r:Vals vs us)
  (h:∀ x dx,H x=none→H dx=none→dx≠x→sp (.ref x::(vs++dvs)) (upd (upd H dx (.own x)) x (.ins C dx [])) (λv H2=>v=.non∧Q (.ref x) H2) E) :
  wpAny (model X.prog X.w) X.A (call (.ref C) us) (EP X pins σ Q) X.xe s:=by
 have hq:=h (s.heap.objs.size+1) s.heap.objs.size (I.hok.fresh (Nat.le_succ _)) (I.hok.fresh (Nat.le_refl _)) (Nat.ne_of_lt (Nat.lt_succ_self _))
 have I2:=Inv.made (C:=C) I
 have r2:Vals (V.ref (s.heap.objs.size+1)::(vs++dvs)) (Value.ref (s.heap.objs.size+1)::(us++ds)):=.cons rfl (r.append hd)
 have hl:(Value.ref (s.heap.objs.size+1)::us++ds).length=ps.length:=by
  have e:=r2.length
  rw[F.len _ _ _ _ hq] at e
  exact e.symm
 refine wpAny_call (zlV (f:=f) I.kIn M.makes M.init (beq_iff_eq.mp M.fn) (codeAny_mono (F.run _ X.stack _ _ ⟨Value.ref (s.heap.objs.size+1)::us,[]⟩ (Value.ref (s.heap.objs.size+1)::(us++ds)) _ _ E (hr.make C us [])
  (I2.env0.make C us []) (hb _ (Value.ref (s.heap.objs.size+1)::us) I2.kIn hl) r2 hq) λr s' hq'=>?_))
 cases r with
 | error e=>exact hx pins σ _ _ e s' I2 hq'
 | ok fl=>
  cases fl with
  | ret u=>
   obtain⟨v,H',I3,rv,ev,q3⟩:=I2.after hq'
   subst ev
   exact⟨rv,⟨V.ref (s.heap.objs.size+1),H',I3,rfl,q3⟩⟩
  | next=>exact False.elim hq'
  | brk=>exact False.elim hq'
  | cont=>exact False.elim hq'
theorem zkz (M:Mk X.K C f) (F:FnOk X.prog X.w X.K X.mg X.base CX k f fd ps sp) (hr:Room (k+1) X.A) (hg:Gl X x) (hm:X.mg x=some (.ref C)) (hb:zdO X.K fd ps ds) (hd:Vals dvs ds) (hx:zcf CX X E)
  (ha:PA X (e::es) t) (hdb:(x == ("__debug__" : Str))=false:=by decide) (he:starEach (e::es) X.env=(false,eval e X.env)::starEach es X.env:=by rfl) (hpl:(backTo pos (starEach es X.env)).any (·.1)=false:=by rfl) :
  PE X (.Call (.Name x p) (e::es) [] pos) (zh6 C sp dvs E t):=by
 intro pins s σ H Q I h
 refine wpAny_Call_Name_kw (ze7 I hg hm ?_ hdb)
 refine PySem.W.callWith_K (h₀:=X.base) I.ok.mod.kin M.kp (thn (ha pos pins s σ H _ I h) λus s1 ⟨vs,H1,I1,r,q⟩=>⟨I1.kIn,?_⟩) he hpl
 exact ziV M F hr hb hd hx I1 r q
theorem zlY (M:Mk X.K C f) (F:FnOk X.prog X.w X.K X.mg X.base CX k f fd ps sp) (hr:Room (k+1) X.A) (hg:Gl X x) (hm:X.mg x=some (.ref C)) (hb:zdO X.K fd ps ds) (hd:Vals dvs ds) (hx:zcf CX X E)
  (hdb:(x == ("__debug__" : Str))=false:=by decide):PE X (.Call (.Name x p) [] [] pos) (zh6 C sp dvs E tNil):=by
 intro pins s σ H Q I h
 refine wpAny_Call_Name_kw (ze7 I hg hm ?_ hdb)
 exact PySem.W.callWith_K0 I.kIn M.kp (ziV (us:=[]) M F hr hb hd hx I .nil h)
end

section
variable {X : Cx} {CX : CXT} {k : Nat} {f C : Addr} {fd : FuncData} {ps ks : List Str} {sp : Sp} {E : XK} {x m : Str} {p pos apos kpos : Pos} {e o : Expr} {es : List Expr} {kws : List Keyword} {te ta : TE} {t tk : TA} {nm : Option Str}
variable {g : List Value → List Value → List Value} {gV : List V → List V → List V}
end

structure FnScope (N P:List Str) (sc:Scope):Prop where
 kind:sc.kind=.function
 co:sc.isCoroutine=false
 gen:sc.isGenerator=false
 nd:N.Nodup
 pre:N.take P.length=P
 par:∀ x∈P,sc.names.lookup x=some .local∨sc.names.lookup x=some .cell
 nofree:∀ y∈sc.names,y.2≠.free
theorem zg9 {kindOf:Str→Option NameKind}{x:Str} : ∀ {binds:List (Str × Value)}{m:Str→Option Value},(∀ v,(x,v)∉binds)→bindL kindOf binds m x=m x
 | [],_,_=>rfl
 | (n,v)::r,m,h=>by
  unfold bindL
  rw[zg9 λw hw=>h w (List.mem_cons_of_mem _ hw)]
  split
  ·have:x≠n:=by rintro rfl;exact h v List.mem_cons_self
   simp[this]
  ·rfl
theorem zha {kindOf:Str→Option NameKind}{x:Str} : ∀ {binds:List (Str × Value)}{m:Str→Option Value},(∀ v,(x,v)∉binds)→bindC kindOf binds m x=m x
 | [],_,_=>rfl
 | (n,v)::r,m,h=>by
  unfold bindC
  rw[zha λw hw=>h w (List.mem_cons_of_mem _ hw)]
  split
  ·rfl
  ·have:x≠n:=by rintro rfl;exact h v List.mem_cons_self
   simp[this]
theorem zhb {kindOf:Str→Option NameKind}{x:Str}{v:Value} : ∀ {P:List Str}{vs:List Value}{i:Nat}{m:Str→Option Value},P.Nodup→P[i]?=some x→vs[i]?=some v→kindOf x=some .local→
  bindL kindOf (P.zip vs) m x=some v
 | [],_,_,_,_,h,_,_=>by simp at h
 | _::_,[],_,_,_,_,h,_=>by simp at h
 | p::P,w::vs,0,m,nd,h1,h2,hk=>by
  simp at h1 h2;subst h1;subst h2
  show bindL kindOf ((p,w)::P.zip vs) m p=_
  unfold bindL
  rw[zg9 λv hv=>(List.nodup_cons.mp nd).1 (List.of_mem_zip hv).1,if_pos hk]
  simp
 | p::P,w::vs,i+1,m,nd,h1,h2,hk=>by
  show bindL kindOf ((p,w)::P.zip vs) m x=_
  unfold bindL
  exact zhb (i:=i) (List.nodup_cons.mp nd).2 (by simpa using h1) (by simpa using h2) hk
theorem zhc {kindOf:Str→Option NameKind}{x:Str}{v:Value} : ∀ {P:List Str}{vs:List Value}{i:Nat}{m:Str→Option Value},P.Nodup→P[i]?=some x→vs[i]?=some v→kindOf x≠some .local→
  bindC kindOf (P.zip vs) m x=some v
 | [],_,_,_,_,h,_,_=>by simp at h
 | _::_,[],_,_,_,_,h,_=>by simp at h
 | p::P,w::vs,0,m,nd,h1,h2,hk=>by
  simp at h1 h2;subst h1;subst h2
  show bindC kindOf ((p,w)::P.zip vs) m p=_
  unfold bindC
  rw[zha λv hv=>(List.nodup_cons.mp nd).1 (List.of_mem_zip hv).1,if_neg hk]
  simp
 | p::P,w::vs,i+1,m,nd,h1,h2,hk=>by
  show bindC kindOf ((p,w)::P.zip vs) m x=_
  unfold bindC
  exact zhc (i:=i) (List.nodup_cons.mp nd).2 (by simpa using h1) (by simpa using h2) hk
def start (N:List Str) (vs:List V):St:=vs.map some++List.replicate (N.length - vs.length) none
def cxOf (CX:CXT) (P:Program) (w:World) (K:Fg) (mg:Str→Option Value) (base:Heap) (N:List Str) (qual:Str) (scope:Scope) (f:Addr) (cd:Value) (A:Around) (outer:List Env) (s:Shared) (H:Hp) (E:XK):Cx where
 prog:=P
 w:=w
 K:=K
 mg:=mg
 base:=base
 A:=A.deeper (envOfC qual scope s.heap.objs.size f cd)
 N:=N
 s₀:=s
 H₀:=H
 env:=envOfC qual scope s.heap.objs.size f cd
 outer:=outer
 stack:=envOfC qual scope s.heap.objs.size f cd::outer
 ex:=[]
 calm:=true
 fn:=λ_=>true
 pn:=[]
 xe:=λe s'=>wpAny (model P w) (A.deeper (envOfC qual scope s.heap.objs.size f cd)) (leaving (envOfC qual scope s.heap.objs.size f cd) e) (λ_ s''=>CX outer H s E e s'') (λe' s''=>CX outer H s E e' s'') s'
theorem ziW {sc:Scope}{n:Nat}{x:Str}(h:sc.names.lookup x=some .cell):∃ c,(cellsFrom n sc.names []).lookup x=some c:=by
 have q:=PySem.W.cellsFrom_some sc.names n [] (.inl h)
 exact Option.isSome_iff_exists.mp q
theorem zkA {CX:CXT}{P:Program}{w:World}{K:Fg}{mg:Str→Option Value}{base:Heap}{N ps:List Str}{qual:Str}{scope:Scope}{f:Addr}{cd:Value}{A:Around}{outer:List Env}{s s1:Shared}{H:Hp}{E:XK}{us:List Value}{vs:List V}
  (S:FnScope N ps scope) (hd:A.handled=none) (e0:Env0 P w K mg base A outer s H) (hl:vs.length=ps.length) (r:Vals vs us)
  (x:InCallC s s.heap.objs.size (bindL (envOfC qual scope s.heap.objs.size f cd).kindOf (ps.zip us) λ_=>none) (cellsFrom (s.heap.objs.size+1) scope.names []) (bindC (envOfC qual scope s.heap.objs.size f cd).kindOf (ps.zip us) λ_=>none) s1) :
  Inv (cxOf CX P w K mg base N qual scope f cd A outer s H E) [] (start N vs) H s1:=by
 have hpl:ps.length≤N.length:=by have:=congrArg List.length S.pre;rw[List.length_take] at this;omega
 obtain⟨h1,tk,rfl,hk⟩:=x.done
 have noA:∀ b:Addr,b∉(cxOf CX P w K mg base N qual scope f cd A outer s H E).ex:=λb z=>absurd (show b∈([]:List Addr) from z) (by simp)
 refine⟨⟨e0.mod,S.kind,rfl,rfl,Nat.le_refl _,λy z c h1 h2=>?_,λy hy=>?_,λy c _ h=>?_,λ_=>hd,Around.frames_deeper e0.frames,.inr ⟨rfl,rfl⟩,λb z=>absurd z (noA b),e0.bs,e0.bsz,λb _ _=>noA b,λb z=>absurd z (noA b),e0.funs,e0.frf⟩,
  rfl,e0.bare,Un.kept hk,⟨_,x.toInCall.ns,λi y v h1 h2 h3=>?_⟩,λy c h=>⟨_,x.cell y c h⟩,e0.hok.fresh (Nat.le_refl _),λy c h=>?_,λp hp=>absurd (show p∈([]:List (Addr × Obj)) from hp) (by simp),e0.hok.kept hk,?_⟩
 ·exact name_of_addr x.apart (PySem.mem_of_lookup h1) (PySem.mem_of_lookup h2)
 ·have hy:scope.names.lookup y=some .cell∨scope.names.lookup y=some .free:=hy
  rcases hy with hy | hy
  ·exact ziW hy
  ·exact absurd rfl (S.nofree _ (PySem.mem_of_lookup hy))
 ·exact Nat.le_of_lt (x.above y c (PySem.mem_of_lookup h))
 ·have hi:i<vs.length:=by
   unfold start at h2
   by_cases hi:i<vs.length
   ·exact hi
   ·rw[List.getElem?_append_right (by simpa using hi)] at h2
    rw[List.getElem?_replicate] at h2
    split at h2 <;> cases h2
  have ha:vs[i]?=some v:=by
   unfold start at h2
   rw[List.getElem?_append_left (by simpa using hi),zgm] at h2
   cases e:vs[i]? with
   | none=>rw[e] at h2;cases h2
   | some a=>rw[e] at h2;cases h2;rfl
  obtain⟨u,hu,rv⟩:=r.get ha
  have hp:ps[i]?=some y:=by
   rw[←S.pre,List.getElem?_take_of_lt (by omega)];exact h1
  have ndP:ps.Nodup:=by rw[←S.pre];exact S.nd.sublist (List.take_sublist _ _)
  refine⟨u,rv,?_⟩
  rcases S.par y (zmg hp) with k | k
  ·exact .inl ⟨k,zhb ndP hp hu k⟩
  ·obtain⟨c,e⟩:=ziW (n:=s.heap.objs.size+1) k
   refine .inr ⟨.inl k,c,e,?_⟩
   have q:=x.cell y c e
   rw[zhc ndP hp hu (by show scope.names.lookup y≠_;rw[k];decide)] at q
   exact q
 ·exact e0.hok.fresh (Nat.le_of_lt (x.above y c (PySem.mem_of_lookup h)))
 ·unfold start
  show _=N.length
  rw[List.length_append,zlm,List.length_replicate]
  omega
theorem zoI {CX:CXT}{P:Program}{w:World}{K:Fg}{mg:Str→Option Value}{base:Heap}{k:Nat}{f:Addr}{name qual:Str}{params:Arguments}{body:List Stmt}{scope:Scope}{dV kV doc pm cdv ct oc:Value}{an od:Option Addr}
  {osl:Array (Option Value)}{N ps:List Str}{sp:Sp}(lk:K.lookup f=some ⟨oc,od,.func (PySem.W.fnOf name qual params body scope dV kV doc pm an cdv ct),osl⟩) (hcd:PySem.W.codeIn K cdv qual=true) (S:FnScope N ps scope)
  (len:∀ vs H Q E,sp vs H Q E→vs.length=ps.length)
  (hbody:∀ (A:Around) (outer:List Env) (s:Shared) (H:Hp) (vs:List V) (Q:VK) (E:XK),Room k (A.deeper (envOfC qual scope s.heap.objs.size f cdv))→sp vs H Q E→
   ∃ t,PSs (cxOf CX P w K mg base N qual scope f cdv A outer s H E) body t∧t {nx:=λ_ H'=>Q .non H',rt:=Q} (start N vs) H) :
  FnOk P w K mg base CX (k+1) f (PySem.W.fnOf name qual params body scope dV kV doc pm an cdv ct) ps sp:=by
 refine⟨len,λA outer s H args us vs Q E hr e0 hb r hsp=>?_⟩
 have hl:=len _ _ _ _ hsp
 have KX:K.In s.heap:=e0.mod.kin.keeps λb o e=>(e0.bs b o e).1
 have lim:s.heap.NoLimit:=e0.mod.nolimit.keeps λb o e=>(e0.bs b o e).1
 have hkind:∀ y∈ps.zip us,scope.names.lookup y.1=some .local∨(scope.names.lookup y.1=some .cell∧((cellsFrom (s.heap.objs.size+1) scope.names []).lookup y.1).isSome=true):=λ⟨n,v⟩ hy=>by
  rcases S.par n (List.of_mem_zip hy).1 with q | q
  ·exact .inl q
  ·exact .inr ⟨q,PySem.W.cellsFrom_some _ _ _ (.inl q)⟩
 refine codeAny_call_function hr.depth (KX _ _ lk) rfl S.co S.gen rfl (PySem.W.codeRec_of KX hcd) (hb _ _ _ _ ?_)
 refine wpAny_newFunctionEnv_cells S.kind hkind λenv he s1 x=>?_
 subst he
 refine⟨lim.keeps x.toInCall.keep,codeAny_func ?_⟩
 obtain⟨t,ht,hq⟩:=hbody A outer s H vs Q E (hr.deeper _) hsp
 have I:Inv (cxOf CX P w K mg base N qual scope f cdv A outer s H E) [] (start N vs) H s1:=zkA S hr.hd e0 hl r x
 refine wpAny_mono (ht [] s1 (start N vs) H _ I hq) (λfl s' hs=>?_) λe s' hs=>hs
 have fin:∀ {σ':St}{H':Hp}{v:V}{u:Value},Inv (cxOf CX P w K mg base N qual scope f cdv A outer s H E) [] σ' H' s'→RelV v u→Q v H'→CE outer P w H s Q u s':=
  λ{σ' H' v u} J rv q=>⟨v,H',J.os,J.bare,J.base,J.hok,rv,q⟩
 cases fl with
 | ret u=>
  obtain⟨v,σ',H',J,rv,q⟩:=hs
  exact fin J rv q
 | next=>
  obtain⟨σ',H',J,q⟩:=hs
  exact fin (v:=V.non) (u:=Value.none) J rfl q
 | brk=>
  obtain⟨_,_,_,q⟩:=hs
  exact False.elim q
 | cont=>
  obtain⟨_,_,_,q⟩:=hs
  exact False.elim q
end L2

namespace L2
open PySem PySem.Spec PyProof.Rows
section
variable {X : Cx} {x : Str} {p pos : Pos} {e : Expr} {es : List Expr} {t : TA} {id T : String} {r : List V → Hp → VK → Prop}

def tCB (r:List V→Hp→VK→Prop) (t:TA):TE:=λσ H Q=>t σ H λvs H1=>r vs H1 Q
theorem zaP (hc:zce X (.builtin id) r) (hg:Gl X x) (hm:X.mg x=none) (hv:bootBuiltins x=some (.builtin id)) (ha:PA X (e::es) t) (hn:x≠ "__name__":=by decide) (hdb:(x == ("__debug__" : Str))=false:=by decide)
  (he:starEach (e::es) X.env=(false,eval e X.env)::starEach es X.env:=by rfl) (hpl:(backTo pos (starEach es X.env)).any (·.1)=false:=by rfl):PE X (.Call (.Name x p) (e::es) [] pos) (tCB r t):=by
 intro pins s σ H Q I h
 refine wpAny_Call_Name_kw (zf9 I hg hm hv ?_ hn hdb)
 exact PyProof.Rows.callWith_builtin1 (thn (ha pos pins s σ H _ I h) λus s1 ⟨vs,H1,I1,r1,q1⟩=>hc pins s1 σ H1 vs us Q I1 r1 q1) he hpl
theorem zbU (hc:zce X (.type T) r) (hg:Gl X x) (hm:X.mg x=none) (hv:bootBuiltins x=some (.type T)) (ha:PA X (e::es) t) (hn:x≠ "__name__":=by decide) (hdb:(x == ("__debug__" : Str))=false:=by decide)
  (he:starEach (e::es) X.env=(false,eval e X.env)::starEach es X.env:=by rfl) (hpl:(backTo pos (starEach es X.env)).any (·.1)=false:=by rfl):PE X (.Call (.Name x p) (e::es) [] pos) (tCB r t):=by
 intro pins s σ H Q I h
 refine wpAny_Call_Name_kw (zf9 I hg hm hv ?_ hn hdb)
 exact PyProof.Rows.callWith_type1 (thn (ha pos pins s σ H _ I h) λus s1 ⟨vs,H1,I1,r1,q1⟩=>hc pins s1 σ H1 vs us Q I1 r1 q1) he hpl
end
end L2

namespace HT
open PySem PyProof.Rows

section
open PySem.SeqAt
open PySem.AutoSeq1 (wpAny_loadPart')
open PySem.MeetsSeq PySem.MeetsSeq2 PySem.MeetsSeq3

end

section
variable {prog : Program} {w : World} {A : Around} {E : Value → Shared → Prop} {s : Shared}

theorem cat_tup {t b:Addr}{vs ws:List Value}{Q:Value→Shared→Prop}(ht:IsTup s.heap t vs.toArray) (hb:IsTup s.heap b ws.toArray) (hv:vs≠[])
  (h1:ws=[]→Q (.ref t) s) (h2:ws≠[]→Q (.ref s.heap.objs.size) {s with heap:=s.heap.push {cls:=.type "tuple",data:=.seq (vs++ws).toArray}})
  (hsz:vs.length+ws.length≤sizeLine):wpAny (model prog w) A (binaryOp .Add (.ref t) (.ref b)) Q E s:=by
 obtain⟨⟨cls,dd,data,sl⟩,ho,hc,n,hd⟩:=id ht
 obtain⟨⟨cls2,dd2,data2,sl2⟩,ho2,hc2,n2,hd2⟩:=id hb
 simp only at hc hd hc2 hd2
 subst hc hd hc2 hd2
 have e:vs.toArray++ws.toArray=(vs++ws).toArray:=by simp
 by_cases hw:ws=[]
 ·exact concat_meets ⟨_,ho,rfl⟩ ⟨_,ho2,rfl⟩ noFill_tuple_add seq_tuple_add PySem.F.slot_tuple_add PySem.F.entry_tuple_add (PySem.F.args_tuple_add_2 _ _)
   (tuple_addW1 t b vs.toArray ws.toArray n n2 dd dd2 sl sl2 (by simpa using hv) (by simp[hw])) ⟨ho,ho2,h1 hw⟩
 ·refine concat_meets ⟨_,ho,rfl⟩ ⟨_,ho2,rfl⟩ noFill_tuple_add seq_tuple_add PySem.F.slot_tuple_add PySem.F.entry_tuple_add (PySem.F.args_tuple_add_2 _ _)
   (tuple_addW2 t b vs.toArray ws.toArray n n2 dd dd2 sl sl2 (by simpa using hv) (by simpa using hw) (by rw[zst,zst];exact hsz)) ⟨ho,ho2,?_⟩
  rw[e]
  exact h2 hw
def sIx (n d:Nat):Option Int→Nat
 | none=>d
 | some v=>if v<0 then (v+(n:Int)).toNat else min v.toNat n
theorem sIx_none (n d:Nat):sIx n d none=d:=rfl
theorem sIx_nat (n d k:Nat):sIx n d (some (k:Int))=min k n:=by
 show (if (k:Int)<0 then ((k:Int)+(n:Int)).toNat else min (k:Int).toNat n)=min k n
 rw[if_neg (by omega),Int.toNat_natCast]
theorem zoJ (n d:Nat) (hd:d≤n) (o:Option Int):sIx n d o≤n:=by
 cases o with
 | none=>exact hd
 | some v=>
  show (if v<0 then (v+(n:Int)).toNat else min v.toNat n)≤n
  by_cases hv:v<0
  ·rw[if_pos hv];omega
  ·rw[if_neg hv];exact Nat.min_le_right _ _
theorem zkB (v:Int) (n d:Nat):(if v<0 then max (v+(n:Int)) 0 else min v (n:Int))=((sIx n d (some v):Nat):Int):=by
 show (if v<0 then max (v+(n:Int)) 0 else min v (n:Int))=(((if v<0 then (v+(n:Int)).toNat else min v.toNat n):Nat):Int)
 by_cases hv:v<0
 ·simp only[if_pos hv];omega
 ·simp only[if_neg hv];omega
theorem zjC (lo hi:Option Int) (n:Nat):Builtin.Slice.sliceAdjust lo hi 1 (n:Int)=(((sIx n 0 lo:Nat):Int),((sIx n n hi:Nat):Int)):=by
 have h1:¬ ((1:Int)<0):=by omega
 unfold Builtin.Slice.sliceAdjust
 simp only[h1,if_false]
 refine Prod.ext ?_ ?_
 ·cases lo with
  | none=>rfl
  | some v=>exact zkB v n 0
 ·cases hi with
  | none=>rfl
  | some v=>exact zkB v n n
theorem zjD (i j:Nat):Builtin.Slice.slicePlaces (i:Int) (j:Int) 1=j - i:=by
 unfold Builtin.Slice.slicePlaces
 have h1:(1:Int)>0:=by omega
 simp only[h1,if_true,Int.ediv_one]
 split <;> omega
theorem zgg {v:Value}{o:Option Int}{Q:Option Int→Shared→Prop}(p:IsPart v o) (h:Q o s):wpAny (model prog w) A (Builtin.Slice.slicePartIndex v) Q E s:=by
 cases p with
 | none=>exact slicePart_none h
 | int i t=>exact slicePart_int h
theorem zeI {sl:Addr}{vl vu:Value}{lo hi:Option Int}{n:Nat}{Q:Int × Int × Nat→Shared→Prop}(hs:s.heap.IsSliceOf sl vl vu .none) (pl:IsPart vl lo) (pu:IsPart vu hi)
  (h:Q (((sIx n 0 lo:Nat):Int),1,sIx n n hi - sIx n 0 lo) s):wpAny (model prog w) A (Builtin.Slice.sliceApplied (.ref sl) (pure (n:Int))) Q E s:=by
 obtain⟨os,hos,hcs,hds⟩:=id hs
 unfold Builtin.Slice.sliceApplied Builtin.Slice.sliceFields
 refine wpAny_bind (wpAny_bind (wpAny_field hos hds (x:=vl) rfl (wpAny_bind (wpAny_field hos hds (x:=vu) rfl (wpAny_bind (wpAny_field hos hds (x:=.none) rfl (wpAny_pure ?_)))))))
 refine wpAny_bind (slicePart_none ?_)
 show wpAny _ _ (if ((1:Int) == 0)=true then _ else _) _ _ s
 rw[if_neg (by decide)]
 refine wpAny_bind (zgg pl (wpAny_bind (zgg pu (wpAny_bind (wpAny_pure ?_)))))
 show wpAny _ _ (match Builtin.Slice.sliceAdjust lo hi 1 (n:Int) with | (lo,hi)=>pure (lo,(1:Int),Builtin.Slice.slicePlaces lo hi 1)) _ _ s
 rw[zjC lo hi n]
 show wpAny _ _ (pure (((sIx n 0 lo:Nat):Int),(1:Int),Builtin.Slice.slicePlaces ((sIx n 0 lo:Nat):Int) ((sIx n n hi:Nat):Int) 1)) _ _ s
 rw[zjD]
 exact wpAny_pure h
theorem zlZ (xs:Array Value) (i k:Nat):((List.range k).filterMap λ(m:Nat)=>xs[((i:Int)+(m:Int) * 1).toNat]?).toArray=((xs.toList.drop i).take k).toArray:=by
 have e:(λ(m:Nat)=>xs[((i:Int)+(m:Int) * 1).toNat]?)=λm=>xs[i+m]?:=by
  funext m
  have:((i:Int)+(m:Int) * 1).toNat=i+m:=by omega
  rw[this]
 rw[e]
 have:=pick_run xs i k
 rw[List.filterMap_map] at this
 have e2:((λx=>xs[x]?) ∘ λx=>i+x)=λm=>xs[i+m]?:=rfl
 rw[e2] at this
 rw[this]
theorem getItem_tuple_cut {t sl:Addr}{items:Array Value}{vl vu:Value}{lo hi:Option Int}{Q:Value→Shared→Prop}(ht:IsTup s.heap t items) (hs:s.heap.IsSliceOf sl vl vu .none) (pl:IsPart vl lo) (pu:IsPart vu hi)
  (hw:¬ (sIx items.size 0 lo=0∧sIx items.size items.size hi=items.size))
  (h:Q (.ref s.heap.objs.size) {s with heap:=s.heap.push {cls:=.type "tuple",data:=.seq ((items.toList.drop (sIx items.size 0 lo)).take (sIx items.size items.size hi - sIx items.size 0 lo)).toArray}})
  (hsz:items.size≤sizeLine):wpAny (model prog w) A (getItem (.ref t) (.ref sl)) Q E s:=by
 have htake:sizeOk (.seq ((items.toList.drop (sIx items.size 0 lo)).take (sIx items.size items.size hi - sIx items.size 0 lo)).toArray):=by
  show ((items.toList.drop (sIx items.size 0 lo)).take (sIx items.size items.size hi - sIx items.size 0 lo)).toArray.size≤sizeLine
  rw[zst,List.length_take,List.length_drop,Array.length_toList]
  omega
 have hj:sIx items.size items.size hi≤items.size:=zoJ _ _ (Nat.le_refl _) hi
 obtain⟨os,hos,hcs,hds⟩:=id hs
 have hTs:s.TypeIs (.ref sl) "slice":=⟨os,hos,hcs⟩
 unfold getItem
 try with_reducible refine wpAny_holding ?_
 first | refine wpAny_bind (wpAny_pure ?_) | skip
 refine wpAny_bind (wpAny_sequenceKey ht.typeIs (by decide) ?_)
 refine wpAny_bind (wpAny_callSpecial?_slot (name:=Str.ofString "__getitem__") ht.typeIs PyProof.Rows.slot_tuple_getitem
  (wpAny_call_entry PyProof.Rows.slot_tuple_getitem ht.typeIs entry_tuple_getitem ?_ (args_tuple_getitem _ _)))
 show wpAny _ _ (Builtin.Tuple.tupleItemsOf (.ref t) >>= _) _ _ s
 refine wpAny_bind (tupleItemsOf_ ht ?_)
 refine wpAny_bind (wpAny_typeOf hTs ?_)
 rw[if_pos (by decide)]
 refine wpAny_bind (zeI hs pl pu ?_)
 have hno:¬ ((((sIx items.size 0 lo:Nat):Int) == 0 && (1:Int) == 1 && (sIx items.size items.size hi - sIx items.size 0 lo) == items.size)=true):=by
  intro q
  rw[Bool.and_eq_true,Bool.and_eq_true] at q
  have q1:((sIx items.size 0 lo:Nat):Int)=0:=eq_of_beq q.1.1
  have q2:sIx items.size items.size hi - sIx items.size 0 lo=items.size:=eq_of_beq q.2
  exact hw ⟨by omega,by omega⟩
 show wpAny _ _ (if (((sIx items.size 0 lo:Nat):Int) == 0 && (1:Int) == 1 && (sIx items.size items.size hi - sIx items.size 0 lo) == items.size)=true then _ else _) _ _ s
 rw[if_neg hno,zlZ]
 first
  | exact wpAny_bind (m:=Builtin.Tuple.tupleExact _) (wpAny_newObj_type (wpAny_pure ⟨_,rfl,wpAny_pure h⟩) htake)
  | exact wpAny_bind (m:=Builtin.Tuple.tupleExact _) (wpAny_newObj_type (wpAny_bind (wpAny_pure (wpAny_pure ⟨_,rfl,wpAny_pure h⟩))) htake)
  | exact wpAny_bind (wpAny_bind (m:=Builtin.Tuple.tupleExact _) (wpAny_newObj_type (wpAny_pure (wpAny_pure ⟨_,rfl,wpAny_pure h⟩)) htake))
  | exact wpAny_bind (wpAny_bind (m:=Builtin.Tuple.tupleExact _) (wpAny_newObj_type (wpAny_pure ⟨_,rfl,wpAny_pure h⟩) htake))
end
end HT

namespace L2
open PySem PySem.Spec PyProof.Rows

abbrev TO:=St→Hp→(Option Int→Hp→Prop)→Prop
def PO (X:Cx) (e:Option Expr) (t:TO):Prop:=
 ∀ (pins:List (Addr × Obj)) (s:Shared) (σ:St) (H:Hp) (Q:Option Int→Hp→Prop),Inv X pins σ H s→t σ H Q→
  wpAny (model X.prog X.w) X.A (evalPart e X.env) (λu s'=>∃ o H',Inv X pins σ H' s'∧IsPart u o∧Q o H') X.xe s
def zkC:TO:=λ_ H Q=>Q none H
def zoK (t:TE):TO:=λσ H Q=>t σ H λx H1=>∃ i,x=.int i∧Q (some i) H1
theorem zjE {ns:List Int} : ∀ {us:List Value},Vals (ns.map V.int) us→IntsAre us ns:=by
 induction ns with
 | nil=>intro us r;rw[List.map_nil] at r;cases r;exact .nil
 | cons n ns ih=>
  intro us r
  rw[zmc] at r
  cases r with
  | cons r1 r2=>
   obtain⟨t,e⟩:=r1
   subst e
   exact .cons n t (ih r2)
section
variable {X : Cx} {e : Expr} {te : TE} {lo hi : Option Expr} {tl th : TO} {pos p2 : Pos}

theorem zkD:PO X none zkC:=by
 intro pins s σ H Q I h
 rw[evalPart_none]
 exact wpAny_pure ⟨none,H,I,.none,h⟩
theorem zkE (h:PE X e te):PO X (some e) (zoK te):=by
 intro pins s σ H Q I hw
 rw[evalPart_some]
 refine thn (h pins s σ H _ I hw) λu s1 ⟨x,H1,I1,r1,q1⟩=>?_
 obtain⟨i,rfl,q⟩:=q1
 obtain⟨t,rfl⟩:=r1
 exact⟨some i,H1,I1,.int i t,q⟩
def SlR (X:Cx) (r:V→Option Int→Option Int→Hp→VK→Prop):Prop:=
 ∀ (pins:List (Addr × Obj)) (s:Shared) (σ:St) (H:Hp) (x:V) (v vl vu:Value) (lo hi:Option Int) (sl:Addr) (Q:VK),Inv X pins σ H s→RelV x v→s.heap.IsSliceOf sl vl vu .none→IsPart vl lo→IsPart vu hi→r x lo hi H Q→
  ∃ T id,typeLookup (.type T) "__getitem__"=pure (some (.builtin id))∧s.TypeIs v T∧wpAny (model X.prog X.w) X.A (getItem v (.ref sl)) (EP X pins σ Q) X.xe s
theorem SlR.or {r r':V→Option Int→Option Int→Hp→VK→Prop}(h:SlR X r) (h':SlR X r'):SlR X (λx lo hi H Q=>r x lo hi H Q∨r' x lo hi H Q):=by
 intro pins s σ H x v vl vu lo hi sl Q I rx hs pl pu q
 rcases q with q | q
 ·exact h pins s σ H x v vl vu lo hi sl Q I rx hs pl pu q
 ·exact h' pins s σ H x v vl vu lo hi sl Q I rx hs pl pu q
def tSl (r:V→Option Int→Option Int→Hp→VK→Prop) (te:TE) (tl th:TO):TE:=λσ H Q=>te σ H λx H1=>tl σ H1 λl H2=>th σ H2 λu H3=>r x l u H3 Q
theorem ziX {r:V→Option Int→Option Int→Hp→VK→Prop}(hr:SlR X r) (he:PE X e te) (hl:PO X lo tl) (hu:PO X hi th):PE X (.Subscript e (.Slice lo hi none p2) pos) (tSl r te tl th):=by
 intro pins s σ H Q I h
 refine Subscript_ (thn (he pins s σ H _ I h) λv s1 ⟨x,H1,I1,r1,q1⟩=>?_)
 refine wpAny_Slice (thn (hl pins s1 σ H1 _ I1 q1) λvl s2 ⟨l,H2,I2,pl,q2⟩=>thn (hu pins s2 σ H2 _ I2 q2) λvu s3 ⟨u,H3,I3,pu,q3⟩=>?_)
 rw[evalPart_none]
 refine wpAny_pure ?_
 have I4:Inv X pins σ H3 {s3 with heap:=s3.heap.push {cls:=.type "slice",data:=.fields #[vl,vu,.none]}}:=I3.kept (t':=s3.toks) λb ob q=>Heap.get?_push_of_some _ q
 obtain⟨T,id,hT,ht,hg⟩:=hr pins {s3 with heap:=s3.heap.push {cls:=.type "slice",data:=.fields #[vl,vu,.none]}} σ H3 x v vl vu l u s3.heap.objs.size Q I4 r1 (Heap.IsSliceOf.new ..) pl pu q3
 show wpAny (model X.prog X.w) X.A (subscriptTail e (.Slice lo hi none p2) v (.ref s3.heap.objs.size)) (EP X pins σ Q) X.xe {s3 with heap:=s3.heap.push {cls:=.type "slice",data:=.fields #[vl,vu,.none]}}
 exact tail_any (ops:=[.ref s3.heap.objs.size,v]) ht hT hg (by with_unfolding_all rfl)
def cutV (xs:List V) (lo hi:Option Int):List V:=(xs.drop (HT.sIx xs.length 0 lo)).take (HT.sIx xs.length xs.length hi - HT.sIx xs.length 0 lo)
theorem ze9 (xs:List V) (lo hi:Option Int):(cutV xs lo hi).length≤xs.length:=by
 unfold cutV
 rw[List.length_take,List.length_drop]
 omega
def rSlT (K:Fg):V→Option Int→Option Int→Hp→VK→Prop:=λx lo hi H Q=>∃ a xs,x=.ref a∧SqT K H a xs∧
 ¬ (HT.sIx xs.length 0 lo=0∧HT.sIx xs.length xs.length hi=xs.length)∧∀ p,H p=none→Q (.ref p) (upd H p (.tup (cutV xs lo hi)))
theorem zoL:SlR X (rSlT X.K):=by
 intro pins s σ H x v vl vu lo hi sl Q I rx hs pl pu h
 obtain⟨a,xs,rfl,hx,hw,q⟩:=h
 cases rx
 obtain⟨its,r,ht,hz⟩:=I.tuple hx
 have hlen:its.toArray.size=xs.length:=by rw[zst];exact r.length.symm
 refine⟨"tuple",_,PyProof.Rows.slot_tuple_getitem.lookup,ht.typeIs,?_⟩
 refine HT.getItem_tuple_cut ht hs pl pu (by rw[hlen];exact hw) ?_ (by rw[hlen];exact hz)
 rw[hlen]
 refine⟨.ref s.heap.objs.size,_,I.laid (t':=s.toks) (o:=.tup (cutV xs lo hi)) (λb ob q=>Heap.get?_push_of_some _ q) (Nat.le_refl _) ?_,rfl,q _ (I.hok.fresh (Nat.le_refl _))⟩
 exact⟨Nat.le_trans (ze9 xs lo hi) hz,_,(r.drop (HT.sIx xs.length 0 lo)).take (HT.sIx xs.length xs.length hi - HT.sIx xs.length 0 lo),IsTup.new _ _⟩
def zoM (K:Fg):R2:=λx y H Q=>∃ a b xs ys,x=.ref a∧y=.ref b∧SqT K H a xs∧SqT K H b ys∧xs≠[]∧xs.length+ys.length≤sizeLine∧
 (ys=[]→Q (.ref a) H)∧(ys≠[]→∀ p,H p=none→Q (.ref p) (upd H p (.tup (xs++ys))))
theorem Vals.nil_iff {xs:List V}{us:List Value}(r:Vals xs us):us=[]↔xs=[]:=by
 cases r with
 | nil=>simp
 | cons _ _=>simp
theorem znA:OpR X (binaryOp .Add) (zoM X.K):=by
 intro pins s σ H x y v u Q I rx ry h
 obtain⟨a,b,xs,ys,rfl,rfl,ha,hb,hx,hz,q1,q2⟩:=h
 cases rx
 cases ry
 obtain⟨its,r1,p1,_⟩:=I.tuple ha
 obtain⟨its2,r2,p2,_⟩:=I.tuple hb
 refine HT.cat_tup p1 p2 (λz=>hx (r1.nil_iff.mp z)) (λz=>⟨.ref a,H,I,rfl,q1 (r2.nil_iff.mp z)⟩) (λz=>?_) (by rw[←r1.length,←r2.length];exact hz)
 refine⟨.ref s.heap.objs.size,_,I.laid (t':=s.toks) (o:=.tup (xs++ys)) (λb ob q=>Heap.get?_push_of_some _ q) (Nat.le_refl _) ?_,rfl,q2 (λw=>z (r2.nil_iff.mpr w)) _ (I.hok.fresh (Nat.le_refl _))⟩
 exact⟨by rw[List.length_append];exact hz,_,r1.append r2,IsTup.new _ _⟩
end
end L2

namespace L2
open PySem PySem.Spec PyProof.Rows

def ixN (n:Nat) (i:Int):Option Nat:=if 0≤i then (if i<n then some i.toNat else none) else if -(n:Int)≤i then some (i+n).toNat else none
def atI {α:Type}(xs:List α) (i:Int):Option α:=(ixN xs.length i).bind λj=>xs[j]?
theorem zkF {n:Nat}{i:Int}{j:Nat}(h:ixN n i=some j):seqIndex? i n=some j∧j<n∧-(n:Int)≤i∧i<n:=by
 unfold ixN at h
 by_cases h0:0≤i
 ·rw[if_pos h0] at h
  by_cases h1:i<n
  ·rw[if_pos h1] at h
   have e:i.toNat=j:=Option.some.inj h
   exact⟨by rw[seqIndex_of h0 h1,e],by omega,by omega,h1⟩
  ·rw[if_neg h1] at h;cases h
 ·rw[if_neg h0] at h
  by_cases h1:-(n:Int)≤i
  ·rw[if_pos h1] at h
   have e:(i+n).toNat=j:=Option.some.inj h
   exact⟨by rw[seqIndex_neg (by omega) h1,e],by omega,h1,by omega⟩
  ·rw[if_neg h1] at h;cases h
theorem zh7 {α:Type}{xs:List α}{i:Int}{v:α}(h:atI xs i=some v):∃ j,seqIndex? i xs.length=some j∧xs[j]?=some v∧j<xs.length∧-(xs.length:Int)≤i∧i<xs.length:=by
 unfold atI at h
 cases e:ixN xs.length i with
 | none=>rw[e] at h;cases h
 | some j=>
  rw[e] at h
  obtain⟨h1,h2,h3,h4⟩:=zkF e
  exact⟨j,h1,h,h2,h3,h4⟩
theorem zaV {α:Type}{xs:List α}{j:Nat}{v:α}(h:xs[j]?=some v):atI xs (j:Int)=some v:=by
 have hj:j<xs.length:=(zge.mp h).1
 have e:ixN xs.length (j:Int)=some j:=by
  unfold ixN
  rw[if_pos (by omega),if_pos (by omega)];simp
 unfold atI;rw[e];exact h
def znB (b:Expr):Prop:=∀ o i,subscripted b false o i=operate [o,i] (getItem o i)
def IxR (X:Cx) (r:R2):Prop:=
 ∀ (value slice:Expr) (pins:List (Addr × Obj)) (s:Shared) (σ:St) (H:Hp) (x y:V) (v u:Value) (Q:VK),Inv X pins σ H s→RelV x v→RelV y u→r x y H Q→
  subscripted slice false v u=operate [v,u] (getItem v u)→wpAny (model X.prog X.w) X.A (subscriptTail value slice v u) (EP X pins σ Q) X.xe s
def MtR (X:Cx) (id:String) (r:V→List V→Hp→VK→Prop):Prop:=
 ∀ (pins:List (Addr × Obj)) (s:Shared) (σ:St) (H:Hp) (x:V) (xs:List V) (v:Value) (us:List Value) (Q:VK),Inv X pins σ H s→RelV x v→Vals xs us→r x xs H Q→
  wpAny (model X.prog X.w) X.A (call (.builtin id) (v::us)) (EP X pins σ Q) X.xe s
section
variable {X : Cx} {a b : Expr} {ta tb : TE} {pos : Pos}
theorem IxR.or {r r':R2}(h:IxR X r) (h':IxR X r'):IxR X (λx y H Q=>r x y H Q∨r' x y H Q):=by
 intro value slice pins s σ H x y v u Q I rx ry q hs
 rcases q with q | q
 ·exact h value slice pins s σ H x y v u Q I rx ry q hs
 ·exact h' value slice pins s σ H x y v u Q I rx ry q hs
theorem zaB {r:R2}(hr:IxR X r) (ha:PE X a ta) (hb:PE X b tb) (hs:znB b):PE X (.Subscript a b pos) (tOp r ta tb):=by
 intro pins s σ H Q I h
 exact Subscript_ (binT ha hb I h λv u s2 x y H2 I2 rx ry q=>hr a b pins s2 σ H2 x y v u Q I2 rx ry q (hs _ _))
def rIxL (K:Fg):R2:=λx y H Q=>∃ p xs i v,x=.ref p∧y=.int i∧SqL K H p xs∧atI xs i=some v∧Q v H
def rIxT (K:Fg):R2:=λx y H Q=>∃ p xs i v,x=.ref p∧y=.int i∧SqT K H p xs∧atI xs i=some v∧Q v H
def rIxS:R2:=λx y H Q=>∃ z i c,x=.str z∧y=.int i∧z.length≤sizeLine∧atI z.cps.toList i=some c∧Q (.str ⟨#[c]⟩) H
theorem znC:IxR X (rIxL X.K):=by
 intro value slice pins s σ H x y v u Q I rx ry h hs
 obtain⟨p,xs,i,z,rfl,rfl,hq,he,q⟩:=h
 cases rx
 obtain⟨t,rfl⟩:=ry
 obtain⟨its,r,pl,hz⟩:=I.list hq
 obtain⟨j,h1,h2,h3,h4,h5⟩:=zh7 he
 obtain⟨w,ew,rw'⟩:=r.get h2
 have hl:=r.length
 have hn:=zgf
 have fin:EP X pins σ Q w s:=⟨z,H,I,rw',q⟩
 by_cases h0:0≤i
 ·have hj:i.toNat=j:=by
   rw[seqIndex_of h0 h5] at h1
   exact Option.some.inj h1
  exact item_listR pl.isList h0 (by omega) (by rw[hj];simpa using ew) fin hs
 ·have hj:(i+(its.toArray.size:Int)).toNat=j:=by
   rw[seqIndex_neg (by omega) h4] at h1
   rw[zst,←hl]
   exact Option.some.inj h1
  exact subscriptTail_builtinR (x:=w) pl.isList.typeIs slot_list_getitem.lookup
   (wpAny_getItem_list_neg (Q:=λr s'=>r=w∧EP X pins σ Q r s') pl.isList (by omega) (by rw[zst] <;> omega) (by omega) (by rw[hj];simpa using ew) ⟨rfl,fin⟩) hs
theorem zoN:IxR X (rIxT X.K):=by
 intro value slice pins s σ H x y v u Q I rx ry h hs
 obtain⟨p,xs,i,z,rfl,rfl,hq,he,q⟩:=h
 cases rx
 obtain⟨t,rfl⟩:=ry
 obtain⟨its,r,pl,hz⟩:=I.tuple hq
 obtain⟨j,h1,h2,h3,h4,h5⟩:=zh7 he
 obtain⟨w,ew,rw'⟩:=r.get h2
 have hl:=r.length
 have hn:=zgf
 have fin:EP X pins σ Q w s:=⟨z,H,I,rw',q⟩
 exact subscriptTail_builtinR (x:=w) pl.typeIs slot_tuple_getitem.lookup
  (getItem_tuple (j:=j) (Q:=λr s'=>r=w∧EP X pins σ Q r s') pl (by omega) (by omega) (by rw[zst,←hl];exact h1) (by simpa using ew) ⟨rfl,fin⟩) hs
theorem zoO:IxR X rIxS:=by
 intro value slice pins s σ H x y v u Q I rx ry h hs
 obtain⟨z,i,c,rfl,rfl,hz,he,q⟩:=h
 obtain⟨t,rfl⟩:=rx
 obtain⟨t',rfl⟩:=ry
 obtain⟨j,h1,h2,h3,h4,h5⟩:=zh7 he
 have hl:z.cps.toList.length=z.length:=by simp[Str.length]
 rw[hl] at h1 h4 h5
 have hn:=zgf
 exact tail_any (typeIs_str s z t) slot_str_getitem.lookup (getItem_str (c:=c) (by
  have e1:decide (i < -(2 ^ 63:Int))=false:=decide_eq_false (by omega)
  have e2:decide (i≥2 ^ 63)=false:=decide_eq_false (by omega)
  rw[e1,e2,Bool.or_false]) (by rw[h1];simpa using h2) ⟨.str ⟨#[c]⟩,H,I.tok _,⟨_,rfl⟩,q⟩) hs
def rIx (K:Fg):R2:=λx y H Q=>rIxL K x y H Q∨rIxT K x y H Q∨rIxS x y H Q
theorem zoP:IxR X (rIx X.K):=znC.or (zoN.or zoO)
theorem zjF (its:List Value) (n j:Nat) (u:Value):Obj.mapSeq (·.setIfInBounds j u) {cls:=.type "list",data:=.seq its.toArray n}={cls:=.type "list",data:=.seq (its.set j u).toArray n}:=by
 simp[Obj.mapSeq]
theorem Inv.lst {pins:List (Addr × Obj)}{σ:St}{H:Hp}{s:Shared}{p:Addr}{xs:List V}(I:Inv X pins σ H s) (h:H p=some (.lst xs)) :
  ∃ (its:List Value) (n:Nat),Vals xs its∧s.heap.get? p=some {cls:=.type "list",data:=.seq its.toArray n}∧xs.length≤sizeLine:=by
 obtain⟨z,its,n,r,e⟩:=I.hok p _ h
 exact⟨its,n,r,e,z⟩
theorem Inv.lstUpd {pins:List (Addr × Obj)}{σ:St}{H:Hp}{s:Shared}{p:Addr}{xs ys:List V}{its its':List Value}{n n':Nat}{f:Obj→Obj}(I:Inv X pins σ H s) (h:H p=some (.lst xs))
  (ho:s.heap.get? p=some {cls:=.type "list",data:=.seq its.toArray n}) (hf:f {cls:=.type "list",data:=.seq its.toArray n}={cls:=.type "list",data:=.seq its'.toArray n'}) (r:Vals ys its') (hz:ys.length≤sizeLine) (t:Nat) :
  Inv X pins σ (upd H p (.lst ys)) {s with heap:=s.heap.update p f,toks:=t}:=by
 have e:(s.heap.update p f).get? p=some {cls:=.type "list",data:=.seq its'.toArray n'}:=by
  rw[Heap.get?_update_self f ho (by rw[hf] <;> rfl),hf]
 refine I.write (x:=p) (e:=p) (by rw[h];trivial) (.inl rfl) (λb u hb q=>(Heap.get?_update_other _ _ (Ne.symm hb)).trans q) ⟨_,e⟩ ?_
 exact⟨hz,its',n',r,e⟩
def zoQ:V→V→V→Hp→(Hp→Prop)→Prop:=λo i v H Q=>∃ p xs k j,o=.ref p∧i=.int k∧H p=some (.lst xs)∧ixN xs.length k=some j∧Q (upd H p (.lst (xs.set j v)))
theorem zdv:PSet X zoQ:=by
 intro pins s σ H o i v ov iv u Q I ro ri rv h
 obtain⟨p,xs,k,j,rfl,rfl,hp,hj,q⟩:=h
 cases ro
 obtain⟨t,rfl⟩:=ri
 obtain⟨its,n,r,ho,hz⟩:=I.lst hp
 obtain⟨h1,h2,h3,h4⟩:=zkF hj
 have hl:=r.length
 have hn:=zgf
 have I':Inv X pins σ (upd H p (.lst (xs.set j v))) {s with heap:=s.heap.update p (Obj.mapSeq (·.setIfInBounds j u))}:=
  I.lstUpd hp ho (zjF its n j u) (r.set rv j) (by rw[List.length_set];exact hz) s.toks
 by_cases h0:0≤k
 ·have hk:k.toNat=j:=by
   rw[seqIndex_of h0 h4] at h1
   exact Option.some.inj h1
  exact PySem.W.ki_setAt ho h0 (by omega) (by rw[zst,←hl];exact h4) (by rw[hk];exact⟨_,I',q⟩)
 ·have hk:(k+(its.toArray.size:Int)).toNat=j:=by
   rw[seqIndex_neg (by omega) h3] at h1
   rw[zst,←hl]
   exact Option.some.inj h1
  exact PySem.W.ki_setBack ho (by omega) (by rw[zst,←hl];exact h3) (by omega) (by rw[hk];exact⟨_,I',q⟩)
theorem zhd (lo hi:Option Int) (n:Nat):(sliceBounds lo hi none n).1=((HT.sIx n 0 lo:Nat):Int)∧(sliceBounds lo hi none n).2.1=((HT.sIx n n hi:Nat):Int)∧(sliceBounds lo hi none n).2.2=1:=by
 refine⟨?_,?_,rfl⟩
 ·cases lo with
  | none=>simp[sliceBounds,HT.sIx]
  | some i=>
   simp only[sliceBounds,HT.sIx,Option.getD_none,show (1:Int)>0 by decide,if_true]
   by_cases h:i<0
   ·simp only[h,if_true] <;> omega
   ·simp only[h,if_false] <;> omega
 ·cases hi with
  | none=>simp[sliceBounds,HT.sIx]
  | some i=>
   simp only[sliceBounds,HT.sIx,Option.getD_none,show (1:Int)>0 by decide,if_true]
   by_cases h:i<0
   ·simp only[h,if_true] <;> omega
   ·simp only[h,if_false] <;> omega
theorem zgA (its:List Value) (lo hi:Option Int):slicePick its.toArray lo hi none=((its.drop (HT.sIx its.length 0 lo)).take (HT.sIx its.length its.length hi - HT.sIx its.length 0 lo)).toArray:=by
 obtain⟨h1,h2,h3⟩:=zhd lo hi its.toArray.size
 unfold slicePick
 rw[h1,h2,h3]
 simp only[sliceRange_one,pick_run,zst] <;> rfl
def rSlL (K:Fg):V→Option Int→Option Int→Hp→VK→Prop:=λx lo hi H Q=>∃ a xs,x=.ref a∧SqL K H a xs∧∀ p,H p=none→Q (.ref p) (upd H p (.lst (cutV xs lo hi)))
theorem znD:SlR X (rSlL X.K):=by
 intro pins s σ H x v vl vu lo hi sl Q I rx hs pl pu h
 obtain⟨a,xs,rfl,hx,q⟩:=h
 cases rx
 obtain⟨its,r,ht,hz⟩:=I.list hx
 have hlen:=r.length
 refine⟨"list",_,slot_list_getitem.lookup,ht.isList.typeIs,?_⟩
 refine wpAny_getItem_list_slice ht.isList hs pl pu .none (by simp) ?_ (by rw[zst] <;> omega)
 rw[zgA,←hlen]
 refine⟨.ref s.heap.objs.size,_,I.laid (t':=s.toks) (o:=.lst (cutV xs lo hi)) (λb ob q=>Heap.get?_push_of_some _ q) (Nat.le_refl _) ?_,rfl,q _ (I.hok.fresh (Nat.le_refl _))⟩
 exact⟨Nat.le_trans (ze9 xs lo hi) hz,_,0,(r.drop (HT.sIx xs.length 0 lo)).take (HT.sIx xs.length xs.length hi - HT.sIx xs.length 0 lo),Heap.get?_push_size _ rfl⟩
def zdb:V→Bool
 | .non=>true
 | .bl _=>true
 | .int _=>true
 | .str _=>true
 | _=>false
def eqV:V→V→Bool
 | .non,.non=>true
 | .bl a,.bl b=>a == b
 | .bl a,.int b=>(if a then 1 else 0) == b
 | .int a,.bl b=>a == (if b then 1 else 0)
 | .int a,.int b=>a == b
 | .str a,.str b=>a == b
 | _,_=>false
theorem zmX {A:Around}{s:Shared}{y x:V}{u v:Value}(ry:RelV y u) (rx:RelV x v) (fy:zdb y=true) (fx:zdb x=true):SeqAt.EqAt A s u v (eqV y x):=by
 cases y with
 | non=>
  cases ry
  cases x with
  | non=>cases rx;exact SeqAt.EqAt.same _
  | bl b=>cases rx;exact SeqAt.EqAt.none_bool b
  | int b=>obtain⟨t,rfl⟩:=rx;exact SeqAt.EqAt.none_int b t
  | str b=>obtain⟨t,rfl⟩:=rx;exact SeqAt.EqAt.none_str b t
  | _=>exact absurd (show false=true from fx) Bool.false_ne_true
 | bl a=>
  cases ry
  cases x with
  | non=>cases rx;exact SeqAt.EqAt.bool_none a
  | bl b=>cases rx;exact SeqAt.EqAt.bool_bool a b
  | int b=>obtain⟨t,rfl⟩:=rx;exact SeqAt.EqAt.bool_int a b t
  | str b=>obtain⟨t,rfl⟩:=rx;exact SeqAt.EqAt.bool_str a b t
  | _=>exact absurd (show false=true from fx) Bool.false_ne_true
 | int a=>
  obtain⟨t',rfl⟩:=ry
  cases x with
  | non=>cases rx;exact SeqAt.EqAt.int_none a t'
  | bl b=>cases rx;exact SeqAt.EqAt.int_bool a t' b
  | int b=>obtain⟨t,rfl⟩:=rx;exact SeqAt.EqAt.int_int a t' b t
  | str b=>obtain⟨t,rfl⟩:=rx;exact SeqAt.EqAt.int_str a t' b t
  | _=>exact absurd (show false=true from fx) Bool.false_ne_true
 | str a=>
  obtain⟨t',rfl⟩:=ry
  cases x with
  | non=>cases rx;exact SeqAt.EqAt.str_none a t'
  | bl b=>cases rx;exact SeqAt.EqAt.str_bool a t' b
  | int b=>obtain⟨t,rfl⟩:=rx;exact SeqAt.EqAt.str_int a t' b t
  | str b=>obtain⟨t,rfl⟩:=rx;exact SeqAt.EqAt.str_str a t' b t
  | _=>exact absurd (show false=true from fx) Bool.false_ne_true
 | _=>exact absurd (show false=true from fy) Bool.false_ne_true
def eqU (x:V) (u:Value):Bool:=match u with
 | .none=>eqV .non x
 | .bool b=>eqV (.bl b) x
 | .int i _=>eqV (.int i) x
 | .str z _=>eqV (.str z) x
 | _=>false
theorem zmY {x y:V}{u:Value}(r:RelV y u) (f:zdb y=true):eqU x u=eqV y x:=by
 cases y with
 | non=>cases r;rfl
 | bl b=>cases r;rfl
 | int i=>obtain⟨t,rfl⟩:=r;rfl
 | str z=>obtain⟨t,rfl⟩:=r;rfl
 | _=>exact absurd (show false=true from f) Bool.false_ne_true
theorem zh8 {x:V} : ∀ {xs:List V}{us:List Value},Vals xs us→xs.all zdb=true→us.any (eqU x)=xs.any λy=>eqV y x
 | _,_,.nil,_=>rfl
 | y::xs,u::us,.cons r t,f=>by
  rw[List.all_cons,Bool.and_eq_true] at f
  rw[List.any_cons,List.any_cons,zmY r f.1,zh8 t f.2]
theorem zgB {A:Around}{s:Shared}{x:V}{v:Value}(rx:RelV x v) (fx:zdb x=true):∀ {xs:List V}{us:List Value},Vals xs us→xs.all zdb=true→∀ u∈us,SeqAt.EqAt A s u v (eqU x u)
 | _,_,.nil,_=>λu hu=>by cases hu
 | y::xs,u::us,.cons r t,f=>λu' hu=>by
  rw[List.all_cons,Bool.and_eq_true] at f
  rcases List.mem_cons.mp hu with rfl | hu
  ·rw[zmY r f.1];exact zmX r rx f.1 fx
  ·exact zgB rx fx t f.2 u' hu
def inV (x:V) (xs:List V):Bool:=xs.any λy=>eqV y x
def rIn (K:Fg) (neg:Bool):R2:=λx y H Q=>∃ p xs,y=.ref p∧(SqL K H p xs∨SqT K H p xs)∧zdb x=true∧xs.all zdb=true∧Q (.bl (if neg then !inV x xs else inV x xs)) H
theorem zkG:OpR X (compareOp .In) (rIn X.K false):=by
 intro pins s σ H x y v u Q I rx ry h
 obtain⟨p,xs,rfl,hq,fx,fs,q⟩:=h
 cases ry
 rcases hq with hq | hq
 ·obtain⟨its,r,pl,hz⟩:=I.list hq
  refine SeqAt.in_listAt (eqU x) pl.isList (λw hw=>zgB rx fx r fs w (by simpa using hw)) ⟨.bl _,H,I,rfl,?_⟩
  rw[show its.toArray.any (eqU x)=its.any (eqU x) by simp,zh8 r fs]
  exact q
 ·obtain⟨its,r,pl,hz⟩:=I.tuple hq
  refine SeqAt.in_tupleAt (eqU x) pl (λw hw=>zgB rx fx r fs w (by simpa using hw)) ⟨.bl _,H,I,rfl,?_⟩
  rw[show its.toArray.any (eqU x)=its.any (eqU x) by simp,zh8 r fs]
  exact q
theorem zhe:zce X (.builtin "len") (λxs H Q=>∃ p ys,xs=[.ref p]∧(SqL X.K H p ys∨SqT X.K H p ys)∧Q (.int ys.length) H):=by
 intro pins s σ H xs us Q I r h
 obtain⟨p,ys,rfl,hq,q⟩:=h
 obtain⟨u,rfl,rx⟩:=zgy r
 cases rx
 have hn:=zgf
 rcases hq with hq | hq
 ·obtain⟨its,r',pl,hz⟩:=I.list hq
  have hlen:=r'.length
  exact Calls.call_len_list pl.isList (by simp only[zst] <;> omega) ⟨.int ys.length,H,I.tok _,⟨s.toks+1,by rw[zst,hlen]⟩,q⟩
 ·obtain⟨its,r',pl,hz⟩:=I.tuple hq
  have hlen:=r'.length
  exact len_tuple pl (by simp only[zst] <;> omega) ⟨.int ys.length,H,I.tok _,⟨s.toks+1,by rw[zst,hlen]⟩,q⟩
theorem zhf:zce X (.type "list") (λxs H Q=>∃ p ys,xs=[.ref p]∧(SqL X.K H p ys∨SqT X.K H p ys)∧∀ l,H l=none→Q (.ref l) (upd H l (.lst ys))):=by
 intro pins s σ H xs us Q I r h
 obtain⟨p,ys,rfl,hq,q⟩:=h
 obtain⟨u,rfl,rx⟩:=zgy r
 cases rx
 have fin:∀ (its:List Value),Vals ys its→ys.length≤sizeLine→∀ (h':Heap) (c':Nat),(∀ b o',s.heap.get? b=some o'→h'.get? b=some o')→
   h'.get? s.heap.objs.size=some {cls:=.type "list",dict:=none,data:=.seq its.toArray c',slots:=#[]}→EP X pins σ Q (.ref s.heap.objs.size) {s with heap:=h'}:=λits r' hz h' c' kp e=>
  ⟨.ref s.heap.objs.size,_,I.laid (t':=s.toks) kp (Nat.le_refl _) (show zbA X.prog X.w _ h' _ (.lst ys) from ⟨hz,its,c',r',e⟩),rfl,q _ (I.hok.fresh (Nat.le_refl _))⟩
 rcases hq with hq | hq
 ·obtain⟨its,r',pl,hz⟩:=I.list hq
  have hlen:=r'.length
  obtain⟨o,ho,hc,n,hd⟩:=pl.isList
  exact call_list_seq p (.inl rfl) ho hc hd (λh' c' kp e=>fin its r' hz h' c' kp e) (by simp only[zst] <;> omega)
 ·obtain⟨its,r',pl,hz⟩:=I.tuple hq
  have hlen:=r'.length
  obtain⟨o,ho,hc,n,hd⟩:=pl
  exact call_list_seq p (.inr rfl) ho hc hd (λh' c' kp e=>fin its r' hz h' c' kp e) (by simp only[zst] <;> omega)
theorem zgC:zce X (.type "tuple") (λxs H Q=>∃ p ys,xs=[.ref p]∧((SqL X.K H p ys∧∀ l,H l=none→Q (.ref l) (upd H l (.tup ys)))∨(SqT X.K H p ys∧Q (.ref p) H))):=by
 intro pins s σ H xs us Q I r h
 obtain⟨p,ys,rfl,h⟩:=h
 obtain⟨u,rfl,rx⟩:=zgy r
 cases rx
 rcases h with ⟨hq,q⟩ | ⟨hq,q⟩
 ·obtain⟨its,r',pl,hz⟩:=I.list hq
  have hlen:=r'.length
  refine call_tuple_list pl.isList (λh' kp=>?_) (by simp only[zst] <;> omega)
  have I1:Inv X pins σ H {s with heap:=h'}:=I.kept (t':=s.toks) kp
  have I2:Inv X pins σ (upd H h'.objs.size (.tup ys)) {s with heap:=h'.push {cls:=.type "tuple",data:=.seq its.toArray}}:=
   I1.laid (t':=s.toks) (λb o e=>Heap.get?_push_of_some _ e) (Nat.le_refl _) (show zbA X.prog X.w _ _ _ (.tup ys) from ⟨hz,its,r',IsTup.new _ _⟩)
  exact⟨.ref h'.objs.size,_,I2,rfl,q _ (I1.hok.fresh (Nat.le_refl _))⟩
 ·obtain⟨its,r',pl,hz⟩:=I.tuple hq
  exact call_tuple_same pl ⟨.ref p,H,I,rfl,q⟩
def tyV (K:Fg) (T:String) (x:V) (H:Hp):Prop:=match x with
 | .str _=>T ="str"
 | .int _=>T ="int"
 | .ref p=>(T ="list" ∧∃ xs,SqL K H p xs)∨(T ="tuple" ∧∃ o,K.lookup p=some o∧o.cls=.type "tuple" ∧o.dict=none)∨
   (T ="dict" ∧((∃ kvs,H p=some (.dK kvs))∨∃ kvs,H p=some (.dT kvs)))∨(T ="set" ∧∃ S n,H p=some (.set S n))
 | _=>False
theorem zmZ {pins:List (Addr × Obj)}{σ:St}{H:Hp}{s:Shared}{T:String}{x:V}{v:Value}(I:Inv X pins σ H s) (r:RelV x v) (ty:tyV X.K T x H) :
  s.TypeIs v T∧∀ a,v=.ref a→∃ ob,s.heap.get? a=some ob∧ob.dict=none:=by
 cases x with
 | str z=>
  obtain⟨t,rfl⟩:=r
  cases (show T ="str" from ty)
  exact⟨typeIs_str s z t,λ_ e=>nomatch e⟩
 | int i=>
  obtain⟨t,rfl⟩:=r
  cases (show T ="int" from ty)
  exact⟨typeIs_int s i t,λ_ e=>nomatch e⟩
 | ref p=>
  cases r
  rcases ty with ⟨rfl,xs,hq⟩ | ⟨rfl,o,hk,hc,hd⟩ | ⟨rfl,hk⟩ | ⟨rfl,S,n,hk⟩
  ·obtain⟨its,_,pl,_⟩:=I.list hq
   refine⟨pl.isList.typeIs,λa e=>?_⟩
   cases e
   obtain⟨o,n,e,c,hd,_⟩:=pl
   exact⟨o,e,hd⟩
  ·refine⟨⟨o,I.kIn p o hk,hc⟩,λa e=>?_⟩
   cases e
   exact⟨o,I.kIn _ o hk,hd⟩
  ·have z:∃ o,s.heap.get? p=some o∧o.ExactDict:=by
    rcases hk with ⟨kvs,hk⟩ | ⟨kvs,hk⟩
    ·obtain⟨_,_,_,_,o,_,_,e,ex,_⟩:=I.hok p _ hk
     exact⟨o,e,ex⟩
    ·obtain⟨_,_,_,_,o,_,_,e,ex,_⟩:=I.hok p _ hk
     exact⟨o,e,ex⟩
   obtain⟨o,e,ex⟩:=z
   refine⟨⟨o,e,ex.1⟩,λa e2=>?_⟩
   cases e2
   exact⟨o,e,ex.2.1⟩
  ·obtain⟨o,_,_,_,e,ex,_⟩:=I.hok p _ hk
   refine⟨⟨o,e,ex.1⟩,λa e2=>?_⟩
   cases e2
   exact⟨o,e,ex.2.1⟩
 | _=>exact False.elim ty
def tBM0 (K:Fg) (T:String) (r:V→List V→Hp→VK→Prop) (to:TE):TE:=λσ H Q=>to σ H λx H1=>tyV K T x H1∧r x [] H1 Q
def tBM (K:Fg) (T:String) (r:V→List V→Hp→VK→Prop) (to:TE) (t:TA):TE:=λσ H Q=>to σ H λx H1=>tyV K T x H1∧t σ H1 λxs H2=>r x xs H2 Q
variable {o e : Expr} {es : List Expr} {to : TE} {t : TA} {name : Str} {apos cpos : Pos} {T id : String} {r : V → List V → Hp → VK → Prop}
theorem zoR (pa:PlainAttrs T) (slot:Slot T name id) (hty:typeOf (.builtin id)=pure (.type "method_descriptor")) (hm:MtR X id r) (ho:PE X o to)
  (hbase:attributeBase o name X.env (eval o X.env)=eval o X.env:=by rfl) (hline:(apos.endLine == cpos.line)=true:=by rfl):PE X (.Call (.Attribute o name apos) [] [] cpos) (tBM0 X.K T r to):=by
 intro pins s σ H Q I h
 refine wpAny_Call_method0_late hbase hline (thn (ho pins s σ H _ I h) λv s1 ⟨x,H1,I1,r1,ty,q1⟩=>?_)
 obtain⟨h1,h2⟩:=zmZ I1 r1 ty
 exact⟨T,id,pa,slot,hty,h1,h2,Calls.callWith_builtin rfl (PySem.evalArgs_none (hm pins s1 σ H1 x [] v [] Q I1 r1 .nil q1))⟩
theorem zl0 (pa:PlainAttrs T) (slot:Slot T name id) (hty:typeOf (.builtin id)=pure (.type "method_descriptor")) (hm:MtR X id r) (ho:PE X o to) (ha:PA X (e::es) t)
  (hbase:attributeBase o name X.env (eval o X.env)=eval o X.env:=by rfl)
  (hfew:((backTo cpos (starEach (e::es) X.env)).all (λx=>!x.1) && (backToKw cpos (keywordEach [] X.env)).all (λx=>x.1.isSome)
   && decide ((e::es).length+([]:List Keyword).length+(if ([]:List Keyword).isEmpty then 0 else 1)<30))=true:=by rfl)
  (hline:(apos.endLine == cpos.line)=true:=by rfl) (hs:starEach (e::es) X.env=(false,eval e X.env)::starEach es X.env:=by rfl) (hplain:(backTo cpos (starEach es X.env)).any (·.1)=false:=by rfl) :
  PE X (.Call (.Attribute o name apos) (e::es) [] cpos) (tBM X.K T r to t):=by
 intro pins s σ H Q I h
 refine wpAny_Call_method_late hbase hfew hline rfl (thn (ho pins s σ H _ I h) λv s1 ⟨x,H1,I1,r1,ty,q1⟩=>?_)
 obtain⟨h1,h2⟩:=zmZ I1 r1 ty
 refine⟨T,id,pa,slot,hty,h1,h2,?_⟩
 have hA:=ha cpos pins s1 σ H1 _ I1 q1
 rw[hs] at hA ⊢
 refine Calls.callWith_builtin (by show (false || (backTo cpos (starEach es X.env)).any (·.1))=false;rw[hplain] <;> rfl) (Calls.evalArgs_plain ?_)
 exact thn hA λus s2 ⟨vs,H2,I2,r2,q2⟩=>hm pins s2 σ H2 x vs v us Q I2 r1 r2 q2
/- xs.append(e),list.index on a module's tuple .. are MtR facts of 06m -/
end
end L2

namespace L2
open PySem PySem.Spec PyProof.Rows

def MtM (X:Cx) (id:String) (r:V→List V→Hp→VK→Prop):Prop:=
 ∀ (pins:List (Addr × Obj)) (s:Shared) (σ:St) (H:Hp) (x:V) (xs:List V) (v:Value) (us:List Value) (Q:VK),Inv X pins σ H s→RelV x v→Vals xs us→r x xs H Q→
  wpAny (model X.prog X.w) X.A (call (.builtin id) (v::us)) (EP X pins σ Q) X.xe s
theorem Vals.one:∀ {x:V}{us:List Value},Vals [x] us→∃ u,us=[u]∧RelV x u
 | _,_,.cons r .nil=>⟨_,rfl,r⟩
theorem Vals.two:∀ {x y:V}{us:List Value},Vals [x,y] us→∃ u v,us=[u,v]∧RelV x u∧RelV y v
 | _,_,_,.cons r (.cons q .nil)=>⟨_,_,rfl,r,q⟩
theorem Vals.zero:∀ {us:List Value},Vals [] us→us=[]
 | _,.nil=>rfl
theorem Vals.dropLast {xs:List V}{us:List Value}(h:Vals xs us):Vals xs.dropLast us.dropLast:=by
 induction h with
 | nil=>exact .nil
 | cons r t ih=>
  cases t with
  | nil=>exact .nil
  | cons q t'=>exact .cons r ih
theorem Vals.eraseIdx:∀ {xs:List V}{us:List Value}(i:Nat),Vals xs us→Vals (xs.eraseIdx i) (us.eraseIdx i)
 | _,_,_,.nil=>.nil
 | _,_,0,.cons _ t=>t
 | _,_,i+1,.cons r t=>.cons r (Vals.eraseIdx i t)
theorem Vals.rep {xs:List V}{us:List Value}(h:Vals xs us):∀ k:Nat,Vals (List.replicate k xs).flatten (List.replicate k us).flatten
 | 0=>.nil
 | k+1=>by
  rw[List.replicate_succ,List.replicate_succ,List.flatten_cons,List.flatten_cons]
  exact Vals.append h (Vals.rep h k)
theorem zjG {α:Type}(l:List α):l.eraseIdx (l.length - 1)=l.dropLast:=by
 induction l with
 | nil=>rfl
 | cons a r ih=>
  cases r with
  | nil=>rfl
  | cons b r=>
   have e:(a::b::r).length - 1=((b::r).length - 1)+1:=by
    have h1:(a::b::r).length=r.length+2:=rfl
    have h2:(b::r).length=r.length+1:=rfl
    omega
   rw[e,List.eraseIdx_cons_succ,ih]
   all_goals rfl
theorem zhg {α:Type} : ∀ (l:List α) (i:Nat),(l.eraseIdx i).length≤l.length
 | [],_=>Nat.le_refl _
 | _::_,0=>Nat.le_succ _
 | _::r,i+1=>Nat.succ_le_succ (zhg r i)
theorem zhh (its:List Value):∀ (k:Nat) (acc:List Value),
  List.foldl (λx1 x2=>x1++x2) acc.toArray (List.replicate k its.toArray)=(acc++(List.replicate k its).flatten).toArray
 | 0,acc=>by simp
 | k+1,acc=>by
  have e:acc.toArray++its.toArray=(acc++its).toArray:=by simp
  have e2:(acc++its)++(List.replicate k its).flatten=acc++(List.replicate (k+1) its).flatten:=by
   rw[List.replicate_succ,List.flatten_cons,List.append_assoc]
  rw[←e2,←zhh its k (acc++its),←e,List.replicate_succ,List.foldl_cons]
section
variable {X : Cx} {pins : List (Addr × Obj)} {σ : St} {H : Hp} {s : Shared} {l b : Addr} {xs ys zs : List V}

theorem Inv.lset {its its':List Value}{n:Nat}{f:Array Value→Array Value}{t':Nat}(I:Inv X pins σ H s) (hH:H l=some (.lst xs))
  (e:s.heap.get? l=some {cls:=.type "list",data:=.seq its.toArray n}) (hf:f its.toArray=its'.toArray) (hv:Vals ys its') (hz:ys.length≤sizeLine) :
  Inv X pins σ (upd H l (.lst ys)) {s with heap:=s.heap.update l (Obj.mapSeq f),toks:=t'}:=by
 have q:=PySem.IsL.update e f
 rw[hf] at q
 refine I.write (x:=l) (e:=l) (by rw[hH];exact trivial) (.inl rfl) (λb' u hb hu=>(Heap.get?_update_other s.heap (Obj.mapSeq f) (Ne.symm hb)).trans hu) ⟨_,q⟩ ?_
 exact⟨hz,its',_,hv,q⟩
theorem Inv.lnew {its:List Value}{t':Nat}(I:Inv X pins σ H s) (hv:Vals ys its) (hz:ys.length≤sizeLine) :
  Inv X pins σ (upd H s.heap.objs.size (.lst ys)) {s with heap:=s.heap.push {cls:=.type "list",data:=.seq its.toArray},toks:=t'}:=
 I.laid (λ_ _ q=>Heap.get?_push_of_some _ q) (Nat.le_refl _) ⟨hz,its,0,hv,Heap.get?_push_size _ rfl⟩
theorem Inv.fresh (I:Inv X pins σ H s):H s.heap.objs.size=none:=I.hok.fresh (Nat.le_refl _)
theorem Inv.lstM (I:Inv X pins σ H s) (hH:H l=some (.lst xs)):xs.length≤sizeLine∧∃ (its:List Value) (n:Nat),Vals xs its∧xs.length=its.length∧s.heap.get? l=some {cls:=.type "list",data:=.seq its.toArray n}:=by
 obtain⟨z,its,n,r,e⟩:=I.hok l _ hH
 exact⟨z,its,n,r,r.length,e⟩
theorem zl1 {n:Nat}(h:n≤sizeLine):Builtin.List.listTooLong n=false:=by
 unfold Builtin.List.listTooLong
 exact decide_eq_false (by omega)
end

section
variable {X : Cx}

def zkH:V→List V→Hp→VK→Prop:=λx vs H Q=>∃ l xs y,x=.ref l∧vs=[y]∧H l=some (.lst xs)∧xs.length<sizeLine∧Q .non (upd H l (.lst (xs++[y])))
theorem zdX:MtM X "list.append" zkH:=by
 intro pins s σ H x vs v us Q I rx rv h
 obtain⟨l,xs,y,rfl,rfl,hH,hz,q⟩:=h
 cases rx
 obtain⟨u,rfl,ru⟩:=rv.one
 obtain⟨z,its,n,r,hl,e⟩:=I.lstM hH
 refine call_meets F.slot_list_append ⟨_,e,rfl⟩ F.entry_list_append (F.args_list_append_2 _ _) (PySem.list_append l its.toArray n u (by rw[zst];omega)) ⟨e,?_⟩
 refine⟨.non,_,I.lset (its':=its++[u]) hH e (by simp) (r.append (.cons ru .nil)) ?_,rfl,q⟩
 rw[List.length_append,List.length_singleton]
 omega
def rPop:V→List V→Hp→VK→Prop:=λx vs H Q=>∃ l xs y,x=.ref l∧vs=[]∧H l=some (.lst xs)∧xs[xs.length - 1]?=some y∧Q y (upd H l (.lst xs.dropLast))
theorem zoS:MtM X "list.pop" rPop:=by
 intro pins s σ H x vs v us Q I rx rv h
 obtain⟨l,xs,y,rfl,rfl,hH,hy,q⟩:=h
 cases rx
 have hus:=rv.zero
 subst hus
 obtain⟨z,its,n,r,hl,e⟩:=I.lstM hH
 obtain⟨u,hu,ru⟩:=r.get hy
 have hy':its.toArray[its.toArray.size - 1]?=some u:=by
  show its.toArray[its.length - 1]?=some u
  rw[←Array.getElem?_toList,←hl]
  exact hu
 refine call_meets F.slot_list_pop ⟨_,e,rfl⟩ F.entry_list_pop (F.args_list_pop_1 _) (MeetsSeq.list_pop_last l its.toArray n u hy' (by rw[zst];omega)) ⟨e,?_⟩
 refine⟨y,_,I.lset (its':=its.dropLast) hH e ?_ r.dropLast ?_,ru,q⟩
 ·show its.toArray.eraseIdxIfInBounds (its.toArray.size - 1)=its.dropLast.toArray
  rw[zst,List.eraseIdxIfInBounds_toArray,zjG]
 ·rw[List.length_dropLast]
  omega
def zm0:V→List V→Hp→VK→Prop:=λx vs H Q=>∃ l xs i k y,x=.ref l∧vs=[.int i]∧H l=some (.lst xs)∧-(2 ^ 63)≤i∧i<2 ^ 63∧seqIndex? i xs.length=some k∧xs[k]?=some y∧Q y (upd H l (.lst (xs.eraseIdx k)))
theorem zl2:MtM X "list.pop" zm0:=by
 intro pins s σ H x vs v us Q I rx rv h
 obtain⟨l,xs,i,k,y,rfl,rfl,hH,h1,h2,hk,hy,q⟩:=h
 cases rx
 obtain⟨u,rfl,ru⟩:=rv.one
 obtain⟨t,rfl⟩:=ru
 obtain⟨z,its,n,r,hl,e⟩:=I.lstM hH
 obtain⟨w,hw,rw'⟩:=r.get hy
 refine call_meets F.slot_list_pop ⟨_,e,rfl⟩ F.entry_list_pop (F.args_list_pop_2 _ _)
  (MeetsSeq.list_pop_at l its.toArray n i t k w (fitsIndex_both h1 h2) (by rw[zst,←hl];exact hk) (by rw[←Array.getElem?_toList];exact hw) (by rw[zst];omega)) ⟨e,?_⟩
 refine⟨y,_,I.lset (its':=its.eraseIdx k) hH e ?_ (r.eraseIdx k) ?_,rw',q⟩
 ·show its.toArray.eraseIdxIfInBounds k=(its.eraseIdx k).toArray
  rw[List.eraseIdxIfInBounds_toArray]
 ·have:=zhg xs k
  omega
def rCat:R2:=λx y H Q=>∃ l b xs zs,x=.ref l∧y=.ref b∧H l=some (.lst xs)∧H b=some (.lst zs)∧xs.length+zs.length≤sizeLine∧∀ p,H p=none→Q (.ref p) (upd H p (.lst (xs++zs)))
theorem zoT:OpR X (binaryOp .Add) rCat:=by
 intro pins s σ H x y v u Q I rx ry h
 obtain⟨l,b,xs,zs,rfl,rfl,hH,hB,hz,q⟩:=h
 cases rx
 cases ry
 obtain⟨z,its,n,r,hl,e⟩:=I.lstM hH
 obtain⟨z2,its2,n2,r2,hl2,e2⟩:=I.lstM hB
 refine PySem.P.add_list e e2 ?_ (by rw[zst,zst];omega)
 have ea:its.toArray++its2.toArray=(its++its2).toArray:=by simp
 rw[ea]
 exact⟨.ref _,_,I.lnew (t':=s.toks) (r.append r2) (by rw[List.length_append];omega),rfl,q _ I.fresh⟩
def rRep:R2:=λx y H Q=>∃ l k xs,x=.ref l∧y=.int k∧H l=some (.lst xs)∧-(2 ^ 63)≤k∧k<2 ^ 63∧xs.length * k.toNat≤sizeLine∧
 ∀ p,H p=none→Q (.ref p) (upd H p (.lst (List.replicate k.toNat xs).flatten))
theorem znE {α:Type}(xs:List α) (k:Nat):(List.replicate k xs).flatten.length=k * xs.length:=by
 induction k with
 | zero=>simp
 | succ k ih=>rw[List.replicate_succ,List.flatten_cons,List.length_append,ih,Nat.succ_mul,Nat.add_comm]
theorem zoU:OpR X (binaryOp .Mult) rRep:=by
 intro pins s σ H x y v u Q I rx ry h
 obtain⟨l,k,xs,rfl,rfl,hH,h1,h2,hz,q⟩:=h
 cases rx
 obtain⟨t,rfl⟩:=ry
 obtain⟨z,its,n,r,hl,e⟩:=I.lstM hH
 have hlen:its.toArray.size * k.toNat≤sizeLine:=by rw[zst,←hl];exact hz
 have hcap:¬ its.toArray.size * k.toNat>(2 ^ 63 - 1) / 8:=by
  have:(sizeLine:Nat)≤(2 ^ 63 - 1) / 8:=by decide
  omega
 have hfit:¬ (!Builtin.List.listFitsIndex k)=true:=by
  rw[fitsIndex_both h1 h2]
  exact Bool.false_ne_true
 have hlong:¬ Builtin.List.listTooLong (its.toArray.size * k.toNat)=true:=by
  rw[zl1 hlen]
  exact Bool.false_ne_true
 have hnew:List.foldl (λx1 x2=>x1++x2) #[] (List.replicate (if its.toArray.isEmpty=true then 0 else k.toNat) its.toArray)=(List.replicate k.toNat its).flatten.toArray:=by
  have f0:∀ m:Nat,List.foldl (λx1 x2=>x1++x2) #[] (List.replicate m its.toArray)=(List.replicate m its).flatten.toArray:=λm=>by
   have:=zhh its m []
   rw[List.nil_append] at this
   exact this
  rw[f0]
  cases its with
  | nil=>simp
  | cons a r'=>rw[if_neg (by simp)]
 refine wpAny_binaryOp_repeat_ref (T:="list") (U:="int") (by decide) ⟨_,e,rfl⟩ (λs'=>typeIs_int s' k t) noFill_list_mul F.fills_int_mul F.slot_int_rmul repeat_list F.slot_int_index.lookup
  (call_meets F.slot_int_rmul (typeIs_int s k t) F.entry_int_rmul (F.args_int_rmul_2 _ _) (int___rmul___int_list k t l its.toArray n)
   ⟨e,rfl,⟨_,e,rfl⟩,call_meets F.slot_list_mul ⟨_,e,rfl⟩ F.entry_list_mul (F.args_list_mul_2 _ _) (AutoListH.list___mul___list_int_3 l its.toArray n k t hfit hcap hlong) ⟨e,?_⟩⟩)
 rw[hnew]
 exact⟨.ref _,_,I.lnew (t':=s.toks) (r.rep k.toNat) (by rw[znE,Nat.mul_comm];exact hz),rfl,q _ I.fresh⟩
end

section
variable {prog : Program} {w : World} {A : Around} {E : Value → Shared → Prop} {s : Shared}
set_option maxRecDepth 100000 in
end

section
variable {X : Cx}
end
end L2
namespace L2
open PySem PySem.Spec PyProof.Rows

section
variable {κ : Type} [DecidableEq κ]
def valV (kvs:List (κ × V)) (k:κ):Option V:=(kvs.find? λkv=>decide (kv.1=k)).map (·.2)
def putK (kvs:List (κ × V)) (k:κ) (v:V):List (κ × V):=
 if (kvs.any λkv=>decide (kv.1=k))=true then kvs.map (λkv=>if kv.1=k then (kv.1,v) else kv) else kvs++[(k,v)]
def zcr (kvs:List (κ × V)) (k:κ):List (κ × V):=kvs.filter λkv=>decide (kv.1≠k)
theorem zbt {p:κ × V}{r:List (κ × V)}{k:κ}(e:p.1=k):valV (p::r) k=some p.2:=by simp[valV,List.find?_cons,e]
theorem zbr {p:κ × V}{r:List (κ × V)}{k:κ}(e:¬ p.1=k):valV (p::r) k=valV r k:=by simp[valV,List.find?_cons,e]
theorem zcu (k:κ):∀ kvs:List (κ × V),(kvs.any λkv=>decide (kv.1=k))=(valV kvs k).isSome
 | []=>rfl
 | p::r=>by
  rw[List.any_cons]
  by_cases e:p.1=k
  ·simp only[zbt e,decide_eq_true e,Bool.true_or,Option.isSome_some]
  ·rw[zbr e,decide_eq_false e,Bool.false_or];exact zcu k r
theorem ziY (k j:κ) (y:V):∀ kvs:List (κ × V),valV (kvs.map λkv=>if kv.1=k then (kv.1,y) else kv) j=(valV kvs j).map λx=>if j=k then y else x
 | []=>rfl
 | p::r=>by
  have ih:=ziY k j y r
  rw[zmc]
  by_cases h:p.1=k
  ·rw[if_pos h]
   by_cases e:p.1=j
   ·rw[zbt (p:=(p.1,y)) e,zbt e,Option.map_some,if_pos (e.symm.trans h)]
   ·rw[zbr (p:=(p.1,y)) e,zbr e,ih]
  ·rw[if_neg h]
   by_cases e:p.1=j
   ·rw[zbt (p:=p) e,zbt e,Option.map_some,if_neg (λz=>h (e.trans z))]
   ·rw[zbr (p:=p) e,zbr e,ih]
theorem zhi (k j:κ) (y:V):∀ kvs:List (κ × V),valV kvs k=none→valV (kvs++[(k,y)]) j=if j=k then some y else valV kvs j
 | [],_=>by
  by_cases e:k=j
  ·rw[if_pos e.symm];exact zbt (p:=(k,y)) e
  ·rw[if_neg (λz=>e z.symm)];exact zbr (p:=(k,y)) e
 | p::r,hn=>by
  rw[List.cons_append]
  have hk:¬ p.1=k:=λz=>by rw[zbt z] at hn;cases hn
  rw[zbr hk] at hn
  have ih:=zhi k j y r hn
  by_cases e:p.1=j
  ·rw[zbt e,zbt e,if_neg (λz=>hk (e.trans z))]
  ·rw[zbr e,zbr e,ih]
theorem ziZ (kvs:List (κ × V)) (k j:κ) (y:V):valV (putK kvs k y) j=if j=k then some y else valV kvs j:=by
 unfold putK
 by_cases a:(kvs.any λkv=>decide (kv.1=k))=true
 ·rw[if_pos a,ziY]
  rw[zcu] at a
  by_cases e:j=k
  ·obtain⟨x,hx⟩:=Option.isSome_iff_exists.mp a
   rw[if_pos e,e,hx,Option.map_some,if_pos rfl]
  ·rw[if_neg e]
   cases valV kvs j with
   | none=>rfl
   | some x=>rw[Option.map_some,if_neg e]
 ·rw[if_neg a]
  refine zhi k j y kvs ?_
  rw[zcu] at a
  cases q:valV kvs k with
  | none=>rfl
  | some x=>rw[q] at a;exact (a rfl).elim
theorem zfa (kvs:List (κ × V)) (k:κ) (v:V):(putK kvs k v).length≤kvs.length+1:=by
 unfold putK
 split
 ·rw[zlm];omega
 ·rw[List.length_append,List.length_cons,List.length_nil];omega
theorem zl3 {kvs:List (κ × V)}{k:κ}(v:V) (h:valV kvs k=none):putK kvs k v=kvs++[(k,v)]:=by
 unfold putK
 rw[zcu,h]
 exact if_neg (by decide)
theorem RelO.isSome_eq {o:Option V}{u:Option Value}(r:RelO o u):o.isSome=u.isSome:=by
 cases o with
 | none=>cases u with
  | none=>rfl
  | some _=>exact (show False from r).elim
 | some _=>cases u with
  | none=>exact (show False from r).elim
  | some _=>rfl
theorem KV.val {kvs:List (κ × V)}{vs:List (κ × Value)}(r:KV kvs vs) (k:κ):RelO (valV kvs k) (valueAt vs k):=by
 unfold KV at r
 induction r with
 | nil=>exact True.intro
 | @cons p q ps qs h t ih=>
  obtain⟨h1,h2⟩:=h
  by_cases e:p.1=k
  ·have e':q.1=k:=h1.symm.trans e
   have b:valueAt (q::qs) k=some q.2:=by simp[valueAt,List.find?_cons,e']
   rw[zbt e,b];exact h2
  ·have e':¬ q.1=k:=λz=>e (h1.trans z)
   have b:valueAt (q::qs) k=valueAt qs k:=by simp[valueAt,List.find?_cons,e']
   rw[zbr e,b];exact ih
theorem KV.any {kvs:List (κ × V)}{vs:List (κ × Value)}(r:KV kvs vs) (k:κ):(kvs.any λkv=>decide (kv.1=k))=vs.any λkv=>decide (kv.1=k):=by
 unfold KV at r
 induction r with
 | nil=>rfl
 | cons h t ih=>rw[List.any_cons,List.any_cons,ih,h.1]
theorem KV.repl {kvs:List (κ × V)}{vs:List (κ × Value)}(r:KV kvs vs) (k:κ) {y:V}{u:Value}(ry:RelV y u) :
  KV (kvs.map λkv=>if kv.1=k then (kv.1,y) else kv) (vs.map λkv=>if kv.1=k then (kv.1,u) else kv):=by
 unfold KV at r ⊢
 induction r with
 | nil=>exact .nil
 | @cons p q ps qs h t ih=>
  rw[zmc,zmc]
  refine .cons ?_ ih
  obtain⟨h1,h2⟩:=h
  by_cases e:p.1=k
  ·rw[if_pos e,if_pos (h1.symm.trans e)];exact⟨h1,ry⟩
  ·rw[if_neg e,if_neg (λz=>e (h1.trans z))];exact⟨h1,h2⟩
theorem KV.put {kvs:List (κ × V)}{vs:List (κ × Value)}(r:KV kvs vs) (k:κ) {y:V}{u:Value}(ry:RelV y u):KV (putK kvs k y) (stored vs k u):=by
 unfold putK stored
 rw[r.any k]
 by_cases e:(vs.any λkv=>decide (kv.1=k))=true
 ·rw[if_pos e,if_pos e];exact r.repl k ry
 ·rw[if_neg e,if_neg e];exact Paired.snoc r ⟨rfl,ry⟩
theorem KV.drop {kvs:List (κ × V)}{vs:List (κ × Value)}(r:KV kvs vs) (k:κ):KV (zcr kvs k) (without vs k):=by
 unfold KV at r ⊢
 unfold zcr without
 induction r with
 | nil=>exact .nil
 | @cons p q ps qs h t ih=>
  obtain⟨h1,h2⟩:=h
  rw[List.filter_cons,List.filter_cons]
  by_cases e:p.1=k
  ·have a:¬ decide (p.1≠k)=true:=by simp[e]
   have b:¬ decide (q.1≠k)=true:=by simp[h1.symm.trans e]
   rw[if_neg a,if_neg b];exact ih
  ·have e':¬ q.1=k:=λz=>e (h1.trans z)
   have a:decide (p.1≠k)=true:=by simp[e]
   have b:decide (q.1≠k)=true:=by simp[e']
   rw[if_pos a,if_pos b];exact .cons ⟨h1,h2⟩ ih
theorem KV.keys {kvs:List (κ × V)}{vs:List (κ × Value)}(r:KV kvs vs):kvs.map (·.1)=vs.map (·.1):=by
 unfold KV at r
 induction r with
 | nil=>rfl
 | cons h t ih=>rw[zmc,zmc,ih,h.1]
theorem KV.length {kvs:List (κ × V)}{vs:List (κ × Value)}(r:KV kvs vs):kvs.length=vs.length:=Paired.length r
theorem zi0 (kvs:List (κ × V)) (k:κ):(zcr kvs k).length≤kvs.length:=List.length_filter_le _ _
end


theorem zhj {P:Program}{w:World}{k:Key}{u:Value}(r:RelV (kV k) u):(zbo P w).is k u=true:=by
 cases k with
 | inl i=>obtain⟨t,e⟩:=(show ∃ t,u=Value.int i t from r);subst e;exact zh3 P w i t
 | inr x=>obtain⟨t,e⟩:=(show ∃ t,u=Value.str x t from r);subst e;exact zh4 P w x t
theorem zhk {P:Program}{w:World} : ∀ {ks:List Key}{us:List Value},Vals (ks.map kV) us→ItemsAre (zbo P w) ks us
 | [],_,r=>by rw[List.map_nil] at r;cases r;exact .nil
 | k::ks,_,r=>by
  rw[zmc] at r
  cases r with
  | cons h t=>exact .cons (zhj h) (zhk t)
abbrev KT (H:Hp):List (List Key × V)→List (List Key × Addr × Value)→Prop:=Paired λp q=>p.1=q.1∧H q.2.1=some (.tup (p.1.map kV))∧RelV p.2 q.2.2
theorem KT.val {H:Hp}{kvs:List (List Key × V)}{xs:List (List Key × Addr × Value)}(r:KT H kvs xs) (k:List Key):RelO (valV kvs k) ((atKey xs k).map (·.2)):=by
 induction r with
 | nil=>exact True.intro
 | @cons p q ps qs h t ih=>
  obtain⟨h1,_,h2⟩:=h
  by_cases e:p.1=k
  ·have e':q.1=k:=h1.symm.trans e
   have b:atKey (q::qs) k=some q.2:=by simp[atKey,List.find?_cons,e']
   rw[zbt e,b];exact h2
  ·have e':¬ q.1=k:=λz=>e (h1.trans z)
   have b:atKey (q::qs) k=atKey qs k:=by simp[atKey,List.find?_cons,e']
   rw[zbr e,b];exact ih
theorem KT.repl {H:Hp}{kvs:List (List Key × V)}{xs:List (List Key × Addr × Value)}(r:KT H kvs xs) (k:List Key) {y:V}{u:Value}(ry:RelV y u) :
  KT H (kvs.map λkv=>if kv.1=k then (kv.1,y) else kv) (xs.map (putAt k u)):=by
 induction r with
 | nil=>exact .nil
 | @cons p q ps qs h t ih=>
  rw[zmc,zmc]
  refine .cons ?_ ih
  obtain⟨h1,h2,h3⟩:=h
  unfold putAt
  by_cases e:p.1=k
  ·rw[if_pos e,if_pos (h1.symm.trans e)];exact⟨h1,h2,ry⟩
  ·rw[if_neg e,if_neg (λz=>e (h1.trans z))];exact⟨h1,h2,h3⟩
theorem KT.put {H:Hp}{kvs:List (List Key × V)}{xs:List (List Key × Addr × Value)}(r:KT H kvs xs) (k:List Key) {b:Addr}{y:V}{u:Value}(hb:H b=some (.tup (k.map kV))) (ry:RelV y u) :
  KT H (putK kvs k y) (storedH xs k b u):=by
 have e:(kvs.any λkv=>decide (kv.1=k))=(atKey xs k).isSome:=by
  rw[zcu,(r.val k).isSome_eq,Option.isSome_map]
 unfold putK storedH
 rw[e]
 by_cases q:(atKey xs k).isSome=true
 ·rw[if_pos q,if_pos q];exact r.repl k ry
 ·rw[if_neg q,if_neg q];exact Paired.snoc r ⟨rfl,hb,ry⟩
theorem KT.keeps {H H':Hp}{kvs:List (List Key × V)}{xs:List (List Key × Addr × Value)}(r:KT H kvs xs) (ht:∀ b ys,H b=some (.tup ys)→H' b=some (.tup ys)):KT H' kvs xs:=
 Paired.mapP r λ_ _ z=>⟨z.1,ht _ _ z.2.1,z.2.2⟩
section
variable {P : Program} {w : World} {H : Hp} {h : Heap} {a : Addr}
theorem zoV {u:HO}(ok:HOk P w H h) (e:Rd H a u):zbA P w H h a u:=e.ok ok
theorem zjH {kvs:List (Key × V)}(ok:HOk P w H h) (e:Rd H a (.dK kvs)):kvs.length≤sizeLine∧(a == sysModules)=false∧∃ vs,KV kvs vs∧h.DictOf (zbo P w) a vs:=
 show zbA P w H h a (.dK kvs) from zoV ok e
theorem zjI {kvs:List (Key × V)}(ok:HOk P w H h) (e:H a=some (.dK kvs)):kvs.length≤sizeLine∧(a == sysModules)=false∧∃ vs,KV kvs vs∧h.DictOf (zbo P w) a vs:=zjH ok (.inl e)
theorem zhl {ks:List Key}(ok:HOk P w H h) (e:H a=some (.tup (ks.map kV))):(tupleKind (zbo P w)).is h ks a:=by
 obtain⟨_,its,r,o,h1,h2,n,h3⟩:=(show zbA P w H h a (.tup (ks.map kV)) from ok a _ e)
 exact⟨o,its.toArray,n,h1,h2,h3,by simpa using zhk r⟩
theorem zjJ {kvs:List (List Key × V)}(ok:HOk P w H h) (e:Rd H a (.dT kvs)):kvs.length≤sizeLine∧(a == sysModules)=false∧
  ∃ xs,KT H kvs xs∧h.DictOfH (tupleKind (zbo P w)) a xs:=by
 obtain⟨z,y,xs,r,o,es,ep,h1,h2,h3,h4,h5⟩:=(show zbA P w H h a (.dT kvs) from zoV ok e)
 refine⟨z,y,xs,r,o,es,ep,h1,h2,h3,h4,λx hx=>?_,h5⟩
 have all:∀ {l:List (List Key × V)}{m:List (List Key × Addr × Value)},KT H l m→∀ x∈m,(tupleKind (zbo P w)).is h x.1 x.2.1:=by
  intro l m q
  induction q with
  | nil=>intro x hx;exact nomatch hx
  | @cons p q ps qs hq t ih=>
   intro x hx
   rcases List.mem_cons.mp hx with e | hx
   ·subst e
    exact zhl ok (by rw[←hq.1];exact hq.2.1)
   ·exact ih x hx
 exact all r x hx
theorem dt_of {kvs:List (List Key × V)}(ok:HOk P w H h) (e:H a=some (.dT kvs)):kvs.length≤sizeLine∧(a == sysModules)=false∧
  ∃ xs,KT H kvs xs∧h.DictOfH (tupleKind (zbo P w)) a xs:=zjJ ok (.inl e)
end

def DGet (H:Hp) (a:Addr) (y:V) (r:Option V):Prop:=
 (∃ kvs k,Rd H a (.dK kvs)∧y=kV k∧r=valV kvs k)∨∃ kvs k b,Rd H a (.dT kvs)∧y=.ref b∧H b=some (.tup (k.map kV))∧r=valV kvs k
def DPut (H:Hp) (a:Addr) (y v:V) (H':Hp):Prop:=
 (∃ kvs k,H a=some (.dK kvs)∧y=kV k∧kvs.length<sizeLine∧H'=upd H a (.dK (putK kvs k v)))∨
 ∃ kvs k b,H a=some (.dT kvs)∧y=.ref b∧H b=some (.tup (k.map kV))∧kvs.length<sizeLine∧H'=upd H a (.dT (putK kvs k v))
theorem DGet.k {H:Hp}{a:Addr}{kvs:List (Key × V)}{k:Key}(e:H a=some (.dK kvs)):DGet H a (kV k) (valV kvs k):=.inl ⟨kvs,k,.inl e,rfl,rfl⟩
theorem DPut.k {H:Hp}{a:Addr}{kvs:List (Key × V)}{k:Key}{v:V}(e:H a=some (.dK kvs)) (hl:kvs.length<sizeLine):DPut H a (kV k) v (upd H a (.dK (putK kvs k v))):=.inl ⟨kvs,k,e,rfl,hl,rfl⟩
section
variable {X : Cx} {pins : List (Addr × Obj)} {σ : St} {H : Hp} {s : Shared} {a : Addr} {y v : V} {u r : Value} {o : Option V} {A : Around} {E : Value → Shared → Prop}

theorem Inv.big (I:Inv X pins σ H s):sysModules<s.heap.objs.size:=by
 have h:mainGlobals<s.heap.objs.size:=(I.mod.glob.keeps I.bk).lt
 exact Nat.lt_trans (by decide) h
theorem zkI {Q:Value→Shared→Prop}(hu:A.units+1<cLine) (I:Inv X pins σ H s) (g:DGet H a y (some v)) (ry:RelV y u) (h:∀ w' s',Inv X pins σ H s'→RelV v w'→Q w' s') :
  wpAny (model X.prog X.w) A (getItem (.ref a) u) Q E s:=by
 rcases g with ⟨kvs,k,e,ey,l⟩ | ⟨kvs,k,b,e,ey,eb,l⟩
 ·subst ey
  obtain⟨z,hd,vs,rel,dd⟩:=zjH I.hok e
  obtain⟨w',hw,rw'⟩:=RelO.some_of (v:=v) (o:=valueAt vs k) (by rw[l];exact rel.val k)
  exact wpAny_getItem_of (zhj ry) dd.mapOf hw (h w' _ (I.tok _) rw')
 ·subst ey
  cases (show u=Value.ref b from ry)
  obtain⟨z,hd,xs,rel,dd⟩:=zjJ I.hok e
  obtain⟨w',hw,rw'⟩:=RelO.some_of (v:=v) (o:=(atKey xs k).map (·.2)) (by rw[l];exact rel.val k)
  obtain⟨p,hp,hp2⟩:=zme.mp hw
  refine wpAny_getItem_heap (tupleKind_room_in1 hu) (zhl I.hok eb) dd hp ?_
  rw[hp2]
  exact h w' _ (I.tok _) rw'
theorem d_in {Q:Value→Shared→Prop}(hu:A.units+1<cLine) (I:Inv X pins σ H s) (g:DGet H a y o) (ry:RelV y u) (h:∀ s',Inv X pins σ H s'→Q (.bool o.isSome) s') :
  wpAny (model X.prog X.w) A (compareOp .In u (.ref a)) Q E s:=by
 rcases g with ⟨kvs,k,e,ey,l⟩ | ⟨kvs,k,b,e,ey,eb,l⟩
 ·subst ey
  obtain⟨z,hd,vs,rel,dd⟩:=zjH I.hok e
  refine wpAny_in_of (zhj ry) hd dd.mapOf ?_
  rw[←(rel.val k).isSome_eq,←l]
  exact h _ (I.tok _)
 ·subst ey
  cases (show u=Value.ref b from ry)
  obtain⟨z,hd,xs,rel,dd⟩:=zjJ I.hok e
  refine wpAny_in_heap (tupleKind_room_in1 hu) (zhl I.hok eb) hd dd ?_
  have q:=(rel.val k).isSome_eq
  rw[Option.isSome_map] at q
  rw[←q,←l]
  exact h _ (I.tok _)
theorem znF {Q:Value→Shared→Prop}(hu:A.units+1<cLine) (I:Inv X pins σ H s) (g:DGet H a y o) (ry:RelV y u) (h:∀ s',Inv X pins σ H s'→Q (.bool (!o.isSome)) s') :
  wpAny (model X.prog X.w) A (compareOp .NotIn u (.ref a)) Q E s:=by
 rcases g with ⟨kvs,k,e,ey,l⟩ | ⟨kvs,k,b,e,ey,eb,l⟩
 ·subst ey
  obtain⟨z,hd,vs,rel,dd⟩:=zjH I.hok e
  refine wpAny_notIn_of (zhj ry) hd dd.mapOf ?_
  rw[←(rel.val k).isSome_eq,←l]
  exact h _ (I.tok _)
 ·subst ey
  cases (show u=Value.ref b from ry)
  obtain⟨z,hd,xs,rel,dd⟩:=zjJ I.hok e
  refine wpAny_notIn_heap (tupleKind_room_in1 hu) (zhl I.hok eb) hd dd ?_
  have q:=(rel.val k).isSome_eq
  rw[Option.isSome_map] at q
  rw[←q,←l]
  exact h _ (I.tok _)
theorem zgD {h':Heap}{t':Nat}{ob:HO}(I:Inv X pins σ H s) (mu:Mut (H a)) (hs:Heap.SameBut a s.heap h') (he:∃ q,h'.get? a=some q) (new:zbA X.prog X.w (upd H a ob) h' a ob) :
  Inv X pins σ (upd H a ob) {s with heap:=h',toks:=t'}:=
 I.write (x:=a) (e:=a) mu (.inl rfl) (λb q hb z=>(hs.2 b hb).trans z) he new
theorem zkJ {P:Program}{w:World}{H':Hp}{h':Heap}{kvs:List (Key × V)}{vs:List (Key × Value)}(z:kvs.length≤sizeLine) (hd:(a == sysModules)=false) (rel:KV kvs vs) (dd:h'.DictOf (zbo P w) a vs) :
  zbA P w H' h' a (.dK kvs):=⟨z,hd,vs,rel,dd⟩
theorem zkK {H':Hp}{Q:Unit→Shared→Prop}(hu:A.units+1<cLine) (I:Inv X pins σ H s) (g:DPut H a y v H') (ry:RelV y u) (rv:RelV v r) (h:∀ s',Inv X pins σ H' s'→Q () s') :
  wpAny (model X.prog X.w) A (setItem (.ref a) u r) Q E s:=by
 rcases g with ⟨kvs,k,e,ey,l,eH⟩ | ⟨kvs,k,b,e,ey,eb,l,eH⟩
 ·subst ey eH
  obtain⟨z,hd,vs,rel,dd⟩:=zjI I.hok e
  have hz:vs.length≤sizeLine:=by rw[←rel.length];exact z
  have hl:(putK kvs k v).length≤sizeLine:=by have:=zfa kvs k v;omega
  refine wpAny_setItem_pairs (hsz:=hz) (zhj ry) dd λh' dd' hs=>h _ ?_
  have he:∃ q,h'.get? a=some q:=let ⟨q,_,_,hq,_⟩:=dd';⟨q,hq⟩
  exact zgD I (by rw[e];exact True.intro) hs he (zkJ hl hd (rel.put k rv) dd')
 ·subst ey eH
  cases (show u=Value.ref b from ry)
  obtain⟨z,hd,xs,rel,dd⟩:=dt_of I.hok e
  have hz:xs.length≤sizeLine:=by rw[←Paired.length rel];exact z
  have hl:(putK kvs k v).length≤sizeLine:=by have:=zfa kvs k v;omega
  refine wpAny_setItem_heap (hsz:=hz) (tupleKind_room_in1 hu) (zhl I.hok eb) dd λh' dd' hs=>h _ ?_
  obtain⟨q,es,ep,hq,h2,h3,h4,_,h5⟩:=dd'
  refine zgD I (by rw[e];exact True.intro) hs ⟨q,hq⟩ ⟨hl,hd,_,(rel.put k eb rv).keeps λc ys ec=>?_,q,es,ep,hq,h2,h3,h4,h5⟩
  rw[zak (zjs ec e (λz=>nomatch z))]
  exact ec
end

section
variable {X : Cx} {pins : List (Addr × Obj)} {σ : St} {H : Hp} {s : Shared} {a : Addr} {kvs : List (Key × V)} {k : Key} {u : Value} {A : Around} {E : Value → Shared → Prop}
theorem zoW {Q:Unit→Shared→Prop}(I:Inv X pins σ H s) (e:H a=some (.dK kvs)) (ry:RelV (kV k) u) (l:(valV kvs k).isSome=true) (h:∀ s',Inv X pins σ (upd H a (.dK (zcr kvs k))) s'→Q () s') :
  wpAny (model X.prog X.w) A (delItem (.ref a) u) Q E s:=by
 obtain⟨z,hd,vs,rel,dd⟩:=zjI I.hok e
 refine wpAny_delItem_slot dd.typeIs (by decide) PySem.F.slot_dict_delitem
  (call_meetsIn PySem.F.slot_dict_delitem dd.typeIs PySem.F.entry_dict_delitem (PySem.F.args_dict_delitem_2 _ _) (meets_dict_delitem_pairs (zbo X.prog X.w) a (zhj ry)) ⟨vs,dd,by rw[←rel.length];exact z,by rw[←(rel.val k).isSome_eq];exact l,λh' dd' hs=>h _ ?_⟩)
 have he:∃ q,h'.get? a=some q:=let ⟨q,_,_,hq,_⟩:=dd';⟨q,hq⟩
 exact zgD I (by rw[e];exact True.intro) hs he (zkJ (Nat.le_trans (zi0 kvs k) z) hd (rel.drop k) dd')
theorem zoX {v:V}{more:List Value}{Q:Value→Shared→Prop}(I:Inv X pins σ H s) (e:H a=some (.dK kvs)) (ry:RelV (kV k) u) (l:valV kvs k=some v) (hm:more=[]∨∃ x,more=[x])
  (h:∀ w' s',Inv X pins σ (upd H a (.dK (zcr kvs k))) s'→RelV v w'→Q w' s'):wpAny (model X.prog X.w) A (call (.builtin "dict.pop") (.ref a::u::more)) Q E s:=by
 obtain⟨z,hd,vs,rel,dd⟩:=zjI I.hok e
 obtain⟨w',hw,rw'⟩:=RelO.some_of (v:=v) (o:=valueAt vs k) (by rw[←l];exact rel.val k)
 have hp:(keyPart u).isSome=true:=by
  cases k with
  | inl i=>obtain⟨t,q⟩:=(show ∃ t,u=Value.int i t from ry);subst q;rfl
  | inr x=>obtain⟨t,q⟩:=(show ∃ t,u=Value.str x t from ry);subst q;rfl
 have ha:argsOk "dict.pop" ⟨.ref a::u::more,[]⟩:=by
  rcases hm with q | ⟨x,q⟩
  ·subst q;exact PySem.F.args_dict_pop_2 _ _
  ·subst q;exact PySem.F.args_dict_pop_3 _ _ _
 refine call_meetsIn PySem.F.slot_dict_pop dd.typeIs PySem.F.entry_dict_pop ha (meets_dict_pop_there (zbo X.prog X.w) a (zhj ry) more hm hp)
  ⟨vs,w',dd,by rw[←rel.length];exact z,hw,λh' dd' hs=>h w' _ ?_ rw'⟩
 have he:∃ q,h'.get? a=some q:=let ⟨q,_,_,hq,_⟩:=dd';⟨q,hq⟩
 exact zgD I (by rw[e];exact True.intro) hs he (zkJ (Nat.le_trans (zi0 kvs k) z) hd (rel.drop k) dd')
theorem zoY {r:Value}{Q:Value→Shared→Prop}(I:Inv X pins σ H s) (e:H a=some (.dK kvs)) (ry:RelV (kV k) u) (l:valV kvs k=none) (h:∀ s',Inv X pins σ H s'→Q r s') :
  wpAny (model X.prog X.w) A (call (.builtin "dict.pop") [.ref a,u,r]) Q E s:=by
 obtain⟨z,hd,vs,rel,dd⟩:=zjI I.hok e
 have hn:valueAt vs k=none:=RelO.none_of (by rw[←l];exact rel.val k)
 have hp:(keyPart u).isSome=true:=by
  cases k with
  | inl i=>obtain⟨t,q⟩:=(show ∃ t,u=Value.int i t from ry);subst q;rfl
  | inr x=>obtain⟨t,q⟩:=(show ∃ t,u=Value.str x t from ry);subst q;rfl
 exact call_meetsIn PySem.F.slot_dict_pop dd.typeIs PySem.F.entry_dict_pop (PySem.F.args_dict_pop_3 _ _ _) (meets_dict_pop_default (zbo X.prog X.w) a (zhj ry) hd hp r) ⟨vs,dd,hn,h _ (I.tok _)⟩
end


def NoSl (i:Expr):Prop:=∀ ov iv,subscripted i false ov iv=operate [ov,iv] (getItem ov iv)
theorem znG {prog:Program}{w:World}{A:Around}{E:Value→Shared→Prop}{s:Shared}{env:Env}{value slice:Expr}{pos:Pos}{T id:String}{Q:Value→Shared→Prop}
  (hl:typeLookup (.type T) "__getitem__"=pure (some (.builtin id))) (hs:NoSl slice)
  (h:wpAny (model prog w) A (eval value env) (λo s₁=>wpAny (model prog w) A (eval slice env) (λi s₂=>s₂.TypeIs o T∧wpAny (model prog w) A (getItem o i) Q E s₂) E s₁) E s) :
  wpAny (model prog w) A (eval (.Subscript value slice pos) env) Q E s:=by
 refine Subscript_ (wpAny_mono h (λo s₁ h₁=>wpAny_mono h₁ (λi s₂ h₂=>?_) λ_ _ x=>x) λ_ _ x=>x)
 obtain⟨hT,h₂⟩:=h₂
 unfold subscriptTail
 refine wpAny_bind ?_
 rw[getitemInPython_of_ne hT.not_modules]
 refine wpAny_bind (wpAny_specialOf hT hl ?_)
 have fin:wpAny (model prog w) A (subscripted slice false o i) (λr s₃=>wpAny (model prog w) A (letTemporaryGo value o r >>= λ_=>pure r) Q E s₃) E s₂:=by
  rw[hs o i]
  exact wpAny_operating (wpAny_mono h₂ (λr s₃ h₃=>wpAny_bind (wpAny_letTemporaryGo (wpAny_pure h₃))) λ_ _ x=>x)
 first
  | exact wpAny_pure (wpAny_bind fin)
  | exact wpAny_bind (wpAny_pure (wpAny_bind fin))
  | exact wpAny_bind fin
theorem zh9 {X:Cx}{pins:List (Addr × Obj)}{σ:St}{H:Hp}{s:Shared}{a:Addr}{y:V}{o:Option V}(I:Inv X pins σ H s) (g:DGet H a y o):s.TypeIs (.ref a) "dict":=by
 rcases g with ⟨kvs,k,e,_,_⟩ | ⟨kvs,k,b,e,_,_,_⟩
 ·obtain⟨_,_,vs,_,dd⟩:=zjH I.hok e
  exact dd.typeIs
 ·obtain⟨_,_,xs,_,dd⟩:=zjJ I.hok e
  exact dd.typeIs
def zoZ (td ty:TE):TE:=λσ H Q=>td σ H λx H1=>ty σ H1 λy H2=>∃ a v,x=.ref a∧DGet H2 a y (some v)∧Q v H2
def tDIn (ty td:TE):TE:=λσ H Q=>ty σ H λy H1=>td σ H1 λx H2=>∃ a o,x=.ref a∧DGet H2 a y o∧Q (.bl o.isSome) H2
def zkL (ty td:TE):TE:=λσ H Q=>ty σ H λy H1=>td σ H1 λx H2=>∃ a o,x=.ref a∧DGet H2 a y o∧Q (.bl (!o.isSome)) H2
def zo0 (td ty tv:TE):TS:=λD σ H=>tv σ H λv H1=>td σ H1 λx H2=>ty σ H2 λy H3=>∃ a H4,x=.ref a∧DPut H3 a y v H4∧D.nx σ H4
section
variable {X : Cx} {o i e value : Expr} {pos pos' tpos : Pos} {td ty tv : TE}
theorem zel (hu:X.A.units+1<cLine) (ho:PE X o td) (hi:PE X i ty) (hs:NoSl i):PE X (.Subscript o i pos) (zoZ td ty):=by
 intro pins s σ H Q I h
 refine znG PySem.F.slot_dict_getitem.lookup hs (thn (ho pins s σ H _ I h) λu s1 ⟨x,H1,I1,rx,q1⟩=>thn (hi pins s1 σ H1 _ I1 q1) λiv s2 ⟨y,H2,I2,ry,a,v,ex,g,q2⟩=>?_)
 subst ex
 obtain rfl:u=Value.ref a:=rx
 exact⟨zh9 I2 g,zkI hu I2 g ry λw' s3 I3 rw'=>⟨v,H2,I3,rw',q2⟩⟩
theorem zm1 (hu:X.A.units+1<cLine) (hi:PE X i ty) (ho:PE X o td):PC X .In i o (tDIn ty td):=by
 intro pins s σ H Q I h
 refine thn (hi pins s σ H _ I h) λiv s1 ⟨y,H1,I1,ry,q1⟩=>thn (ho pins s1 σ H1 _ I1 q1) λu s2 ⟨x,H2,I2,rx,a,ov,ex,g,q2⟩=>?_
 subst ex
 obtain rfl:u=Value.ref a:=rx
 exact d_in hu I2 g ry λs3 I3=>⟨.bl ov.isSome,H2,I3,rfl,q2⟩
theorem zfb (hu:X.A.units+1<cLine) (hi:PE X i ty) (ho:PE X o td):PC X .NotIn i o (zkL ty td):=by
 intro pins s σ H Q I h
 refine thn (hi pins s σ H _ I h) λiv s1 ⟨y,H1,I1,ry,q1⟩=>thn (ho pins s1 σ H1 _ I1 q1) λu s2 ⟨x,H2,I2,rx,a,ov,ex,g,q2⟩=>?_
 subst ex
 obtain rfl:u=Value.ref a:=rx
 exact znF hu I2 g ry λs3 I3=>⟨.bl (!ov.isSome),H2,I3,rfl,q2⟩
theorem zkM (hu:X.A.units+1<cLine) (ho:PE X o td) (hi:PE X i ty) (hv:PE X value tv) (hs:swapsWith value (some (.Subscript o i pos')) pos.line X.env=pure false) :
  PS X (.Assign [.Subscript o i pos'] value pos) (zo0 td ty tv):=by
 intro pins s σ H D I h
 refine wpAny_Assign_Subscript (thn (hv pins s σ H _ I h) λr s1 ⟨v,H1,I1,rv,q1⟩=>thn (ho pins s1 σ H1 _ I1 q1) λu s2 ⟨x,H2,I2,rx,q2⟩=>thn (hi pins s2 σ H2 _ I2 q2) λiv s3 ⟨y,H3,I3,ry,a,H4,ex,g,q3⟩=>?_) hs
 subst ex
 obtain rfl:u=Value.ref a:=rx
 exact zkK hu I3 g ry rv λs4 I4=>⟨σ,H4,I4,q3⟩
end


theorem zl4 {P:Program}{w:World}{H:Hp}(h:Heap) (hb:sysModules<h.objs.size):zbA P w H (h.push {cls:=.type "dict",data:=.dict #[]}) h.objs.size (.dK []):=
 ⟨Nat.zero_le _,beq_eq_false_iff_ne.mpr (Ne.symm (Nat.ne_of_lt hb)),[],.nil,Heap.DictOf.new h⟩
def zm2:TE:=λ_ H Q=>∀ p,H p=none→Q (.ref p) (upd H p (.dK []))
section
variable {X : Cx} {pos : Pos}
theorem zgE:PE X (.Dict [] [] pos) zm2:=λpins s σ H Q I h=>
 wpAny_Dict_empty ⟨.ref s.heap.objs.size,_,I.laid (a:=s.heap.objs.size) (o:=.dK []) (t':=s.toks) (λ_ _ q=>Heap.get?_push_of_some _ q) (Nat.le_refl _) (zl4 s.heap I.big),rfl,h _ (I.hok.fresh (Nat.le_refl _))⟩
end

structure M1 (X:Cx) (o:Expr) (m:Str) (apos:Pos) (e:Expr) (cpos:Pos):Prop where
 base:attributeBase o m X.env (eval o X.env)=eval o X.env
 few:((backTo cpos (starEach [e] X.env)).all (λx=>!x.1) && (backToKw cpos (keywordEach [] X.env)).all (λx=>x.1.isSome)
  && decide (([e]:List Expr).length+([]:List Keyword).length+(if ([]:List Keyword).isEmpty then 0 else 1)<30))=true
 line:(apos.endLine == cpos.line)=true
 trees:backTo cpos (starEach [e] X.env)=[(false,eval e X.env)]
structure M2 (X:Cx) (o:Expr) (m:Str) (apos:Pos) (e f:Expr) (cpos:Pos):Prop where
 base:attributeBase o m X.env (eval o X.env)=eval o X.env
 few:((backTo cpos (starEach [e,f] X.env)).all (λx=>!x.1) && (backToKw cpos (keywordEach [] X.env)).all (λx=>x.1.isSome)
  && decide (([e,f]:List Expr).length+([]:List Keyword).length+(if ([]:List Keyword).isEmpty then 0 else 1)<30))=true
 line:(apos.endLine == cpos.line)=true
 trees:backTo cpos (starEach [e,f] X.env)=[(false,eval e X.env),(false,eval f X.env)]
def IsD (H:Hp) (a:Addr):Prop:=(∃ kvs,Rd H a (.dK kvs))∨∃ kvs,Rd H a (.dT kvs)
theorem zm3 {X:Cx}{pins:List (Addr × Obj)}{σ:St}{H:Hp}{s:Shared}{a:Addr}(I:Inv X pins σ H s) (d:IsD H a) :
  s.TypeIs (.ref a) "dict" ∧(∀ b,Value.ref a=.ref b→∃ ob,s.heap.get? b=some ob∧ob.dict=none)∧(a == sysModules)=false:=by
 rcases d with ⟨kvs,e⟩ | ⟨kvs,e⟩
 ·obtain⟨_,hd,vs,_,dd⟩:=zjH I.hok e
  refine⟨dd.typeIs,λb q=>?_,hd⟩
  cases q
  obtain⟨ob,_,_,h1,h2,_⟩:=dd
  exact⟨ob,h1,h2.2.1⟩
 ·obtain⟨_,hd,xs,_,dd⟩:=zjJ I.hok e
  refine⟨dd.typeIs,λb q=>?_,hd⟩
  cases q
  obtain⟨ob,_,_,h1,h2,_⟩:=dd
  exact⟨ob,h1,h2.2.1⟩
section
variable {X : Cx} {pins : List (Addr × Obj)} {σ : St} {H : Hp} {s : Shared} {a : Addr} {y d : V} {u r : Value} {o : Option V} {A : Around} {E : Value → Shared → Prop}
end

def zm4 (td ty:TE):TE:=λσ H Q=>td σ H λx H1=>∃ a,x=.ref a∧IsD H1 a∧ty σ H1 λy H2=>∃ kvs k v,H2 a=some (.dK kvs)∧y=kV k∧valV kvs k=some v∧Q v (upd H2 a (.dK (zcr kvs k)))
def zm5 (td ty tx:TE):TE:=λσ H Q=>td σ H λx H1=>∃ a,x=.ref a∧IsD H1 a∧ty σ H1 λy H2=>tx σ H2 λz H3=>∃ kvs k,H3 a=some (.dK kvs)∧y=kV k∧
 (∀ v,valV kvs k=some v→Q v (upd H3 a (.dK (zcr kvs k))))∧(valV kvs k=none→Q z H3)
section
variable {X : Cx} {o e f : Expr} {apos cpos : Pos} {td ty tx : TE}
theorem zl5 (ho:PE X o td) (he:PE X e ty) (m:M1 X o "pop" apos e cpos):PE X (.Call (.Attribute o "pop" apos) [e] [] cpos) (zm4 td ty):=by
 intro pins s σ H Q I h
 refine wpAny_Call_method m.base m.few m.line PySem.F.plainAttrs_dict PySem.F.slot_dict_pop PySem.F.type_dict_pop (thn (ho pins s σ H _ I h) λu s1 ⟨x,H1,I1,rx,a,ex,d,q1⟩=>?_)
 subst ex
 obtain rfl:u=Value.ref a:=rx
 obtain⟨t1,t2,_⟩:=zm3 I1 d
 refine⟨t1,t2,?_⟩
 rw[m.trees]
 refine Calls.callWith_builtin rfl (Calls.evalArgs_plain (Calls.spliced_cons (thn (he pins s1 σ H1 _ I1 q1) λiv s2 ⟨y,H2,I2,ry,kvs,k,v,ea,ey,l,q2⟩=>Calls.spliced_nil ?_)))
 subst ey
 exact zoX I2 ea ry l (.inl rfl) λw' s3 I3 rw'=>⟨v,_,I3,rw',q2⟩
theorem zl6 (ho:PE X o td) (he:PE X e ty) (hf:PE X f tx) (m:M2 X o "pop" apos e f cpos):PE X (.Call (.Attribute o "pop" apos) [e,f] [] cpos) (zm5 td ty tx):=by
 intro pins s σ H Q I h
 refine wpAny_Call_method m.base m.few m.line PySem.F.plainAttrs_dict PySem.F.slot_dict_pop PySem.F.type_dict_pop (thn (ho pins s σ H _ I h) λu s1 ⟨x,H1,I1,rx,a,ex,d,q1⟩=>?_)
 subst ex
 obtain rfl:u=Value.ref a:=rx
 obtain⟨t1,t2,_⟩:=zm3 I1 d
 refine⟨t1,t2,?_⟩
 rw[m.trees]
 refine Calls.callWith_builtin rfl (Calls.evalArgs_plain (Calls.spliced_cons (thn (he pins s1 σ H1 _ I1 q1) λiv s2 ⟨y,H2,I2,ry,q2⟩=>
  Calls.spliced_cons (thn (hf pins s2 σ H2 _ I2 q2) λfv s3 ⟨z,H3,I3,rz,kvs,k,ea,ey,q3,q4⟩=>Calls.spliced_nil ?_))))
 subst ey
 cases l:valV kvs k with
 | some v=>exact zoX I3 ea ry l (.inr ⟨fv,rfl⟩) λw' s4 I4 rw'=>⟨v,_,I4,rw',q3 v l⟩
 | none=>exact zoY I3 ea ry l λs4 I4=>⟨z,H3,I4,rz,q4 l⟩
end

section
variable {X : Cx} {pins : List (Addr × Obj)} {σ : St} {H : Hp} {s : Shared} {a : Addr} {kvs : List (Key × V)} {A : Around} {E : Value → Shared → Prop}
end


section
variable {X : Cx} {pins : List (Addr × Obj)} {σ : St} {H : Hp} {s : Shared} {a : Addr} {y : V} {u : Value} {A : Around} {E : Value → Shared → Prop}
end
end L2

namespace Att
open PySem PySem.W PySem.Calls PyProof.Rows

theorem zfc {P:Params}{h:Heap} : ∀ (ns:List Int) (vs:List Value),WellAll P h vs (ns.map WData.int)→IntsAre vs ns:=by
 intro ns
 induction ns with
 | nil=>
  intro vs w
  rw[List.map_nil] at w
  cases w
  exact .nil
 | cons n ns ih=>
  intro vs w
  rw[zmc] at w
  cases w with
  | cons a b=>
   cases a
   exact .cons _ _ (ih _ b)
theorem zkN {l:OpenLaw}{n:Nat}(hn:l.most=some n) {P:Params}{h:Heap}{args:List WData}{vals:List Value}
  (hpre:l.row.toRowW.claim.pre args=true) (hwl:WellAll P h vals args) :
  ∃ a vs ns,vals=[Value.ref a]∧args=[WData.list (ns.map WData.int)]∧h.get? a=some {cls:=.type "list",data:=.seq vs.toArray}∧IntsAre vs ns∧ns.length≤n:=by
 have hsh:WShape.hasAll [] args [.list .int]=true:=(pre_splitW hpre).1
 have hc:l.pre.holds [] {args:=args}=true:=(pre_splitW hpre).2
 obtain⟨d,r,rfl,h1,h2⟩:=hasAllW_cons hsh
 obtain rfl:=hasAllW_nil h2
 obtain⟨xs,rfl,h3⟩:=hasW_list h1
 obtain⟨ns,rfl⟩:=items_int h3
 have hlen:ns.length≤n:=by
  unfold OpenLaw.pre at hc
  have h4:(WTm.not (.lt (.lit (.int (n:Int))) (.len (.arg 0)))).holds [] {args:=[.list (ns.map .int)]}=true:=by
   have h4:=(holds_andW hc).1
   rw[hn] at h4
   exact h4
  have h5:=condW_of h4 (w_not (w_lt w_lit (w_len_list (w_arg rfl))))
  rw[zlm] at h5
  refine Nat.le_of_not_lt λq=>?_
  have q':(n:Int)<((ns.length:Nat):Int):=by omega
  first
   | (rw[decide_eq_true q'] at h5;exact absurd h5 (by decide))
   | (simp at h5;omega)
 cases hwl with
 | cons w1 w2=>
  cases w2
  cases w1 with
  | list ho hall=>exact⟨_,_,ns,rfl,rfl,ho,zfc ns _ hall,hlen⟩
theorem zkO (l:OpenLaw) (args:List WData):l.row.toRowW.claim.post args (.bool true) args=true:=
 postW_of (r:=l.row.toRowW) (X:=(true == true))
  (show WShape.has [] (.bool true) .bool=true by first | rfl | decide | simp[WShape.has,WShape.arms,WShape.armsAll])
  (show (WTm.eq .res (.lit (.bool true))).value [] {args:=args,res:=some (.bool true),after:=args}=some (.bool (true == true)) from w_eq_bool (w_res rfl) w_lit) rfl
theorem attach_call {l:OpenLaw}{n:Nat}{q:Program}{loose:List Str}{XP:(Str→Option Value)→Heap→Prop}{YP:World→Heap→Prop}{d:DefRec}
  (hn:l.most=some n) (hdf:d.params.defaults=[])
  (call:∀ (w:World) (s₀ s₁:Shared) (mg mb:Str→Option Value) (fa:Addr) (o:Obj) (pm cd doc:Value) (a:Addr) (vs:List Value) (ns:List Int),
   Ground q loose [] XP w s₀ mg mb s₁.heap→YP w s₁.heap→
   s₁.heap.get? fa=some o→o.data=.func (docDef d.name d.params d.body d.scope pm cd doc)→s₁.heap.CodeRec cd d.name→mg d.name=some (.ref fa)→
   s₁.heap.get? a=some {cls:=.type "list",data:=.seq vs.toArray}→IntsAre vs ns→ns.length≤n→s₁.gens=#[]→
   codeAny (model l.prog w) callerA (.call (.ref fa) ⟨[.ref a],[]⟩) (λr s'=>r=.ok (.ret (.bool true))∧OldK s₁.heap s'.heap∧s'.os=s₁.os∧AllBare s'.gens) s₁) :
  WalkO q loose XP YP l.row.toRowW d [] (λf vs=>PySem.call f vs):=by
 intro w s₀ s₁ mg mb G Y fa o pm cd doc dV kV ho hd hcd hD hmg hg args vals as hpre hlay hrd hwl hlo
 obtain rfl:dV=.none:=Dflts.none hD hdf
 obtain rfl:kV=.none:=Dflts.noKw hD
 obtain⟨a,vs,ns,rfl,rfl,hobj,hints,hlen⟩:=zkN hn hpre hwl
 refine enter_call (codeAny_mono (call w s₀ s₁ mg mb fa o pm cd doc a vs ns G Y ho (fd_plain hd) hcd hmg hobj hints hlen hg) λr s' hq=>?_)
 obtain⟨rfl,h2,h3,h4⟩:=hq
 exact⟨.inl ⟨.bool true,.bool true,[],rfl,λ_=>rfl,.bool true,zkO l _,λ_=>⟨List.Pairwise.nil,λ_ hm=>(nomatch hm)⟩⟩,h2,h3,h4⟩
section
variable {prog : Program} {w : World} {A : Around} {E : Value → Shared → Prop} {s : Shared} {K : Frag}

end
end Att

namespace L2
open PySem PySem.Spec PyProof.Rows

theorem zfd:∀ {vs:List Value}{ns:List Int},IntsAre vs ns→Vals (ns.map V.int) vs
 | _,_,.nil=>.nil
 | _,_,.cons n t h=>.cons ⟨t,rfl⟩ (zfd h)
def Only (H:Hp):Prop:=∀ b,H b=none∨∃ o xs,H b=some (.frz o (.lst xs))
theorem zl7 {P:Program}{w:World}{K:Fg}{mg mb:Str→Option Value}{CX:CXT}{k:Nat}{fa a:Addr}{fd:FuncData}{x:Str}{sp:Sp}{s₁:Shared}{vs:List Value}{ns:List Int}
  (KX:K.In s₁.heap) (hns:s₁.heap.Ns mainGlobals mg) (hb:s₁.heap.Ns builtinsNs mb) (hbb:∀ x:Str,x≠ "__name__" →mb x=bootBuiltins x) (hlim:s₁.heap.NoLimit) (hg:s₁.gens=#[])
  (ha:s₁.heap.get? a=some {cls:=.type "list",data:=.seq vs.toArray}) (hi:IntsAre vs ns) (hl:ns.length≤sizeLine) (hr:Room k callerA)
  (F:∀ base:Heap,K.In base→base.Ns mainGlobals mg→FnOk P w K mg base CX k fa fd [x] sp) (hbind:∀ (s:Shared) (u:Value),BindsTo s fd ⟨[u],[]⟩ [(x,u)])
  (hsp:∀ H:Hp,Only H→SqL K H a (ns.map V.int)→sp [.ref a] H (λv _=>v=.bl true) λ_ _ _=>False)
  (hCX:∀ H e s',CX [] H s₁ (λ_ _ _=>False) e s'→False) :
  codeAny (model P w) callerA (.call (.ref fa) ⟨[.ref a],[]⟩) (λr s'=>r=.ok (.ret (.bool true))∧OldK s₁.heap s'.heap∧s'.os=s₁.os∧AllBare s'.gens) s₁:=by
 have rv:=zfd hi
 have lenV:=hi.length
 -- from an abstract heap in which nothing but the script may be tracked
 have core:∀ H:Hp,Only H→SqL K H a (ns.map V.int)→HOk P w H s₁.heap→(∀ b,H b≠none→b=a)→(H a≠none→K.lookup a=none)→
   codeAny (model P w) callerA (.call (.ref fa) ⟨[.ref a],[]⟩) (λr s'=>r=.ok (.ret (.bool true))∧OldK s₁.heap s'.heap∧s'.os=s₁.os∧AllBare s'.gens) s₁:=by
  intro H hO hS hok hA hK
  have base_of:∀ {b:Addr}{o:Obj},s₁.heap.get? b=some o→H b=none→(hidT s₁.heap H).get? b=some o:=λe n=>zlN e n
  have noA:∀ {b:Addr}{o:Obj}{es:Array DictEntry}{ep:Nat},s₁.heap.get? b=some o→o.data=.dict es ep→H b=none:=λ{b o es ep} e d=>by
   cases q:H b with
   | none=>rfl
   | some u=>
    have e':b=a:=hA b (by rw[q];simp)
    subst e'
    rw[ha] at e;cases e
    have d':Data.seq vs.toArray _=Data.dict es ep:=d
    cases d'
  have nsK:∀ {b:Addr}{m:Str→Option Value},s₁.heap.Ns b m→(hidT s₁.heap H).Ns b m:=λ{b m} ⟨o,es,ep,e,d,r⟩=>⟨o,es,ep,base_of e (noA e d),d,r⟩
  have hKb:K.In (hidT s₁.heap H):=λb o e=>base_of (KX b o e) (by
   cases q:H b with
   | none=>rfl
   | some u=>
    have e':b=a:=hA b (by rw[q];simp)
    subst e'
    rw[hK (by rw[q];simp)] at e;cases e)
  have hM:Mod K mg (hidT s₁.heap H):=⟨hKb,nsK hns,⟨mb,nsK hb,hbb⟩,let ⟨mc,h1,h2⟩:=hlim;⟨mc,nsK h1,h2⟩⟩
  have e0:Env0 P w K mg (hidT s₁.heap H) callerA [] s₁ H:=⟨rfl,hM,λb o e=>znn e,Nat.le_of_eq (zke _ _),trivial,λb hb=>absurd (show b∈([]:List Addr) from hb) (by simp),hok,.of_eq hg⟩
  refine codeAny_mono ((F _ hKb (nsK hns)).run callerA [] s₁ H ⟨[.ref a],[]⟩ [.ref a] [.ref a] _ _ hr e0 (hbind s₁ (.ref a)) (.cons rfl .nil) (hsp H hO hS)) λr s' h=>?_
  cases r with
  | error e=>exact (hCX H e s' h).elim
  | ok fl=>
   cases fl with
   | next=>exact False.elim h
   | brk=>exact False.elim h
   | cont=>exact False.elim h
   | ret u=>
    obtain⟨v,H',os,bare,un,hok',r',q⟩:=h
    have q':v=.bl true:=q
    subst q'
    obtain rfl:u=Value.bool true:=r'
    refine⟨rfl,OldK.of_keep λb o e=>?_,os,bare⟩
    cases q:H b with
    | none=>exact un.keep b o e q (by intro z;exact absurd (show b∈([]:List Addr) from z) (by simp)) (by simp)
    | some u=>
     rcases hO b with z | ⟨ob,xs,z⟩
     ·rw[q] at z;cases z
     ·have z2:=un.frzs b ob _ z
      obtain⟨e1,_⟩:=hok b _ z
      obtain⟨e2,_⟩:=hok' b _ z2
      rw[e] at e1;cases e1
      exact e2
 cases hk:K.lookup a with
 | some o=>
  -- the script is one of the module's own objects
  have e:=KX a o hk
  rw[ha] at e
  cases e
  refine core (λ_=>none) (λ_=>.inl rfl) (.inr ⟨_,vs.toArray,_,hk,rfl,rfl,rfl,by rw[zst,lenV];exact hl,by simpa using rv⟩) (λb u z=>by have z':(none:Option HO)=some u:=z;cases z') (λb z=>absurd rfl z) λz=>absurd rfl z
 | none=>
  refine core (λb=>if b=a then some (.frz {cls:=.type "list",data:=.seq vs.toArray} (.lst (ns.map V.int))) else none) (λb=>?_) (.inl (.inr ⟨{cls:=.type "list",data:=.seq vs.toArray},if_pos rfl⟩)) (λb u z=>?_) (λb z=>?_) λ_=>hk
  ·by_cases hb:b=a
   ·exact .inr ⟨_,_,if_pos hb⟩
   ·exact .inl (if_neg hb)
  ·by_cases hb:b=a
   ·have z':=(if_pos hb).symm.trans z
    cases z'
    subst hb
    exact⟨ha,by rw[zlm];exact hl,vs,_,rv,ha⟩
   ·have z':=(if_neg hb).symm.trans z
    cases z'
  ·by_cases hb:b=a
   ·exact hb
   ·exact absurd (if_neg hb) z
end L2

namespace L2
open PySem PySem.Spec PyProof.Rows

end L2



namespace L2
open PySem PySem.Spec PyProof.Rows


abbrev CX0:CXT:=λ_ _ _ _ _ _=>False
abbrev E0:XK:=λ_ _ _=>False
theorem za2 {X:Cx} : zcf CX0 X E0:=λ_ _ _ _ _ _ _ h=>h.elim
structure Fun (K:Fg) (x qual:Str) (st:Stmt) (f:Addr) (fd:FuncData):Prop where
 ex:∃ (oc:Value) (od:Option Addr) (kV doc pm:Value) (an:Option Addr) (cdv ct:Value) (osl:Array (Option Value)),
  fd=PySem.W.fnOf x qual (zan st) (zal st) (zac st) .none kV doc pm an cdv ct∧K.lookup f=some ⟨oc,od,.func fd,osl⟩∧PySem.W.codeIn K cdv qual=true
 kp:PySem.W.keepIn K (.ref f)=true
section
variable {P : Program} {w : World} {K : Fg} {mg : Str → Option Value} {base : Heap}
theorem Fun.ok {x qual:Str}{st:Stmt}{f:Addr}{fd:FuncData}{N ps:List Str}{k:Nat}{sp:Sp}(F:Fun K x qual st f fd) (S:FnScope N ps (zac st)) (len:∀ vs H Q E,sp vs H Q E→vs.length=ps.length)
  (hbody:∀ (cdv:Value) (A:Around) (outer:List Env) (s:Shared) (H:Hp) (vs:List V) (Q:VK) (E:XK),Room k (A.deeper (envOfC qual (zac st) s.heap.objs.size f cdv))→sp vs H Q E→
   ∃ t,PSs (cxOf CX0 P w K mg base N qual (zac st) f cdv A outer s H E).nox (zal st) t∧t {nx:=λ_ H'=>Q .non H',rt:=Q} (start N vs) H):FnOk P w K mg base CX0 (k+1) f fd ps sp:=by
 obtain⟨oc,od,kV,doc,pm,an,cdv,ct,osl,rfl,lk,hcd⟩:=F.ex
 refine zoI lk hcd S len λA outer s H vs Q E hr hsp=>?_
 obtain⟨t,h,q⟩:=hbody cdv A outer s H vs Q E hr hsp
 exact⟨t,h.nox,q⟩
theorem Fun.binds {x qual:Str}{st:Stmt}{f:Addr}{fd:FuncData}{ps:List Str}(F:Fun K x qual st f fd)
  (h:∀ (kV doc pm:Value) (an:Option Addr) (cdv ct:Value) (us:List Value),us.length=ps.length→bindArgs (PySem.W.fnOf x qual (zan st) (zal st) (zac st) .none kV doc pm an cdv ct) ⟨us,[]⟩=pure (ps.zip us)):zdO K fd ps []:=by
 obtain⟨oc,od,kV,doc,pm,an,cdv,ct,osl,rfl,lk,hcd⟩:=F.ex
 exact .all (h kV doc pm an cdv ct)
theorem zaw {x qual:Str}{st:Stmt}{f:Addr}{oc:Value}{od an:Option Addr}{osl:Array (Option Value)}{kV doc pm cdv ct:Value}(l:K.lookup f=some ⟨oc,od,.func (PySem.W.fnOf x qual (zan st) (zal st) (zac st) .none kV doc pm an cdv ct),osl⟩)
  (c:PySem.W.codeIn K cdv qual=true) (k:PySem.W.keepIn K (.ref f)=true):Fun K x qual st f (PySem.W.fnOf x qual (zan st) (zal st) (zac st) .none kV doc pm an cdv ct):=⟨⟨oc,od,kV,doc,pm,an,cdv,ct,osl,rfl,l,c⟩,k⟩
end
theorem zcg {n:Nat}(h:n≤1000):n<sizeLine:=Nat.lt_of_le_of_lt h (by decide)
section
variable {X : Cx}
theorem pv (i:Nat) {x:Str}{pos:Pos}(hN:X.N[i]?=some x:=by rfl) (hv:Vis X.env.scope x:=by first | exact Or.inl rfl | exact Or.inr (Or.inl rfl) | exact Or.inr (Or.inr rfl)) (hd:(x == ("__debug__" : Str))=false:=by decide)
  (hcd:(x == ("__classdict__" : Str))=false:=by decide):PE X (.Name x pos) (tVar i):=zov hN hv hd hcd
end

theorem iteF {A B:Prop}(h:B):if false=true then A else B:=by
 rw[if_neg Bool.false_ne_true]
 exact h
theorem iteT {A B:Prop}(h:A):if true=true then A else B:=by
 rw[if_pos rfl]
 exact h
theorem ite2 {c A B:Prop} [Decidable c] (h1:c→A) (h2:¬ c→B):if c then A else B:=by
 by_cases h:c
 ·rw[if_pos h]
  exact h1 h
 ·rw[if_neg h]
  exact h2 h
def Same (H H':Hp):Prop:=∀ b o,H b=some o→H' b=some o
theorem Same.refl (H:Hp):Same H H:=λ_ _ h=>h
theorem Same.trans {H H1 H2:Hp}(a:Same H H1) (b:Same H1 H2):Same H H2:=λc o h=>b c o (a c o h)
theorem Same.free {H H':Hp}(e:Same H H') {l:Addr}(h:H' l=Option.none):H l=Option.none:=by
 cases q:H l with
 | none=>rfl
 | some o=>
  rw[e l o q] at h
  cases h
theorem Same.seq {K:Fg}{H H':Hp}{a:Addr}{xs:List V}(e:Same H H') (h:SqL K H a xs):SqL K H' a xs:=by
 rcases h with (h | ⟨o,h⟩) | h
 ·exact .inl (.inl (e _ _ h))
 ·exact .inl (.inr ⟨o,e _ _ h⟩)
 ·exact .inr h
section
variable {κ : Type} [DecidableEq κ]
theorem zl8 {kvs:List (κ × V)}{k:κ}(h:valV kvs k=none):¬ k∈kvs.map (·.1):=by
 intro m
 obtain⟨p,hp,e⟩:=zmm.mp m
 have q:(kvs.any λkv=>decide (kv.1=k))=true:=List.any_eq_true.mpr ⟨p,hp,decide_eq_true e⟩
 rw[zcu,h] at q
 exact absurd q (by simp)
theorem zkP {kvs:List (κ × V)}{k:κ}{v:V}(h:valV kvs k=some v):k∈kvs.map (·.1):=by
 have q:(kvs.any λkv=>decide (kv.1=k))=true:=by
  rw[zcu,h]
  all_goals rfl
 obtain⟨p,hp,e⟩:=List.any_eq_true.mp q
 exact zmm.mpr ⟨p,hp,of_decide_eq_true e⟩
theorem zia:∀ {l:List κ}{k:κ},l.Nodup→¬ k∈l→(l++[k]).Nodup
 | [],k,_,_=>by simp
 | a::r,k,h,hk=>by
  obtain⟨h1,h2⟩:=List.nodup_cons.mp h
  show (a::(r++[k])).Nodup
  refine List.nodup_cons.mpr ⟨λm=>?_,zia h2 λm=>hk (List.mem_cons.mpr (Or.inr m))⟩
  rcases zma.mp m with q | q
  ·exact h1 q
  ·exact hk (List.mem_cons.mpr (Or.inl (zms.mp q).symm))
theorem zkQ {p:κ × V}{r:List (κ × V)}{k:κ}(e:p.1=k):zcr (p::r) k=zcr r k:=by
 unfold zcr
 rw[List.filter_cons,if_neg (by simp[e])]
theorem zkR {p:κ × V}{r:List (κ × V)}{k:κ}(e:¬ p.1=k):zcr (p::r) k=p::zcr r k:=by
 unfold zcr
 rw[List.filter_cons,if_pos (by simp[e])]
end
end L2

namespace L2
open PySem PySem.Spec PyProof.Rows

def zcS:List Bool→St→St
 | [],_=>[]
 | _::ms,[]=>none::zcS ms []
 | b::ms,v::σ=>(if b=true then none else v)::zcS ms σ
theorem zcv:∀ (ms:List Bool) (σ:St),(zcS ms σ).length=ms.length
 | [],_=>rfl
 | _::ms,[]=>by simp[zcS,zcv ms []]
 | _::ms,_::σ=>by simp[zcS,zcv ms σ]
theorem zfe:∀ {ms:List Bool}{σ:St}{i:Nat}{v:V},(zcS ms σ)[i]?=some (some v)→ms[i]?=some false∧σ[i]?=some (some v)
 | [],_,_,_,h=>by simp[zcS] at h
 | b::ms,[],0,v,h=>by simp[zcS] at h
 | b::ms,[],i+1,v,h=>by
  have q:=zfe (ms:=ms) (σ:=[]) (i:=i) (v:=v) (by simpa [zcS] using h)
  simp at q
 | b::ms,u::σ,0,v,h=>by
  cases b with
  | true=>simp[zcS] at h
  | false=>simp[zcS] at h;simp[h]
 | b::ms,u::σ,i+1,v,h=>by
  have q:=zfe (ms:=ms) (σ:=σ) (i:=i) (v:=v) (by simpa [zcS] using h)
  simpa using q
def zch (env:Env):List (Str × NameKind)→List (Str × Addr)→List (Str × Addr)
 | [],cs=>cs
 | (n,k)::r,cs=>zch env r (if k=.free then (match env.cells.lookup n with | some c=>(n,c)::cs | none=>cs) else cs)
theorem zhm {env:Env} : ∀ (names:List (Str × NameKind)) (cs:List (Str × Addr)),(∀ x c,cs.lookup x=some c→env.cells.lookup x=some c)→
  ∀ x c,(zch env names cs).lookup x=some c→env.cells.lookup x=some c
 | [],cs,h,x,c,e=>h x c e
 | (n,k)::r,cs,h,x,c,e=>by
  refine zhm r _ (λy d q=>?_) x c e
  by_cases hk:k=.free
  ·rw[if_pos hk] at q
   cases hn:env.cells.lookup n with
   | none=>rw[hn] at q;exact h y d q
   | some a=>
    rw[hn] at q
    simp only[List.lookup_cons] at q
    cases hy:y == n with
    | true=>
     rw[hy] at q
     have:y=n:=by simpa using hy
     subst this
     rw[hn];exact q
    | false=>rw[hy] at q;exact h y d q
  ·rw[if_neg hk] at q;exact h y d q
theorem zff {env:Env} : ∀ (names:List (Str × NameKind)) (cs:List (Str × Addr)) (x:Str),(∀ p∈names,p.2=.free→∃ c,env.cells.lookup p.1=some c)→
  ((x,NameKind.free)∈names∨∃ c,cs.lookup x=some c)→∃ c,(zch env names cs).lookup x=some c
 | [],cs,x,_,h=>by
  rcases h with h | h
  ·cases h
  ·exact h
 | (n,k)::r,cs,x,hf,h=>by
  refine zff r _ x (λp hp=>hf p (List.mem_cons_of_mem _ hp)) ?_
  by_cases hk:k=.free
  ·obtain⟨c,hc⟩:=hf (n,k) List.mem_cons_self hk
   simp only at hc
   rw[if_pos hk,hc]
   rcases h with h | ⟨d,hd⟩
   ·rcases List.mem_cons.mp h with e | e
    ·cases e
     exact .inr ⟨c,by simp⟩
    ·exact .inl e
   ·refine .inr ?_
    simp only[List.lookup_cons]
    cases hy:x == n with
    | true=>exact⟨c,rfl⟩
    | false=>exact⟨d,hd⟩
  ·rw[if_neg hk]
   rcases h with h | h
   ·rcases List.mem_cons.mp h with e | e
    ·cases e;exact absurd rfl hk
    ·exact .inl e
   ·exact .inr h
theorem zfg {env:Env}{f:Str × NameKind→List (Str × Addr)→Sem (ForInStep (List (Str × Addr)))}(h1:∀ n c cs,env.cells.lookup n=some c→f (n,.free) cs=pure (.yield ((n,c)::cs)))
  (h2:∀ n k cs,k≠NameKind.free→f (n,k) cs=pure (.yield cs)) :
  ∀ (names:List (Str × NameKind)) (cs:List (Str × Addr)),(∀ p∈names,p.2=.free→∃ c,env.cells.lookup p.1=some c)→forIn names cs f=pure (zch env names cs)
 | [],cs,_=>rfl
 | (n,k)::r,cs,hf=>by
  rw[List.forIn_cons]
  by_cases hk:k=.free
  ·subst hk
   obtain⟨c,hc⟩:=hf (n,.free) List.mem_cons_self rfl
   simp only at hc
   rw[h1 n c cs hc]
   show forIn r ((n,c)::cs) f=_
   rw[zfg h1 h2 r _ λp hp=>hf p (List.mem_cons_of_mem _ hp)]
   simp[zch,hc]
  ·rw[h2 n k cs hk]
   show forIn r cs f=_
   rw[zfg h1 h2 r _ λp hp=>hf p (List.mem_cons_of_mem _ hp)]
   simp[zch,hk]
theorem zkS {scope:Scope}{env:Env}(hf:∀ p∈scope.names,p.2=.free→∃ c,env.cells.lookup p.1=some c):closureFor scope env=pure (zch env scope.names []):=by
 simp only[closureFor]
 rw[zfg (env:=env) (λn c cs hc=>?_) (λn k cs hk=>?_) scope.names [] hf]
 ·rfl
 ·simp[cellOf,hc]
 ·have:(k == NameKind.free)=false:=by simpa using hk
  simp[this]
theorem zez (env:Env) (x:Str):∀ (names:List (Str × NameKind)),(names.map λ(p:Str × NameKind)=>match p with
   | (n,k)=>if (k == NameKind.free && env.scope.kind == .function && env.kindOf n == some .cell)=true then (n,NameKind.cell) else (n,k)).lookup x =
  (names.lookup x).map λk=>if (k == NameKind.free && env.scope.kind == .function && env.kindOf x == some .cell)=true then NameKind.cell else k
 | []=>rfl
 | (n,k)::r=>by
  have ih:=zez env x r
  rw[zmc]
  by_cases hc:(k == NameKind.free && env.scope.kind == .function && env.kindOf n == some .cell)=true
  ·simp only[if_pos hc,List.lookup_cons]
   cases hx:x == n with
   | true=>
    have:x=n:=by simpa using hx
    subst this
    exact (congrArg some (if_pos hc)).symm
   | false=>exact ih
  ·simp only[if_neg hc,List.lookup_cons]
   cases hx:x == n with
   | true=>
    have:x=n:=by simpa using hx
    subst this
    exact (congrArg some (if_neg hc)).symm
   | false=>exact ih
theorem zdE (scope:Scope) (env:Env) (x:Str):(relabel scope env).names.lookup x =
  (scope.names.lookup x).map λk=>if (k == NameKind.free && env.scope.kind == .function && env.kindOf x == some .cell)=true then NameKind.cell else k:=zez env x scope.names
structure CompOk (sc0:Scope) (N:List Str) (scope:Scope) (N':List Str) (ms:List Bool):Prop where
 kind:scope.kind=.function
 nocell:∀ y∈scope.names,y.2≠.cell
 nm:∀ y∈scope.names,y.2=.local→scope.names.lookup y.1=some .local
 fr:∀ y∈scope.names,y.2=.free→sc0.names.lookup y.1=some .cell∨sc0.names.lookup y.1=some .free
 len:ms.length=N'.length
 own:∀ (i:Nat) (x:Str),N'[i]?=some x→ms[i]?=some false→scope.names.lookup x≠some .local
 out:∀ (i:Nat) (x:Str),N'[i]?=some x→ms[i]?=some false→scope.names.lookup x=some .free→N[i]?=some x
def zfh (N:List Str) (scope:Scope):List Str→List Bool→List (Option Str)→Bool
 | x::N',false::ms,o=>(scope.names.lookup x != some .local) && (scope.names.lookup x != some .free || o.head? == some (some x)) && zfh N scope N' ms o.tail
 | _::N',true::ms,o=>zfh N scope N' ms o.tail
 | _,_,_=>true
theorem zdw {N:List Str}{scope:Scope} : ∀ (N':List Str) (ms:List Bool) (o:List (Option Str)),zfh N scope N' ms o=true→∀ (i:Nat) (x:Str),N'[i]?=some x→ms[i]?=some false→
  scope.names.lookup x≠some .local∧(scope.names.lookup x=some .free→o[i]?=some (some x))
 | [],_,_,_,i,x,e,_=>by simp at e
 | _::_,[],_,_,i,x,_,e=>by simp at e
 | y::N',false::ms,o,h,i,x,e1,e2=>by
  simp only[zfh,Bool.and_eq_true,bne_iff_ne,ne_eq,Bool.or_eq_true,beq_iff_eq] at h
  cases i with
  | zero=>
   simp at e1;subst e1
   refine⟨h.1.1,λq=>?_⟩
   rcases h.1.2 with z | z
   ·exact absurd q z
   ·cases o with
    | nil=>simp at z
    | cons a r=>simpa using z
  | succ i=>
   have q:=zdw N' ms o.tail h.2 i x (by simpa using e1) (by simpa using e2)
   refine⟨q.1,λz=>?_⟩
   have:=q.2 z
   cases o with
   | nil=>simp at this
   | cons a r=>simpa using this
 | y::N',true::ms,o,h,i,x,e1,e2=>by
  simp only[zfh] at h
  cases i with
  | zero=>simp at e2
  | succ i=>
   have q:=zdw N' ms o.tail h i x (by simpa using e1) (by simpa using e2)
   refine⟨q.1,λz=>?_⟩
   have:=q.2 z
   cases o with
   | nil=>simp at this
   | cons a r=>simpa using this
theorem CompOk.mk' {sc0:Scope}{N:List Str}{scope:Scope}{N':List Str}{ms:List Bool}(kind:scope.kind=.function) (nocell:∀ y∈scope.names,y.2≠.cell)
  (nm:∀ y∈scope.names,y.2=.local→scope.names.lookup y.1=some .local) (fr:∀ y∈scope.names,y.2=.free→sc0.names.lookup y.1=some .cell∨sc0.names.lookup y.1=some .free)
  (len:ms.length=N'.length) (sl:zfh N scope N' ms (N.map some)=true):CompOk sc0 N scope N' ms:=
 ⟨kind,nocell,nm,fr,len,λi x e1 e2=>(zdw N' ms _ sl i x e1 e2).1,λi x e1 e2 e3=>by
  have q:=(zdw N' ms _ sl i x e1 e2).2 e3
  rw[zgm] at q
  cases h:N[i]? with
  | none=>rw[h] at q;cases q
  | some a=>rw[h] at q;simpa using q⟩
def zbx (X:Cx) (N':List Str) (scope:Scope) (cl:List (Str × Addr)) (C:Addr) (fp:List Addr) (s3:Shared) (H3:Hp):Cx where
 prog:=X.prog
 w:=X.w
 K:=X.K
 mg:=X.mg
 base:=X.base
 A:=X.A
 N:=N'
 s₀:=s3
 H₀:=H3
 env:=compEnvC scope cl C X.env
 outer:=X.stack
 stack:=X.stack
 ex:=fp
 fn:=λ_=>false
 calm:=X.calm
 pn:=[]
 xe:=λ_ _=>False
section
variable {X : Cx} {pins : List (Addr × Obj)} {σ : St} {H : Hp} {N' : List Str} {scope : Scope} {ms : List Bool} {fp : List Addr}

theorem CompOk.cells (ok:CompOk X.env.scope X.N scope N' ms) (k:X.Ok):∀ p∈scope.names,p.2=.free→∃ c,X.env.cells.lookup p.1=some c:=λp hp e=>k.has p.1 (ok.fr p hp e)
theorem zgh {x:Str}{c:Addr}(e:(zch X.env scope.names []).lookup x=some c):X.env.cells.lookup x=some c:=zhm _ [] (λ_ _ q=>by cases q) x c e
theorem CompOk.kinds (ok:CompOk X.env.scope X.N scope N' ms) {x:Str}(h:(relabel scope X.env).names.lookup x=some .cell∨(relabel scope X.env).names.lookup x=some .free):scope.names.lookup x=some .free:=by
 rw[zdE] at h
 cases e:scope.names.lookup x with
 | none=>rw[e] at h;rcases h with h | h <;> cases h
 | some k=>
  rw[e] at h
  simp only[Option.map_some,Option.some.injEq] at h
  by_cases hk:k=.free
  ·rw[hk]
  ·have hb:(k == NameKind.free)=false:=by simpa using hk
   simp only[hb,Bool.false_and,Bool.false_eq_true,if_false] at h
   rcases h with h | h
   ·exact absurd h (ok.nocell _ (PySem.mem_of_lookup e))
   ·exact absurd h hk
theorem CompOk.locals (ok:CompOk X.env.scope X.N scope N' ms) {x:Str}(h:(relabel scope X.env).names.lookup x=some .local):scope.names.lookup x=some .local:=by
 rw[zdE] at h
 cases e:scope.names.lookup x with
 | none=>rw[e] at h;cases h
 | some k=>
  rw[e] at h
  simp only[Option.map_some,Option.some.injEq] at h
  split at h
  ·cases h
  ·rw[h]
theorem znH {s3:Shared}(ok:CompOk X.env.scope X.N scope N' ms) (I:Inv X pins σ H s3) (hf:∀ b∈fp,FpOk X pins H b∧b<s3.heap.objs.size) :
  (zbx X N' scope (zch X.env scope.names []) s3.heap.objs.size fp s3 H).Ok where
 mod:=I.ok.mod
 kind:=ok.kind
 glob:=I.ok.glob
 blt:=I.ok.blt
 above:=Nat.le_refl _
 inj:=λx y c h1 h2=>I.ok.inj x y c (zgh h1) (zgh h2)
 has:=λx hx=>by
  have q:=ok.kinds hx
  exact zff _ [] x (ok.cells I.ok) (.inl (PySem.mem_of_lookup q))
 cab:=λx c h=>by cases h
 hd:=I.ok.hd
 frames:=I.ok.frames
 stk:=.inl rfl
 exf:=λb hb=>⟨Nat.ne_of_lt (hf b hb).2,λx c e=>(hf b hb).1.2.2.2.2.1 x c (zgh e)⟩
 bs:=λb o e=>I.bs b o e
 bsz:=Nat.le_trans I.ok.bsz I.sz
 noex:=λb o e hb=>by
  rcases (hf b hb).1.2.2.2.1 with z | z
  ·exact I.ok.noex b o e z
  ·exact absurd (Nat.lt_of_lt_of_le (Nat.lt_of_lt_of_le (Heap.lt_size e) I.ok.bsz) z) (Nat.lt_irrefl _)
 exfs:=λb hb z=>by
  rcases List.mem_cons.mp (I.stkSub b z) with e | e
  ·exact (hf b hb).1.2.1 e
  ·exact (hf b hb).1.2.2.1 e
 funs:=I.stack
 frf:=I.stkFree
theorem zi1 {h':Heap}{s5:Shared}{C:Addr}{m:Str→Option Value}(ok:CompOk X.env.scope X.N scope N' ms) (I:Inv X pins σ H s5) (hk:∀ b o,s5.heap.get? b=some o→h'.get? b=some o) :
  ∀ (i:Nat) (x:Str) (v:V),N'[i]?=some x→(zcS ms σ)[i]?=some (some v)→Vis (relabel scope X.env) x→∃ u,RelV v u∧Look (compEnvC scope (zch X.env scope.names []) C X.env) h' m x u:=by
 intro i x v e1 e2 e3
 obtain⟨em,ev⟩:=zfe e2
 rcases e3 with e3 | e3
 ·exact absurd (ok.locals e3) (ok.own i x e1 em)
 ·have q:=ok.kinds e3
  have en:=ok.out i x e1 em q
  have fr:=ok.fr _ (PySem.mem_of_lookup q) rfl
  obtain⟨m0,_,hl⟩:=I.loc
  obtain⟨u,r,l⟩:=hl i x v en ev (.inr fr)
  refine⟨u,r,?_⟩
  rcases l with ⟨k,_⟩ | ⟨k,c,e,o,ho,hd⟩
  ·have k':X.env.scope.names.lookup x=some .local:=k
   rcases fr with fr | fr
   ·have fr':X.env.scope.names.lookup x=some .cell:=fr
    rw[fr'] at k';cases k'
   ·have fr':X.env.scope.names.lookup x=some .free:=fr
    rw[fr'] at k';cases k'
  ·obtain⟨c',hc'⟩:=zff _ [] x (ok.cells I.ok) (.inl (PySem.mem_of_lookup q))
   have z:=zgh hc'
   rw[e] at z;cases z
   exact .inr ⟨e3,c,hc',o,hk c o ho,hd⟩
theorem zjK {s3:Shared}{h4:Heap}{tk:Nat}{m:Str→Option Value}(ok:CompOk X.env.scope X.N scope N' ms) (I:Inv X pins σ H s3) (hf:∀ b∈fp,FpOk X pins H b∧b<s3.heap.objs.size)
  (hn:h4.Ns s3.heap.objs.size m) (hk:∀ b o,s3.heap.get? b=some o→h4.get? b=some o) :
  Inv (zbx X N' scope (zch X.env scope.names []) s3.heap.objs.size fp s3 H) [] (zcS ms σ) H {s3 with heap:=h4,toks:=tk} where
 ok:=znH ok I hf
 os:=rfl
 bare:=I.bare
 base:=Un.kept hk
 loc:=⟨m,hn,zi1 ok I hk⟩
 cell:=λx c e=>by
  obtain⟨v,o,ho,hd⟩:=I.cell x c (zgh e)
  exact⟨v,o,hk c o ho,hd⟩
 free:=I.hok.fresh (Nat.le_refl _)
 freeC:=λx c e=>I.freeC x c (zgh e)
 pin:=λp hp=>absurd (show p∈([]:List (Addr × Obj)) from hp) (by simp)
 hok:=I.hok.kept hk
 len:=by rw[zcv,ok.len];rfl
theorem zhn {pins':List (Addr × Obj)}{σ':St}{H':Hp}{s3 s':Shared}{cl:List (Str × Addr)}{C:Addr}(I:Inv X pins σ H s3) (hf:∀ b∈fp,FpOk X pins H b∧b<s3.heap.objs.size)
  (J:Inv (zbx X N' scope cl C fp s3 H) pins' σ' H' s'):Inv X pins σ H' s':=
 I.call' J.os J.base J.hok J.bare λb hb=>by
  obtain⟨_,f1,_,f3,f4,f5⟩:=(hf b hb).1
  exact⟨f3,f1,f4,f5⟩
theorem zjL {pins':List (Addr × Obj)}{σ':St}{H':Hp}{s3 s':Shared}(ok:CompOk X.env.scope X.N scope N' ms) (I:Inv X pins σ H s3) (hf:∀ b∈fp,FpOk X pins H b∧b<s3.heap.objs.size)
  (J:Inv (zbx X N' scope (zch X.env scope.names []) s3.heap.objs.size fp s3 H) pins' σ' H' s'):Inv (zbx X N' scope (zch X.env scope.names []) s3.heap.objs.size fp s3 H) [] (zcS ms σ) H' s' where
 ok:=J.ok
 os:=J.os
 bare:=J.bare
 base:=J.base
 loc:=by
  obtain⟨m,hn,_⟩:=J.loc
  exact⟨m,hn,zi1 ok (zhn I hf J) λ_ _ e=>e⟩
 cell:=J.cell
 free:=J.free
 freeC:=J.freeC
 pin:=λp hp=>absurd (show p∈([]:List (Addr × Obj)) from hp) (by simp)
 hok:=J.hok
 len:=by rw[zcv,ok.len];rfl
end

def PIfs (X:Cx) (ifs:List Expr) (t:TT):Prop:=
 ∀ (pins:List (Addr × Obj)) (s:Shared) (σ:St) (H:Hp) (Q:Bool→Hp→Prop),Inv X pins σ H s→t σ H Q→
  wpAny (model X.prog X.w) X.A (forIn ifs true λc r=>if r=true then do let ok ←isTrue c X.env (eval c X.env);pure (ForInStep.yield ok) else pure (ForInStep.yield r)) (TP X pins σ Q) X.xe s
def zo1:TT:=λ_ H Q=>Q true H
theorem zaY {X:Cx} : PIfs X [] zo1:=λ_ _ _ H _ I h=>wpAny_tests_nil ⟨H,I,h⟩
theorem zl9 {X:Cx}{c:Expr}{t:TT}(h:PT X c t):PIfs X [c] t:=λpins s σ H Q I q=>wpAny_tests_one (h pins s σ H Q I q)
theorem zkT {prog:Program}{w:World}{A:Around}{R:Result→Shared→Prop}{s:Shared}{elt target iter:Expr}{ifs:List Expr}{scope:Scope}{pos:Pos}{it acc:Value}{env:Env}(I:Nat→Shared→Prop)
  (turn:∀ n s (E:Value→Shared→Prop),I n s→wpAny (model prog w) A (pyNext it) (λr s1=>match r with
   | none=>R (.ok .next) s1
   | some v=>wpAny (model prog w) A (letOwnedTupleGo target it v) (λ_ s2=>wpAny (model prog w) A (assign target env v) (λ_ s3=>
     wpAny (model prog w) A (forIn ifs true λc r=>if r=true then do let ok ←isTrue c env (eval c env);pure (ForInStep.yield ok) else pure (ForInStep.yield r)) (λok s4=>
      if ok=true then wpAny (model prog w) A (eval elt env) (λx s5=>wpAny (model prog w) A (call (.builtin "list.append") [acc,x]) (λ_ s6=>∃ m,m<n∧I m s6) E s5) E s4
      else ∃ m,m<n∧I m s4) E s3) E s2) E s1) E s)
  (n:Nat) (h:I n s):codeAny (model prog w) A (.compLoop (.ListComp elt [⟨target,iter,ifs,0⟩] scope pos) 0 it acc env) R s:=by
 refine codeAny_loop rfl I (λn s hI=>?_) n h
 refine wpAny_noted (env:=env) ?_
 rw[compTurn_list]
 refine wpAny_bind (wpAny_standAt (wpAny_bind ?_))
 refine wpAny_mono (turn n s _ hI) (λr s1 h1=>?_) λ_ _ e=>e
 cases r with
 | none=>exact wpAny_pure h1
 | some v=>
  refine wpAny_bind (wpAny_mono h1 (λ_ s2 h2=>?_) λ_ _ e=>e)
  refine wpAny_bind (wpAny_mono h2 (λ_ s3 h3=>?_) λ_ _ e=>e)
  refine wpAny_bind (wpAny_mono h3 (λok s4 h4=>?_) λ_ _ e=>e)
  cases ok with
  | false=>exact wpAny_pure ⟨rfl,h4⟩
  | true=>
   refine wpAny_bind (wpAny_bind (wpAny_mono h4 (λx s5 h5=>?_) λ_ _ e=>e))
   exact wpAny_bind (wpAny_mono h5 (λ_ s6 h6=>wpAny_pure (wpAny_pure ⟨rfl,h6⟩)) λ_ _ e=>e)
def zmb (ms:List Bool) (wi:TI) (g:TG) (tt:TT) (te:TE):TE:=λσ H Q=>wi σ H λJ H1=>∀ D,H1 D=none→
 ∃ W:Nat→Nat→List V→Hp→Prop,(∃ m,W 0 m [] (upd H1 D (.lst [])))∧∀ i m ys H,W i m ys H→H D=some (.lst ys)∧
  ((J.stop i H∧Q (.ref D) H)∨(J.go i H∧ys.length<sizeLine∧∃ N:List V→Hp→Prop,(∀ ys' H',N ys' H'→∃ m',m'<m∧W (i+1) m' ys' H')∧
   ∀ x H',J.yld i H x H'→g x (zcS ms σ) H' λσ2 H2=>tt σ2 H2 λb H3=>if b=true then te σ2 H3 λy H4=>H4 D=some (.lst ys)∧N (ys++[y]) (upd H4 D (.lst (ys++[y]))) else N ys H3))
section
variable {X : Cx} {tg iter elt : Expr} {ifs : List Expr} {scope : Scope} {pos : Pos} {N' : List Str} {ms : List Bool} {wi : TI} {g : TG} {tt : TT} {te : TE}

set_option maxHeartbeats 4000000 in
theorem zho {pins:List (Addr × Obj)}{s:Shared}{σ:St}{H:Hp}{Q:VK}{RR:Value→Addr→Result→Shared→Prop}(hc:X.calm=true) (ok:CompOk X.env.scope X.N scope N' ms) (hi:PI X tg iter wi)
  (hg:∀ cl C fp s3 H3,PG (zbx X N' scope cl C fp s3 H3) tg g) (ht:∀ cl C fp s3 H3,PIfs (zbx X N' scope cl C fp s3 H3) ifs tt) (he:∀ cl C fp s3 H3,PE (zbx X N' scope cl C fp s3 H3) elt te)
  (I:Inv X pins σ H s) (h:zmb ms wi g tt te σ H Q)
  (hRR:∀ D C H' s' m,s'.heap.Ns C m→Inv X pins σ H' s'→FpOk X pins H' C→Q (.ref D) H'→RR (.ref D) C (.ok .next) s') :
  wpAny (model X.prog X.w) X.A (eval iter X.env) (λx s1=>wpAny (model X.prog X.w) X.A (pyIter x) (λit s2=>wpAny (model X.prog X.w) X.A (newList []) (λacc s3=>
   wpAny (model X.prog X.w) X.A (newFunctionEnv scope X.env.globals (zch X.env scope.names []) [] X.env.qual none .none (some X.env)) (λcenv s4=>
    codeAny (model X.prog X.w) X.A (.compStart (.ListComp elt [⟨tg,iter,ifs,0⟩] scope pos) 0 it acc {cenv with scope:=relabel scope X.env}) (RR acc cenv.locals) s4) X.xe s3) X.xe s2) X.xe s1) X.xe s:=by
 refine thn (hi pins s σ H _ I h) λv s1 h1=>thn h1 λitv s2 h2=>?_
 obtain⟨it,fp,tn,J,H2,e,I2,T,st2,f2,h2⟩:=h2
 subst e
 obtain⟨W,⟨m0,w0⟩,turn⟩:=h2 s2.heap.objs.size I2.fresh
 refine wpAny_newObj_type ?_
 have I3:=I2.lnew (ys:=[]) (its:=[]) (t':=s2.toks) .nil (Nat.zero_le _)
 generalize hs3:({s2 with heap:=s2.heap.push {cls:=.type "list",data:=.seq ([]:List Value).toArray},toks:=s2.toks} : Shared)=s3 at I3
 refine wpAny_newFunctionEnv ok.nocell (by intro y hy;simp at hy) (λh4 hn4 hs4=>?_) ok.kind
 have sz:s3.heap.objs.size=s2.heap.objs.size+1:=by rw[←hs3];exact Heap.size_push ..
 have old2:∀ b o,s2.heap.get? b=some o→s3.heap.get? b=some o:=λb o e=>by rw[←hs3];exact Heap.get?_push_of_some _ e
 have old:∀ b o,s3.heap.get? b=some o→h4.get? b=some o:=λb o e=>hs4.extBut b o (Nat.ne_of_lt (Heap.lt_size e)) (Heap.get?_push_of_some _ e)
 have fp2:∀ b∈fp,b<s2.heap.objs.size:=λb hb=>by
  obtain⟨o,ho,_⟩:=T.obj 0 _ st2 b hb
  exact Heap.lt_size ho
 have nD:∀ b∈fp,b≠s2.heap.objs.size:=λb hb=>Nat.ne_of_lt (fp2 b hb)
 have f3:∀ b∈fp,FpOk X pins (upd H2 s2.heap.objs.size (.lst [])) b∧b<s3.heap.objs.size:=λb hb=>by
  refine⟨⟨?_,(f2 b hb).2⟩,by rw[sz];exact Nat.lt_succ_of_lt (fp2 b hb)⟩
  rw[zak (nD b hb)];exact (f2 b hb).1
 have J4:Inv (zbx X N' scope (zch X.env scope.names []) s3.heap.objs.size fp s3 (upd H2 s2.heap.objs.size (.lst []))) [] (zcS ms σ) (upd H2 s2.heap.objs.size (.lst [])) {s3 with heap:=h4,toks:=s3.toks+0}:=
  zjK ok I3 f3 hn4 old
 have stat:∀ {H':Hp},(∀ b∈fp,H' b=none)→∀ b∈fp,FpOk (zbx X N' scope (zch X.env scope.names []) s3.heap.objs.size fp s3 (upd H2 s2.heap.objs.size (.lst []))) [] H' b:=λhn b hb=>
  ⟨hn b hb,(J4.ok.exf b hb).1,J4.ok.exfs b hb,.inl hb,(J4.ok.exf b hb).2,λp hp=>absurd (show p∈([]:List (Addr × Obj)) from hp) (by simp)⟩
 have loop:codeAny (model X.prog X.w) X.A (.compLoop (.ListComp elt [⟨tg,iter,ifs,0⟩] scope pos) 0 (.ref it) (.ref s2.heap.objs.size) (compEnvC scope (zch X.env scope.names []) s3.heap.objs.size X.env))
   (RR (.ref s2.heap.objs.size) s3.heap.objs.size) {s3 with heap:=h4,toks:=s3.toks+0}:=by
  refine zkT (λn s'=>∃ i H' ys,Inv (zbx X N' scope (zch X.env scope.names []) s3.heap.objs.size fp s3 (upd H2 s2.heap.objs.size (.lst []))) [] (zcS ms σ) H' s'∧tn i s'.heap∧(∀ b∈fp,H' b=none)∧W i n ys H') ?_ m0
   ⟨0,_,[],J4,T.keep 0 _ _ st2 λb hb o e=>old b o (old2 b o e),λb hb=>(f3 b hb).1.1,w0⟩
  rintro n s5 E ⟨i,H5,ys,J5,st5,fr5,w5⟩
  obtain⟨hD,alt⟩:=turn i n ys H5 w5
  rcases alt with ⟨stop,q⟩ | ⟨go,hz,N,hN,step⟩
  ·refine thn (T.done (zbx X N' scope (zch X.env scope.names []) s3.heap.objs.size fp s3 (upd H2 s2.heap.objs.size (.lst []))) rfl rfl rfl hc i [] s5 _ H5 E J5 (stat fr5) st5 stop) λr s6 ⟨hr,J6⟩=>?_
   subst hr
   obtain⟨m,hn,_⟩:=id J6.loc
   have I6:=zhn I3 f3 J6
   refine hRR _ _ H5 s6 m hn I6 ?_ q
   have hC:H5 s3.heap.objs.size=none:=J6.free
   obtain⟨g0,g1,g2,g3,g4,g5⟩:=I3.fpOk (b:=s3.heap.objs.size) (H':=H5) (Nat.le_refl _) hC
   exact⟨g0,g1,g2,g3,g4,g5⟩
  ·refine thn (T.item (zbx X N' scope (zch X.env scope.names []) s3.heap.objs.size fp s3 (upd H2 s2.heap.objs.size (.lst []))) rfl rfl rfl hc i [] s5 _ H5 E J5 (stat fr5) st5 go) λr s6 ⟨u,hr,h6⟩=>?_
   subst hr
   refine thn h6 λ_ s7 ⟨x,H7,J7,r7,y7,st7,fr7⟩=>?_
   have J7':=J7.pinned (stat fr7) (T.obj _ _ st7)
   have again:∀ {σ8:St}{H8:Hp}{s8:Shared}{zs:List V},Inv (zbx X N' scope (zch X.env scope.names []) s3.heap.objs.size fp s3 (upd H2 s2.heap.objs.size (.lst []))) ([]++zg7 fp s7.heap) σ8 H8 s8→N zs H8→
     ∃ m,m<n∧∃ i H' ys,Inv (zbx X N' scope (zch X.env scope.names []) s3.heap.objs.size fp s3 (upd H2 s2.heap.objs.size (.lst []))) [] (zcS ms σ) H' s8∧tn i s8.heap∧(∀ b∈fp,H' b=none)∧W i m ys H':=λ{σ8 H8 s8 zs} J8 n8=>by
    obtain⟨m',hm,w8⟩:=hN zs H8 n8
    refine⟨m',hm,i+1,H8,zs,zjL ok I3 f3 J8,T.keep _ _ _ st7 λb hb o e=>(J8.pin (b,o) (List.mem_append_right _ (List.mem_append_right _ (zdu hb e)))).1,λb hb=>?_,w8⟩
    obtain⟨o,e,d⟩:=T.obj _ _ st7 b hb
    exact (J8.pin (b,o) (List.mem_append_right _ (List.mem_append_right _ (zdu hb e)))).2.1
   refine wpAny_mono (hg _ _ _ _ _ _ s7 _ H7 x u _ J7' r7 (step x H7 y7)) (λ_ s8 ⟨σ8,H8,J8,q8⟩=>?_) λ_ _ z=>False.elim z
   refine wpAny_mono (ht _ _ _ _ _ _ s8 σ8 H8 _ J8 q8) (λb s9 ⟨H9,J9,q9⟩=>?_) λ_ _ z=>False.elim z
   cases b with
   | false=>exact again J9 q9
   | true=>
    refine wpAny_mono (he _ _ _ _ _ _ s9 σ8 H9 _ J9 q9) (λv s10 ⟨y,H10,J10,r10,hD10,q10⟩=>?_) λ_ _ z=>False.elim z
    refine wpAny_mono (zdX (X:=(zbx X N' scope (zch X.env scope.names []) s3.heap.objs.size fp s3 (upd H2 s2.heap.objs.size (.lst [])))) _ s10 σ8 H10 (.ref s2.heap.objs.size) [y] (.ref s2.heap.objs.size) [v] (λ_ H'=>H'=upd H10 s2.heap.objs.size (.lst (ys++[y]))) J10 rfl (.cons r10 .nil) ⟨_,ys,y,rfl,rfl,hD10,hz,rfl⟩)
     (λ_ s11 ⟨_,H11,J11,_,e11⟩=>?_) λ_ _ z=>False.elim z
    subst e11
    exact again J11 q10
 exact codeAny_compStart_list loop (T.self _ 0 _ _ _ (T.keep 0 _ _ st2 λb hb o e=>old b o (old2 b o e)) loop)
theorem zbI (hc:X.calm=true) (ok:CompOk X.env.scope X.N scope N' ms) (hi:PI X tg iter wi)
  (hg:∀ cl C fp s3 H3,PG (zbx X N' scope cl C fp s3 H3) tg g) (ht:∀ cl C fp s3 H3,PIfs (zbx X N' scope cl C fp s3 H3) ifs tt) (he:∀ cl C fp s3 H3,PE (zbx X N' scope cl C fp s3 H3) elt te)
  (hs:∀ x,foldedSetIterable iter X.env x=pure x:=by intro _;rfl):PE X (.ListComp elt [⟨tg,iter,ifs,0⟩] scope pos) (zmb ms wi g tt te):=by
 intro pins s σ H Q I h
 rw[eval_ListComp]
 refine wpAny_comprehension_free (use:=none) rfl hs (zkS (ok.cells I.ok)) ok.kind ok.nm ?_
 refine zho (RR:=λacc C=>compPost (model X.prog X.w) X.A X.xe none (EP X pins σ Q) acc C) hc ok hi hg ht he I h λD C H' s' m hn I' ⟨g0,g1,g2,g3,g4,g5⟩ q=>?_
 refine⟨m,hn,λh' sb=>⟨.ref D,H',?_,rfl,q⟩⟩
 exact I'.turned (t':=s'.toks) (λb o hb e=>sb.extBut b o hb e) g0 g1 g3 g4 g5
theorem zbu {i:Nat}{y:Str}{py spos:Pos}(hN:X.N.Nodup) (hy:X.N[i]?=some y) (hl:X.env.scope.names.lookup y=some .local) (hc:X.calm=true) (ok:CompOk X.env.scope X.N scope N' ms) (hi:PI X tg iter wi)
  (hg:∀ cl C fp s3 H3,PG (zbx X N' scope cl C fp s3 H3) tg g) (ht:∀ cl C fp s3 H3,PIfs (zbx X N' scope cl C fp s3 H3) ifs tt) (he:∀ cl C fp s3 H3,PE (zbx X N' scope cl C fp s3 H3) elt te)
  (hsw:swapsWith (.ListComp elt [⟨tg,iter,ifs,0⟩] scope pos) (some (.Name y py)) spos.line X.env=pure true:=by rfl)
  (hs:∀ x,foldedSetIterable iter X.env x=pure x:=by intro _;rfl):PS X (.Assign [.Name y py] (.ListComp elt [⟨tg,iter,ifs,0⟩] scope pos) spos) (tAsg (zmb ms wi g tt te) (zlO i)):=by
 intro pins s σ H D I h
 rw[exec_Assign_Name_used _ _ _ _ hsw]
 refine wpAny_bind (wpAny_standAt (wpAny_bind ?_))
 show wpAny _ _ (do let _ ←comprehension (.ListComp elt [⟨tg,iter,ifs,0⟩] scope pos) scope X.env _ (newList []) false (eval iter X.env) (some (assign (.Name y py) X.env))) _ _ s
 refine wpAny_bind (wpAny_mono (wpAny_comprehension_free (use:=some (assign (.Name y py) X.env)) (Q:=λ_ s'=>SP X pins D .next s') rfl hs (zkS (ok.cells I.ok)) ok.kind ok.nm ?_) (λ_ s' q=>wpAny_pure (wpAny_pure q)) λ_ _ e=>e)
 refine zho (RR:=λacc C=>compPost (model X.prog X.w) X.A X.xe (some (assign (.Name y py) X.env)) (λ_ s'=>SP X pins D .next s') acc C) hc ok hi hg ht he I h λDa C H' s' m hn I' ⟨g0,g1,g2,g3,g4,g5⟩ q=>?_
 show wpAny _ _ (assign (.Name y py) X.env (.ref Da)) _ _ s'
 refine wpAny_assign_Name (zg4 I' hN hy (.inl hl) (show RelV (.ref Da) (.ref Da) from rfl) (λs'' I'' ⟨a,sa,ha⟩=>?_) (.inr hl))
 have hCa:C≠a:=by
  rcases ha with e | e
  ·rw[e];exact g1
  ·exact λz=>g4 y a e z.symm
 refine⟨m,hn.sameBut sa hCa,λh' sb=>⟨σ.set i (some (.ref Da)),H',?_,q⟩⟩
 exact I''.turned (t':=s''.toks) (λb o hb e=>sb.extBut b o hb e) g0 g1 g3 g4 g5
end
end L2

namespace L2
open PySem PySem.Spec PyProof.Rows

section
variable {X : Cx} {pins : List (Addr × Obj)} {σ : St} {H : Hp} {s : Shared} {h' : Heap} {t' : Nat}
theorem Inv.turnedN {ch:List Addr}(I:Inv X pins σ H s) (hch:∀ b∈ch,FpOk X pins H b) (k:∀ b o,b∉ch→s.heap.get? b=some o→h'.get? b=some o):Inv X pins σ H {s with heap:=h',toks:=t'}:=by
 have nit:∀ b u,H b=some u→b∉ch:=λb u e z=>by rw[(hch b z).1] at e;cases e
 refine I.step (g':=s.gens) (d':=s.drawn) (ch:=ch) (λb hb=>?_) (λb o _ _ hc e _=>k b o hc e) (λb o _ _ hc e _=>⟨o.slots,k b o hc e⟩) (λ_ _ _ _ n=>n) (λb o hc e=>⟨o,k b o hc e⟩) (λ_ _ e=>e) (λ_ _ _ e=>e)
  (λb ps e=>⟨#[],by rw[e];simp⟩) (λm hm=>?_) (λb u e=>?_) I.bare
 ·obtain⟨_,f1,_,f3,f4,f5⟩:=hch b hb
  exact⟨f3,f1,f4,f5⟩
 ·obtain⟨o,es,ep,ho,r⟩:=hm
  exact⟨o,es,ep,k _ o (λz=>(hch _ z).2.1 rfl) ho,r⟩
 ·refine (I.hok b u e).stay (λc v hc q=>k c v ?_ q) (λ_ q=>q) λ_ _ q=>q
  rcases hc with z | z
  ·rw[z];exact nit b u e
  ·exact nit c _ z
end

theorem zjM {h:Heap}{a b:Addr}{o u:Obj}(e1:h.get? a=some o) (e2:h.get? b=some u) (d:o.cls≠u.cls):a≠b:=λz=>by
 subst z;rw[e1] at e2;cases e2;exact d rfl
theorem zdc {h:Heap}{a b:Addr}{its:Array Value}{u:Obj}{T:String}(e1:h.IsList a its) (e2:h.get? b=some u) (c:u.cls=.type T) (d:T≠ "list"):a≠b:=by
 obtain⟨o,ho,hc,_⟩:=e1
 refine zjM ho e2 ?_
 rw[hc,c]
 intro z
 injection z with z
 exact d z.symm
def Itz (K:Fg) (a b:Addr):It:=
  ⟨λi H=>∃ xs ys x y,SqL K H a xs∧SqL K H b ys∧xs[i]?=some x∧ys[i]?=some y,
   λi H v H'=>∃ T,H T=none∧v=.ref T∧∀ xs ys x y,SqL K H a xs→SqL K H b ys→xs[i]?=some x→ys[i]?=some y→H'=upd H T (.tup [x,y]),
   λi H=>∃ xs ys,SqL K H a xs∧SqL K H b ys∧(xs[i]?=none∨ys[i]?=none)⟩
structure Zap (z TI TO i1 i2:Addr):Prop where
 a1:TI≠z
 a2:TO≠z
 a3:i1≠z
 a4:i2≠z
 a5:TI≠TO
 a6:TI≠i1
 a7:TI≠i2
 a8:TO≠i1
 a9:TO≠i2
 a10:i1≠i2
theorem znI (n:Nat):Zap (n+4) (n+2) (n+3) n (n+1):=by constructor <;> (show (_:Nat)≠_;omega)
def zo2 (z TI TO i1 i2 a b:Addr) (i:Nat) (h:Heap):Prop:=IsZip h z TI TO .none∧IsPair h TI (.ref i1) (.ref i2)∧(∃ p q,IsPair h TO p q)∧h.IsListIter i1 a i∧h.IsListIter i2 b i
theorem zm6 {h:Heap}{z TI TO i1 i2 a b:Addr}{i:Nat}{xs ys:Array Value}(D:Zap z TI TO i1 i2) (t:zo2 z TI TO i1 i2 a b i h) (hx:h.IsList a xs) (hy:h.IsList b ys):ZipApart z TI TO i1 i2 a b:=by
 obtain⟨hz,hI,⟨p,q,hO⟩,⟨o1,e1,c1,_⟩,⟨o2,e2,c2,_⟩⟩:=t
 exact⟨D.a1,D.a2,D.a3,D.a4,D.a5,D.a6,D.a7,D.a8,D.a9,D.a10,zdc hx hz rfl (by decide),zdc hx hO rfl (by decide),zdc hx e1 c1 (by decide),zdc hx e2 c2 (by decide),zdc hy hz rfl (by decide),zdc hy hO rfl (by decide),zdc hy e1 c1 (by decide),zdc hy e2 c2 (by decide)⟩
theorem zmd {P:Program}{w:World}{K:Fg}{elts:List Expr}{kx:Nat}{tpos:Pos}{z TI TO i1 i2:Addr}(a b:Addr) (D:Zap z TI TO i1 i2) :
  Turn P w K (.Tuple elts kx tpos) (Itz K a b) [z,TI,TO,i1,i2] z (zo2 z TI TO i1 i2 a b) where
 mem:=by simp
 obj:=λi h st c hb=>by
  obtain⟨hz,hI,⟨p,q,hO⟩,⟨o1,e1,c1,d1⟩,⟨o2,e2,c2,d2⟩⟩:=st
  simp only[List.mem_cons,List.not_mem_nil,or_false] at hb
  rcases hb with rfl | rfl | rfl | rfl | rfl
  ·exact⟨_,hz,λv x=>by cases x⟩
  ·exact⟨_,hI,λv x=>by cases x⟩
  ·exact⟨_,hO,λv x=>by cases x⟩
  ·exact⟨_,e1,λv x=>by rw[d1] at x;cases x⟩
  ·exact⟨_,e2,λv x=>by rw[d2] at x;cases x⟩
 keep:=λi h h' st k=>by
  obtain⟨hz,hI,⟨p,q,hO⟩,h1,h2⟩:=st
  exact⟨k z (by simp) _ hz,k TI (by simp) _ hI,⟨p,q,k TO (by simp) _ hO⟩,h1.at λo e=>k i1 (by simp) o e,h2.at λo e=>k i2 (by simp) o e⟩
 item:=by
  intro X hP hw hK hc i pins s σ H E I hf st hg
  subst hP hw hK
  obtain⟨xs,ys,x,y,hx,hy,ex,ey⟩:=hg
  obtain⟨its,rx,px,zx⟩:=I.list hx
  obtain⟨jts,ry,py,zy⟩:=I.list hy
  obtain⟨u,eu,ru⟩:=rx.get ex
  obtain⟨v,ev,rv⟩:=ry.get ey
  have Z:=zm6 D st px.isList py.isList
  obtain⟨hz,hI,⟨p,q,hO⟩,h1,h2⟩:=id st
  refine wpAny_pyNext_zip_item Z hz hI hO h1 h2 px.isList py.isList (x:=u) (y:=v) (by simpa using eu) (by simpa using ev) λh' z1 o1 l1 l2 t1 sz k1=>?_
  refine⟨_,rfl,wpAny_letOwnedTupleGo_zip (s:={s with heap:=h'}) z1 λh'' z2 sb=>?_⟩
  have nT:H s.heap.objs.size=none:=I.hok.fresh (Nat.le_refl _)
  have IT:Inv X pins σ (upd H s.heap.objs.size (.tup [x,y])) {s with heap:=s.heap.push {cls:=.type "tuple",data:=.seq #[u,v]},toks:=s.toks}:=
   I.laid (λb o e=>Heap.get?_push_of_some _ e) (Nat.le_refl _) (show zbA X.prog X.w _ _ _ (.tup [x,y]) from ⟨by show 2≤sizeLine;decide,[u,v],.cons ru (.cons rv .nil),IsTup.new _ _⟩)
  have nz:z≠s.heap.objs.size:=Nat.ne_of_lt (Heap.lt_size hz)
  have fT:∀ c∈[z,TI,TO,i1,i2],FpOk X pins (upd H s.heap.objs.size (.tup [x,y])) c:=λc hcm=>by
   obtain⟨g0,gr⟩:=hf c hcm
   refine⟨?_,gr⟩
   obtain⟨o,ho,_⟩:∃ o,s.heap.get? c=some o∧True:=by
    simp only[List.mem_cons,List.not_mem_nil,or_false] at hcm
    rcases hcm with rfl | rfl | rfl | rfl | rfl
    ·exact⟨_,hz,trivial⟩
    ·exact⟨_,hI,trivial⟩
    ·exact⟨_,hO,trivial⟩
    ·obtain⟨o,e,_⟩:=h1;exact⟨o,e,trivial⟩
    ·obtain⟨o,e,_⟩:=h2;exact⟨o,e,trivial⟩
   rw[zak (Nat.ne_of_lt (Heap.lt_size ho))]
   exact g0
  have up:∀ c o,c∉[z,TI,TO,i1,i2]→(s.heap.push {cls:=.type "tuple",data:=.seq #[u,v]}).get? c=some o→h''.get? c=some o:=λc o hn e=>by
   simp only[List.mem_cons,List.not_mem_nil,or_false,not_or] at hn
   refine sb.extBut c o hn.1 ?_
   by_cases hcs:c=s.heap.objs.size
   ·subst hcs
    rw[Heap.get?_push_size _ rfl] at e
    cases e
    exact t1
   ·refine k1 c o hn.1 hn.2.2.1 hn.2.2.2.1 hn.2.2.2.2 ?_
    rw[Heap.get?_push_ne _ _ _ hcs] at e
    exact e
  refine⟨.ref s.heap.objs.size,_,IT.turnedN (h':=h'') (t':=s.toks) fT up,rfl,⟨_,nT,rfl,λxs' ys' x' y' q1 q2 q3 q4=>?_⟩,?_,λc hcm=>(fT c hcm).1⟩
  ·rw[I.list_inj q1 hx,ex] at q3
   rw[I.list_inj q2 hy,ey] at q4
   cases q3;cases q4;rfl
  ·refine⟨z2,sb.extBut _ _ D.a1 (k1 _ _ D.a1 D.a5 D.a6 D.a7 hI),⟨_,_,sb.extBut _ _ D.a2 o1⟩,l1.extBut sb.extBut D.a3,l2.extBut sb.extBut D.a4⟩
 done:=by
  intro X hP hw hK hc i pins s σ H E I hf st hg
  subst hP hw hK
  obtain⟨xs,ys,hx,hy,en⟩:=hg
  obtain⟨its,rx,px,zx⟩:=I.list hx
  obtain⟨jts,ry,py,zy⟩:=I.list hy
  have Z:=zm6 D st px.isList py.isList
  obtain⟨hz,hI,⟨p,q,hO⟩,h1,h2⟩:=id st
  have en':its.toArray[i]?=none∨jts.toArray[i]?=none:=by
   rcases en with e | e
   ·exact .inl (by simpa using rx.none_of e)
   ·exact .inr (by simpa using ry.none_of e)
  exact wpAny_pyNext_zip_end (I.ok.hd hc) Z hz hI hO h1 h2 px.isList py.isList en' λh' k1=>⟨rfl,I.turnedN (t':=s.toks) hf λc o hn e=>by
   simp only[List.mem_cons,List.not_mem_nil,or_false,not_or] at hn
   exact k1 c o hn.1 hn.2.2.1 hn.2.2.2.1 hn.2.2.2.2 e⟩
 self:=λ_ _ _ _ _ st h=>wpAny_pyIter_zip st.1 h
def iZip (K:Fg) (ta:TA):TI:=λσ H R=>ta σ H λvs H1=>∃ a b,vs=[.ref a,.ref b]∧(∃ xs,SqL K H1 a xs)∧(∃ ys,SqL K H1 b ys)∧R (Itz K a b) H1
theorem zmf:bootBuiltins "zip"=some (.type "zip"):=by decide +kernel
theorem zfU:bootBuiltins "enumerate"=some (.type "enumerate"):=by decide +kernel
section
variable {X : Cx}
theorem zo3 {elts:List Expr}{kx:Nat}{tpos:Pos}{a b:Expr}{ta:TA}{p pos:Pos}(hg:Gl X "zip") (hm:X.mg "zip"=none) (ha:PA X [a,b] ta) (hs:starEach [a,b] X.env=[(false,eval a X.env),(false,eval b X.env)]:=by rfl) (hs2:starEach [b] X.env=[(false,eval b X.env)]:=by rfl) :
  PI X (.Tuple elts kx tpos) (.Call (.Name "zip" p) [a,b] [] pos) (iZip X.K ta):=by
 intro pins s σ H R I h
 refine Call_ (zf9 I hg hm zmf (PyProof.Rows.callWith_type1 (thn (ha pos pins s σ H _ I h) λus s1 ⟨vs,H1,I1,r1,q1⟩=>?_) (by rw[hs,hs2]) (by rw[hs2];rfl)))
 obtain⟨l1,l2,e,⟨xs,hx⟩,⟨ys,hy⟩,q⟩:=q1
 subst e
 obtain⟨u,v,e,ru,rv⟩:=r1.two
 subst e
 cases ru;cases rv
 obtain⟨its,rx,px,zx⟩:=I1.list hx
 obtain⟨jts,ry,py,zy⟩:=I1.list hy
 refine call_zip_2 px.isList py.isList λh' z1 p1 p2 i1 i2 sz k=>?_
 refine wpAny_pyIter_zip (s:={s1 with heap:=h'}) z1 ?_
 have I2:Inv X pins σ H1 {s1 with heap:=h',toks:=s1.toks}:=I1.kept k
 have D:=znI s1.heap.objs.size
 refine⟨_,_,_,_,H1,rfl,I2,zmd l1 l2 D,⟨z1,p1,⟨_,_,p2⟩,i1,i2⟩,λc hc=>?_,q⟩
 have le:s1.heap.objs.size≤c:=by
  simp only[List.mem_cons,List.not_mem_nil,or_false] at hc
  first
   | (rcases hc with rfl | rfl | rfl | rfl | rfl <;> first | exact Nat.le_refl _ | exact Nat.le_add_right _ _)
   | (rcases hc with rfl | rfl <;> first | exact Nat.le_refl _ | exact Nat.le_add_right _ _)
 exact I1.fpOk le (I1.hok.fresh le)
end

def Itn (K:Fg) (a:Addr):It:=
  ⟨λi H=>∃ xs x,SqL K H a xs∧xs[i]?=some x,
   λi H v H'=>∃ T,H T=none∧v=.ref T∧∀ xs x,SqL K H a xs→xs[i]?=some x→H'=upd H T (.tup [.int i,x]),
   λi H=>∃ xs,SqL K H a xs∧xs.length≤i⟩
def zo4 (e it a:Addr) (i:Nat) (h:Heap):Prop:=(∃ old,IsEnum h e it ((i:Nat):Int) old)∧h.IsListIter it a i
theorem zkU {P:Program}{w:World}{K:Fg}{elts:List Expr}{kx:Nat}{tpos:Pos}{e it:Addr}(a:Addr) (D:e≠it) :
  Turn P w K (.Tuple elts kx tpos) (Itn K a) [e,it] e (zo4 e it a) where
 mem:=by simp
 obj:=λi h st c hb=>by
  obtain⟨⟨old,he⟩,⟨o1,e1,c1,d1⟩⟩:=st
  simp only[List.mem_cons,List.not_mem_nil,or_false] at hb
  rcases hb with rfl | rfl
  ·exact⟨_,he,λv x=>by cases x⟩
  ·exact⟨_,e1,λv x=>by rw[d1] at x;cases x⟩
 keep:=λi h h' st k=>by
  obtain⟨⟨old,he⟩,h1⟩:=st
  exact⟨⟨old,k e (by simp) _ he⟩,h1.at λo e=>k it (by simp) o e⟩
 item:=by
  intro X hP hw hK hc i pins s σ H E I hf st hg
  subst hP hw hK
  obtain⟨xs,x,hx,ex⟩:=hg
  obtain⟨its,rx,px,zx⟩:=I.list hx
  obtain⟨u,eu,ru⟩:=rx.get ex
  obtain⟨⟨old,he⟩,h1⟩:=id st
  refine wpAny_pyNext_enum_item he h1 px.isList (x:=u) (by simpa using eu) D λh' z1 l1 t1 sz k1=>?_
  refine⟨_,rfl,wpAny_letOwnedTupleGo_enum (s:={s with heap:=h',toks:=s.toks+1}) z1 λh'' z2 sb=>?_⟩
  have nT:H s.heap.objs.size=none:=I.hok.fresh (Nat.le_refl _)
  have IT:Inv X pins σ (upd H s.heap.objs.size (.tup [.int i,x])) {s with heap:=s.heap.push {cls:=.type "tuple",data:=.seq #[.int i s.toks,u]},toks:=s.toks}:=
   I.laid (λb o e=>Heap.get?_push_of_some _ e) (Nat.le_refl _) (show zbA X.prog X.w _ _ _ (.tup [.int i,x]) from ⟨by show 2≤sizeLine;decide,[.int i s.toks,u],.cons ⟨_,rfl⟩ (.cons ru .nil),IsTup.new _ _⟩)
  have fT:∀ c∈[e,it],FpOk X pins (upd H s.heap.objs.size (.tup [.int i,x])) c:=λc hcm=>by
   obtain⟨g0,gr⟩:=hf c hcm
   refine⟨?_,gr⟩
   obtain⟨o,ho,_⟩:∃ o,s.heap.get? c=some o∧True:=by
    simp only[List.mem_cons,List.not_mem_nil,or_false] at hcm
    rcases hcm with rfl | rfl
    ·exact⟨_,he,trivial⟩
    ·obtain⟨o,e,_⟩:=h1;exact⟨o,e,trivial⟩
   rw[zak (Nat.ne_of_lt (Heap.lt_size ho))]
   exact g0
  have up:∀ c o,c∉[e,it]→(s.heap.push {cls:=.type "tuple",data:=.seq #[.int i s.toks,u]}).get? c=some o→h''.get? c=some o:=λc o hn e2=>by
   simp only[List.mem_cons,List.not_mem_nil,or_false,not_or] at hn
   refine sb.extBut c o hn.1 ?_
   by_cases hcs:c=s.heap.objs.size
   ·subst hcs
    rw[Heap.get?_push_size _ rfl] at e2
    cases e2
    exact t1
   ·refine k1 c o hn.1 hn.2 ?_
    rw[Heap.get?_push_ne _ _ _ hcs] at e2
    exact e2
  refine⟨.ref s.heap.objs.size,_,IT.turnedN (h':=h'') (t':=s.toks+1) fT up,rfl,⟨_,nT,rfl,λxs' x' q1 q3=>?_⟩,?_,λc hcm=>(fT c hcm).1⟩
  ·rw[I.list_inj q1 hx,ex] at q3
   cases q3;rfl
  ·refine⟨⟨_,by rw[show (((i+1:Nat):Nat):Int)=(i:Int)+1 by omega];exact z2⟩,l1.extBut sb.extBut (Ne.symm D)⟩
 done:=by
  intro X hP hw hK hc i pins s σ H E I hf st hg
  subst hP hw hK
  obtain⟨xs,hx,en⟩:=hg
  obtain⟨its,rx,px,zx⟩:=I.list hx
  obtain⟨⟨old,he⟩,h1⟩:=id st
  have hl:=rx.length
  exact wpAny_pyNext_enum_end (I.ok.hd hc) he h1 px.isList (by simp;omega) λh' k1=>⟨rfl,I.turnedN (t':=s.toks) hf λc o hn e2=>by
   simp only[List.mem_cons,List.not_mem_nil,or_false,not_or] at hn
   exact k1 c o hn.2 e2⟩
 self:=λ_ _ _ _ _ st h=>by
  obtain⟨⟨old,he⟩,_⟩:=st
  exact wpAny_pyIter_enum he h
def znJ (K:Fg) (ta:TA):TI:=λσ H R=>ta σ H λvs H1=>∃ a xs,vs=[.ref a]∧H1 a=some (.lst xs)∧R (Itn K a) H1
section
variable {X : Cx}
theorem znK {elts:List Expr}{kx:Nat}{tpos:Pos}{a:Expr}{ta:TA}{p pos:Pos}(hg:Gl X "enumerate") (hm:X.mg "enumerate"=none) (ha:PA X [a] ta) (hs:starEach [a] X.env=[(false,eval a X.env)]:=by rfl) :
  PI X (.Tuple elts kx tpos) (.Call (.Name "enumerate" p) [a] [] pos) (znJ X.K ta):=by
 intro pins s σ H R I h
 refine Call_ (zf9 I hg hm zfU (PyProof.Rows.callWith_type1 (thn (ha pos pins s σ H _ I h) λus s1 ⟨vs,H1,I1,r1,q1⟩=>?_) hs rfl))
 obtain⟨l1,xs,e,hx,q⟩:=q1
 subst e
 obtain⟨u,e,ru⟩:=zgy r1
 subst e
 cases ru
 obtain⟨z,its,n,r,hl,e⟩:=I1.lstM hx
 refine call_enumerate_1 e λh' z1 i1 sz k=>?_
 refine wpAny_pyIter_enum (s:={s1 with heap:=h'}) z1 ?_
 have I2:Inv X pins σ H1 {s1 with heap:=h',toks:=s1.toks}:=I1.kept k
 refine⟨_,_,_,_,H1,rfl,I2,zkU l1 (e:=s1.heap.objs.size+1) (it:=s1.heap.objs.size) (Nat.succ_ne_self _),⟨⟨_,z1⟩,i1⟩,λc hc=>?_,q⟩
 have le:s1.heap.objs.size≤c:=by
  simp only[List.mem_cons,List.not_mem_nil,or_false] at hc
  first
   | (rcases hc with rfl | rfl | rfl | rfl | rfl <;> first | exact Nat.le_refl _ | exact Nat.le_add_right _ _)
   | (rcases hc with rfl | rfl <;> first | exact Nat.le_refl _ | exact Nat.le_add_right _ _)
 exact I1.fpOk le (I1.hok.fresh le)
end

section
variable {X : Cx}
theorem zkV {bs:List Bool}{its:List Value}(r:Vals (bs.map V.bl) its) {i:Nat}{v:Value}(e:its[i]?=some v):∃ b,bs[i]?=some b∧v=.bool b:=by
 have hl:=r.length
 rw[zlm] at hl
 have hi:i<bs.length:=by
  have:=(zge.mp e).1
  omega
 obtain⟨u,hu,ru⟩:=r.get (i:=i) (x:=V.bl bs[i]) (by simp[hi])
 rw[e] at hu;cases hu
 exact⟨bs[i],by simp[hi],ru⟩
theorem zkW {bs:List Bool}{n:Nat}(h:n=bs.length):(List.range n).all (λi=>bs[i]?.getD false)=bs.all id:=by
 subst h
 rw[Bool.eq_iff_iff]
 simp only[List.all_eq_true,List.mem_range,id]
 constructor
 ·intro q x hx
  obtain⟨i,hi,rfl⟩:=List.getElem_of_mem hx
  have:=q i hi
  simpa [hi] using this
 ·intro q i hi
  simpa [hi] using q bs[i] (List.getElem_mem hi)
theorem zmh (hc:X.calm=true):zce X (.builtin "all") (λxs H Q=>∃ (p:Addr) (bs:List Bool),xs=[.ref p]∧SqL X.K H p (bs.map V.bl)∧Q (.bl (bs.all id)) H):=by
 intro pins s σ H xs us Q I r h
 obtain⟨p,bs,rfl,hq,q⟩:=h
 obtain⟨u,rfl,rx⟩:=zgy r
 cases rx
 obtain⟨its,rv,pl,hz⟩:=I.list hq
 have hl:=rv.length
 rw[zlm] at hl
 refine call_all_walk (wpAny_pyIter_list pl.isList ?_)
 have hne:p≠s.heap.objs.size:=by
  obtain⟨o,ho,_⟩:=pl.isList
  exact Nat.ne_of_lt (Heap.lt_size ho)
 refine⟨s.heap.objs.size,_,_,_,_,_,λi=>bs[i]?.getD false,rfl,Walks.list (show X.A.in1.handled=none from I.ok.hd hc) s.heap.objs.size p hne its.toArray,⟨⟨_,Heap.get?_push_size _ rfl,rfl,rfl⟩,Heap.IsList.push pl.isList _⟩,λi v s' Q' E' hP hQ=>?_,λh' tk hk=>?_⟩
 ·obtain⟨b,hb,rfl⟩:=zkV rv (i:=i) (v:=v) (by simpa using hP)
  refine wpAny_truthy_bool ?_
  simpa [hb] using hQ
 ·rw[zkW (by rw[zst];exact hl.symm)]
  refine⟨.bl _,H,I.kept λb o e=>hk b o ?_ (Heap.get?_push_of_some _ e),rfl,q⟩
  simp only[List.mem_cons,List.not_mem_nil,or_false]
  exact Nat.ne_of_lt (Heap.lt_size e)
end
end L2

namespace L2
open PySem PySem.Spec PyProof.Rows PySem.SeqAt

inductive D where
 | non | bl (b:Bool) | int (i:Int) | str (x:Str) | lst (xs:List D) | tup (xs:List D)
mutual
def dep:D→Nat
 | .lst xs=>deps xs+1
 | .tup xs=>deps xs+1
 | _=>0
def deps:List D→Nat
 | []=>0
 | d::ds=>max (dep d) (deps ds)
end
mutual
def pyEq:D→D→Bool
 | .non,.non=>true
 | .bl a,.bl b=>a == b
 | .int a,.int b=>a == b
 | .bl a,.int b=>(if a then 1 else 0) == b
 | .int a,.bl b=>a == (if b then 1 else 0)
 | .str a,.str b=>a == b
 | .lst xs,.lst ys=>zbF xs ys
 | .tup xs,.tup ys=>zbF xs ys
 | _,_=>false
def zbF:List D→List D→Bool
 | [],[]=>true
 | x::xs,y::ys=>pyEq x y && zbF xs ys
 | _,_=>false
end
mutual
def Rep (K:Fg) (H:Hp):D→V→Prop
 | .non,v=>v=.non
 | .bl b,v=>v=.bl b
 | .int i,v=>v=.int i
 | .str x,v=>v=.str x
 | .lst ds,v=>∃ a xs,v=.ref a∧SqL K H a xs∧Reps K H ds xs
 | .tup ds,v=>∃ a xs,v=.ref a∧SqT K H a xs∧Reps K H ds xs
def Reps (K:Fg) (H:Hp):List D→List V→Prop
 | [],vs=>vs=[]
 | d::ds,vs=>∃ v r,vs=v::r∧Rep K H d v∧Reps K H ds r
end
theorem zdY:∀ {ds:List D}{d:D},d∈ds→dep d≤deps ds
 | d::ds,e,h=>by
  rcases List.mem_cons.mp h with h | h
  ·subst h;unfold deps;exact Nat.le_max_left _ _
  ·have:=zdY h
   unfold deps
   exact Nat.le_trans this (Nat.le_max_right _ _)
theorem Reps.length {K:Fg}{H:Hp} : ∀ {ds:List D}{vs:List V},Reps K H ds vs→ds.length=vs.length
 | [],vs,h=>by unfold Reps at h;subst h;rfl
 | d::ds,vs,h=>by
  unfold Reps at h
  obtain⟨v,r,rfl,_,h⟩:=h
  simp[Reps.length h]
theorem Reps.get {K:Fg}{H:Hp} : ∀ {ds:List D}{vs:List V}{i:Nat}{d:D},Reps K H ds vs→ds[i]?=some d→∃ v,vs[i]?=some v∧Rep K H d v
 | [],vs,i,d,h,e=>by simp at e
 | c::ds,vs,i,d,h,e=>by
  unfold Reps at h
  obtain⟨v,r,rfl,h1,h⟩:=h
  cases i with
  | zero=>simp at e;subst e;exact⟨v,rfl,h1⟩
  | succ i=>
   obtain⟨w,e1,e2⟩:=Reps.get h (show ds[i]?=some d by simpa using e)
   exact⟨w,by simpa using e1,e2⟩
theorem Reps.get' {K:Fg}{H:Hp}{ds:List D}{vs:List V}{i:Nat}{v:V}(h:Reps K H ds vs) (e:vs[i]?=some v):∃ d,ds[i]?=some d∧Rep K H d v:=by
 have hl:=h.length
 have hi:=(zge.mp e).1
 obtain⟨w,e1,e2⟩:=h.get (i:=i) (d:=ds[i]) (by simp)
 rw[e] at e1;cases e1
 exact⟨ds[i],by simp,e2⟩
theorem Reps.of {K:Fg}{H:Hp} : ∀ {ds:List D}{vs:List V},ds.length=vs.length→(∀ (i:Nat) d v,ds[i]?=some d→vs[i]?=some v→Rep K H d v)→Reps K H ds vs
 | [],[],_,_=>by unfold Reps;rfl
 | d::ds,v::vs,hl,h=>by
  unfold Reps
  exact⟨v,vs,rfl,h 0 d v rfl rfl,Reps.of (by simpa using hl) λi e w e1 e2=>h (i+1) e w (by simpa using e1) (by simpa using e2)⟩
theorem Reps.ints {K:Fg}{H:Hp} : ∀ {ns:List Int}{vs:List V},Reps K H (ns.map D.int) vs↔vs=ns.map V.int
 | [],vs=>by unfold List.map Reps;rfl
 | n::ns,vs=>by
  rw[zmc]
  unfold Reps
  constructor
  ·rintro⟨v,r,rfl,h1,h⟩
   unfold Rep at h1
   subst h1
   rw[Reps.ints.mp h];rfl
  ·rintro rfl
   exact⟨_,_,rfl,by unfold Rep;rfl,Reps.ints.mpr rfl⟩
theorem Same.tup {K:Fg}{H H':Hp}{a:Addr}{xs:List V}(e:Same H H') (h:SqT K H a xs):SqT K H' a xs:=by
 rcases h with (h | ⟨o,h⟩) | h
 ·exact .inl (.inl (e _ _ h))
 ·exact .inl (.inr ⟨o,e _ _ h⟩)
 ·exact .inr h
mutual
theorem Rep.same {K:Fg}{H H':Hp}(e:Same H H'):∀ (d:D) {v:V},Rep K H d v→Rep K H' d v
 | .non,_,h=>by unfold Rep at *;exact h
 | .bl _,_,h=>by unfold Rep at *;exact h
 | .int _,_,h=>by unfold Rep at *;exact h
 | .str _,_,h=>by unfold Rep at *;exact h
 | .lst ds,_,h=>by
  unfold Rep at *
  obtain⟨a,xs,h1,h2,h3⟩:=h
  exact⟨a,xs,h1,e.seq h2,Reps.same e ds h3⟩
 | .tup ds,_,h=>by
  unfold Rep at *
  obtain⟨a,xs,h1,h2,h3⟩:=h
  exact⟨a,xs,h1,e.tup h2,Reps.same e ds h3⟩
theorem Reps.same {K:Fg}{H H':Hp}(e:Same H H'):∀ (ds:List D) {vs:List V},Reps K H ds vs→Reps K H' ds vs
 | [],_,h=>by unfold Reps at *;exact h
 | d::ds,_,h=>by
  unfold Reps at *
  obtain⟨v,r,h1,h2,h3⟩:=h
  exact⟨v,r,h1,Rep.same e d h2,Reps.same e ds h3⟩
end

mutual
theorem zdd:∀ d:D,pyEq d d=true
 | .non=>by unfold pyEq;rfl
 | .bl _=>by unfold pyEq;simp
 | .int _=>by unfold pyEq;simp
 | .str _=>by unfold pyEq;simp
 | .lst ds=>by unfold pyEq;exact zem ds
 | .tup ds=>by unfold pyEq;exact zem ds
theorem zem:∀ ds:List D,zbF ds ds=true
 | []=>by unfold zbF;rfl
 | d::ds=>by unfold zbF;rw[zdd d,zem ds];rfl
end
theorem zde:∀ {xs ys:List D},zbF xs ys=true→xs.length=ys.length
 | [],[],_=>rfl
 | [],_::_,h=>by unfold zbF at h;cases h
 | _::_,[],h=>by unfold zbF at h;cases h
 | x::xs,y::ys,h=>by
  unfold zbF at h
  rw[Bool.and_eq_true] at h
  simp[zde h.2]
theorem zdf:∀ {xs ys:List D},xs.length=ys.length→(List.range xs.length).all (λj=>pyEq (xs.getD j .non) (ys.getD j .non))=zbF xs ys
 | [],[],_=>by unfold zbF;rfl
 | x::xs,y::ys,h=>by
  have ih:=zdf (xs:=xs) (ys:=ys) (by simpa using h)
  unfold zbF
  rw[List.length_cons,List.range_succ_eq_map,List.all_cons,List.all_map,←ih]
  rfl
theorem zgi:∀ {ms ns:List Int},zbF (ms.map D.int) (ns.map D.int)=decide (ms=ns)
 | [],[]=>by unfold List.map zbF;rfl
 | [],_::_=>by rw[zmc];unfold List.map zbF;simp
 | _::_,[]=>by rw[zmc];unfold List.map zbF;simp
 | m::ms,n::ns=>by
  rw[zmc,zmc]
  unfold zbF pyEq
  rw[zgi,Bool.eq_iff_iff]
  simp
mutual
theorem Rep.inj {X:Cx}{pins:List (Addr × Obj)}{σ:St}{H:Hp}{s:Shared}(I:Inv X pins σ H s):∀ (d e:D) {v:V},Rep X.K H d v→Rep X.K H e v→d=e
 | .non,e,v,h,q=>by unfold Rep at h;subst h;cases e <;> unfold Rep at q <;> first | rfl | (cases q;done) | (obtain⟨_,_,q,_⟩:=q;cases q)
 | .bl _,e,v,h,q=>by unfold Rep at h;subst h;cases e <;> unfold Rep at q <;> first | (cases q;rfl) | (cases q;done) | (obtain⟨_,_,q,_⟩:=q;cases q)
 | .int _,e,v,h,q=>by unfold Rep at h;subst h;cases e <;> unfold Rep at q <;> first | (cases q;rfl) | (cases q;done) | (obtain⟨_,_,q,_⟩:=q;cases q)
 | .str _,e,v,h,q=>by unfold Rep at h;subst h;cases e <;> unfold Rep at q <;> first | (cases q;rfl) | (cases q;done) | (obtain⟨_,_,q,_⟩:=q;cases q)
 | .lst ds,e,v,h,q=>by
  unfold Rep at h
  obtain⟨a,xs,rfl,h1,h2⟩:=h
  cases e with
  | lst es=>
   unfold Rep at q
   obtain⟨b,ys,e1,q1,q2⟩:=q
   cases e1
   cases I.list_inj h1 q1
   rw[Reps.inj I ds es h2 q2]
  | tup es=>
   unfold Rep at q
   obtain⟨b,ys,e1,q1,q2⟩:=q
   cases e1
   obtain⟨_,_,p1,_⟩:=I.list h1
   obtain⟨_,_,p2,_⟩:=I.tuple q1
   exact absurd rfl (ne_of_list_tuple (s:=s) p1.isList p2)
  | _=>unfold Rep at q;cases q
 | .tup ds,e,v,h,q=>by
  unfold Rep at h
  obtain⟨a,xs,rfl,h1,h2⟩:=h
  cases e with
  | tup es=>
   unfold Rep at q
   obtain⟨b,ys,e1,q1,q2⟩:=q
   cases e1
   cases I.tuple_inj h1 q1
   rw[Reps.inj I ds es h2 q2]
  | lst es=>
   unfold Rep at q
   obtain⟨b,ys,e1,q1,q2⟩:=q
   cases e1
   obtain⟨_,_,p1,_⟩:=I.list q1
   obtain⟨_,_,p2,_⟩:=I.tuple h1
   exact absurd rfl (ne_of_list_tuple (s:=s) p1.isList p2)
  | _=>unfold Rep at q;cases q
theorem Reps.inj {X:Cx}{pins:List (Addr × Obj)}{σ:St}{H:Hp}{s:Shared}(I:Inv X pins σ H s):∀ (ds es:List D) {vs:List V},Reps X.K H ds vs→Reps X.K H es vs→ds=es
 | [],es,vs,h,q=>by
  unfold Reps at h;subst h
  cases es with
  | nil=>rfl
  | cons e es=>unfold Reps at q;obtain⟨_,_,q,_⟩:=q;cases q
 | d::ds,es,vs,h,q=>by
  unfold Reps at h
  obtain⟨v,r,rfl,h1,h2⟩:=h
  cases es with
  | nil=>unfold Reps at q;cases q
  | cons e es=>
   unfold Reps at q
   obtain⟨w,r',e1,q1,q2⟩:=q
   cases e1
   rw[Rep.inj I d e h1 q1,Reps.inj I ds es h2 q2]
end

section
variable {X : Cx} {pins : List (Addr × Obj)} {σ : St} {H : Hp} {s : Shared}
theorem zgF {d:D}{x:V}(h:Rep X.K H d x) (f:zdb x=true):(∃ b,d=.bl b∧x=.bl b)∨(∃ i,d=.int i∧x=.int i)∨(∃ z,d=.str z∧x=.str z)∨(d=.non∧x=.non):=by
 cases d with
 | non=>unfold Rep at h;exact .inr (.inr (.inr ⟨rfl,h⟩))
 | bl b=>unfold Rep at h;exact .inl ⟨b,rfl,h⟩
 | int b=>unfold Rep at h;exact .inr (.inl ⟨b,rfl,h⟩)
 | str b=>unfold Rep at h;exact .inr (.inr (.inl ⟨b,rfl,h⟩))
 | lst ds=>unfold Rep at h;obtain⟨a,xs,rfl,_⟩:=h;cases f
 | tup ds=>unfold Rep at h;obtain⟨a,xs,rfl,_⟩:=h;cases f
theorem zmi {d e:D}{x y:V}(h:Rep X.K H d x) (q:Rep X.K H e y) (fx:zdb x=true) (fy:zdb y=true):eqV x y=pyEq d e:=by
 rcases zgF h fx with ⟨b,rfl,rfl⟩ | ⟨b,rfl,rfl⟩ | ⟨b,rfl,rfl⟩ | ⟨rfl,rfl⟩ <;> rcases zgF q fy with ⟨c,rfl,rfl⟩ | ⟨c,rfl,rfl⟩ | ⟨c,rfl,rfl⟩ | ⟨rfl,rfl⟩ <;> unfold pyEq eqV <;> rfl
theorem zeT {A:Around}{ds es:List D}{xs ys:List V}{us vs:List Value}(hd:Reps X.K H ds xs) (he:Reps X.K H es ys) (ru:Vals xs us) (rv:Vals ys vs)
  (ih:∀ (d e:D) (x y:V) (u v:Value),d∈ds→Rep X.K H d x→Rep X.K H e y→RelV x u→RelV y v→EqAt A s u v (pyEq d e)) :
  ∀ j (h1:j<us.toArray.size) (h2:j<vs.toArray.size),EqAt A s us.toArray[j] vs.toArray[j] (pyEq (ds.getD j .non) (es.getD j .non)):=by
 intro j h1 h2
 simp only[zst] at h1 h2
 have l1:=hd.length
 have l2:=he.length
 have l3:=ru.length
 have l4:=rv.length
 have j1:j<ds.length:=by omega
 have j2:j<es.length:=by omega
 obtain⟨x,ex,rx⟩:=hd.get (i:=j) (d:=ds[j]) (by simp[j1])
 obtain⟨y,ey,ry⟩:=he.get (i:=j) (d:=es[j]) (by simp[j2])
 obtain⟨u,eu,ru'⟩:=ru.get ex
 obtain⟨v,ev,rv'⟩:=rv.get ey
 have e1:us.toArray[j]=u:=by
  obtain⟨_,q⟩:=zge.mp eu
  simpa using q
 have e2:vs.toArray[j]=v:=by
  obtain⟨_,q⟩:=zge.mp ev
  simpa using q
 rw[e1,e2,show ds.getD j .non=ds[j] by simp[List.getD,j1],show es.getD j .non=es[j] by simp[List.getD,j2]]
 exact ih _ _ x y u v (List.getElem_mem j1) rx ry ru' rv'
theorem zm7 (I:Inv X pins σ H s):∀ (n:Nat) (d e:D) (A:Around) (x y:V) (u v:Value),dep d≤n→A.units+n<cLine→Rep X.K H d x→Rep X.K H e y→RelV x u→RelV y v→EqAt A s u v (pyEq d e):=by
 intro n
 induction n with
 | zero=>
  intro d e A x y u v hn hu hd he ru rv
  have fx:zdb x=true:=by
   cases d with
   | non=>unfold Rep at hd;subst hd;rfl
   | bl b=>unfold Rep at hd;subst hd;rfl
   | int b=>unfold Rep at hd;subst hd;rfl
   | str b=>unfold Rep at hd;subst hd;rfl
   | lst ds=>unfold dep at hn;omega
   | tup ds=>unfold dep at hn;omega
  by_cases fy:zdb y=true
  ·rw[←zmi hd he fx fy]
   exact zmX ru rv fx fy
  ·cases e with
   | non=>unfold Rep at he;subst he;exact absurd rfl fy
   | bl b=>unfold Rep at he;subst he;exact absurd rfl fy
   | int b=>unfold Rep at he;subst he;exact absurd rfl fy
   | str b=>unfold Rep at he;subst he;exact absurd rfl fy
   | lst es=>
    unfold Rep at he
    obtain⟨a,ys,rfl,hq,_⟩:=he
    cases rv
    obtain⟨_,_,p,_⟩:=I.list hq
    rcases zgF hd fx with ⟨b,rfl,rfl⟩ | ⟨b,rfl,rfl⟩ | ⟨b,rfl,rfl⟩ | ⟨rfl,rfl⟩
    ·cases ru;unfold pyEq;exact EqAt.bool_list b p.isList (by omega)
    ·obtain⟨t,rfl⟩:=ru;unfold pyEq;exact EqAt.int_list b t p.isList (by omega)
    ·obtain⟨t,rfl⟩:=ru;unfold pyEq;exact EqAt.str_list b t p.isList (by omega)
    ·cases ru;unfold pyEq;exact EqAt.none_list p.isList (by omega)
   | tup es=>
    unfold Rep at he
    obtain⟨a,ys,rfl,hq,_⟩:=he
    cases rv
    obtain⟨_,_,p,_⟩:=I.tuple hq
    rcases zgF hd fx with ⟨b,rfl,rfl⟩ | ⟨b,rfl,rfl⟩ | ⟨b,rfl,rfl⟩ | ⟨rfl,rfl⟩
    ·cases ru;unfold pyEq;exact EqAt.bool_tuple b p (by omega)
    ·obtain⟨t,rfl⟩:=ru;unfold pyEq;exact EqAt.int_tuple b t p (by omega)
    ·obtain⟨t,rfl⟩:=ru;unfold pyEq;exact EqAt.str_tuple b t p (by omega)
    ·cases ru;unfold pyEq;exact EqAt.none_tuple p (by omega)
 | succ n ih=>
  intro d e A x y u v hn hu hd he ru rv
  by_cases h0:dep d≤n
  ·exact ih d e A x y u v h0 (by omega) hd he ru rv
  ·cases d with
   | non=>unfold dep at h0;omega
   | bl b=>unfold dep at h0;omega
   | int b=>unfold dep at h0;omega
   | str b=>unfold dep at h0;omega
   | lst ds=>
    unfold dep at hn
    have hd0:=hd
    unfold Rep at hd
    obtain⟨a,xs,rfl,hx,rx⟩:=hd
    cases ru
    obtain⟨its,vx,px,zx⟩:=I.list hx
    cases e with
    | non=>unfold Rep at he;subst he;cases rv;unfold pyEq;exact EqAt.list_none px.isList (by omega)
    | bl b=>unfold Rep at he;subst he;cases rv;unfold pyEq;exact EqAt.list_bool b px.isList (by omega)
    | int b=>unfold Rep at he;subst he;obtain⟨t,rfl⟩:=rv;unfold pyEq;exact EqAt.list_int b t px.isList (by omega)
    | str b=>unfold Rep at he;subst he;obtain⟨t,rfl⟩:=rv;unfold pyEq;exact EqAt.list_str b t px.isList (by omega)
    | tup es=>
     unfold Rep at he
     obtain⟨b,ys,rfl,hy,ry⟩:=he
     cases rv
     obtain⟨jts,vy,py,zy⟩:=I.tuple hy
     unfold pyEq
     exact EqAt.list_tuple px.isList py (by omega)
    | lst es=>
     have he0:=he
     unfold Rep at he
     obtain⟨b,ys,rfl,hy,ry⟩:=he
     cases rv
     obtain⟨jts,vy,py,zy⟩:=I.list hy
     by_cases hab:a=b
     ·subst hab
      rw[Rep.inj I _ _ hd0 he0,zdd]
      exact EqAt.same _
     ·refine EqAt.of_refs hab ?_
      unfold pyEq
      have l1:=rx.length
      have l2:=ry.length
      have l3:=vx.length
      have l4:=vy.length
      by_cases hl:ds.length=es.length
      ·have q:=RcAt.lists (A:=A) (e:=λj=>pyEq (ds.getD j .non) (es.getD j .non)) px.isList py.isList (by simp only[zst];omega) (by omega)
        (zeT rx ry vx vy λd e x y u v hm h1 h2 h3 h4=>ih d e A.in1 x y u v (Nat.le_trans (zdY hm) (by omega)) (by show A.units+1+n<cLine;omega) h1 h2 h3 h4)
       rw[show its.toArray.size=ds.length by rw[zst];omega,zdf hl] at q
       exact q
      ·rw[show zbF ds es=false by
        cases h:zbF ds es with
        | false=>rfl
        | true=>exact absurd (zde h) hl]
       exact RcAt.lists_lengths px.isList py.isList (by simp only[zst,bne_iff_ne];omega) (by omega)
   | tup ds=>
    unfold dep at hn
    have hd0:=hd
    unfold Rep at hd
    obtain⟨a,xs,rfl,hx,rx⟩:=hd
    cases ru
    obtain⟨its,vx,px,zx⟩:=I.tuple hx
    cases e with
    | non=>unfold Rep at he;subst he;cases rv;unfold pyEq;exact EqAt.tuple_none px (by omega)
    | bl b=>unfold Rep at he;subst he;cases rv;unfold pyEq;exact EqAt.tuple_bool b px (by omega)
    | int b=>unfold Rep at he;subst he;obtain⟨t,rfl⟩:=rv;unfold pyEq;exact EqAt.tuple_int b t px (by omega)
    | str b=>unfold Rep at he;subst he;obtain⟨t,rfl⟩:=rv;unfold pyEq;exact EqAt.tuple_str b t px (by omega)
    | lst es=>
     unfold Rep at he
     obtain⟨b,ys,rfl,hy,ry⟩:=he
     cases rv
     obtain⟨jts,vy,py,zy⟩:=I.list hy
     unfold pyEq
     exact EqAt.tuple_list px py.isList (by omega)
    | tup es=>
     have he0:=he
     unfold Rep at he
     obtain⟨b,ys,rfl,hy,ry⟩:=he
     cases rv
     obtain⟨jts,vy,py,zy⟩:=I.tuple hy
     by_cases hab:a=b
     ·subst hab
      rw[Rep.inj I _ _ hd0 he0,zdd]
      exact EqAt.same _
     ·refine EqAt.of_refs hab ?_
      unfold pyEq
      have l1:=rx.length
      have l2:=ry.length
      have l3:=vx.length
      have l4:=vy.length
      have q:=RcAt.tuples (A:=A) (e:=λj=>pyEq (ds.getD j .non) (es.getD j .non)) px py (by omega)
        (zeT rx ry vx vy λd e x y u v hm h1 h2 h3 h4=>ih d e A.in1 x y u v (Nat.le_trans (zdY hm) (by omega)) (by show A.units+1+n<cLine;omega) h1 h2 h3 h4)
      by_cases hl:ds.length=es.length
      ·rw[show min its.toArray.size jts.toArray.size=ds.length by rw[zst,zst];omega,zdf hl,show (its.toArray.size == jts.toArray.size)=true by rw[zst,zst,beq_iff_eq];omega,Bool.and_true] at q
       exact q
      ·rw[show zbF ds es=false by
        cases h:zbF ds es with
        | false=>rfl
        | true=>exact absurd (zde h) hl]
       rw[show (its.toArray.size == jts.toArray.size)=false by rw[zst,zst,beq_eq_false_iff_ne];omega,Bool.and_false] at q
       exact q
theorem zm8 (I:Inv X pins σ H s) {n:Nat}{d e:D}{A:Around}{a b:Addr}(hn:dep d≤n) (hu:A.units+n<cLine) (hd:Rep X.K H d (.ref a)) (he:Rep X.K H e (.ref b)):RcAt A s (.ref a) (.ref b) (pyEq d e)∧RcNeAt A s (.ref a) (.ref b) (!pyEq d e):=by
 cases d with
 | non=>unfold Rep at hd;cases hd
 | bl _=>unfold Rep at hd;cases hd
 | int _=>unfold Rep at hd;cases hd
 | str _=>unfold Rep at hd;cases hd
 | lst ds=>
  unfold dep at hn
  unfold Rep at hd
  obtain⟨_,xs,e1,hx,rx⟩:=hd
  cases e1
  obtain⟨its,vx,px,zx⟩:=I.list hx
  cases e with
  | non=>unfold Rep at he;cases he
  | bl _=>unfold Rep at he;cases he
  | int _=>unfold Rep at he;cases he
  | str _=>unfold Rep at he;cases he
  | tup es=>
   unfold Rep at he
   obtain⟨_,ys,e1,hy,ry⟩:=he
   cases e1
   obtain⟨jts,vy,py,zy⟩:=I.tuple hy
   unfold pyEq
   exact⟨RcAt.list_tuple px.isList py (by omega),RcNeAt.list_tuple px.isList py (by omega)⟩
  | lst es=>
   unfold Rep at he
   obtain⟨_,ys,e1,hy,ry⟩:=he
   cases e1
   obtain⟨jts,vy,py,zy⟩:=I.list hy
   unfold pyEq
   have l1:=rx.length
   have l2:=ry.length
   have l3:=vx.length
   have l4:=vy.length
   by_cases hl:ds.length=es.length
   ·have it:=zeT (s:=s) (A:=A.in1) rx ry vx vy λd e x y u v hm h1 h2 h3 h4=>zm7 I (n - 1) d e A.in1 x y u v (Nat.le_trans (zdY hm) (by omega)) (by show A.units+1+(n - 1)<cLine;omega) h1 h2 h3 h4
    have q:=RcAt.lists (A:=A) px.isList py.isList (by simp only[zst];omega) (by omega) it
    have q2:=RcNeAt.lists (A:=A) px.isList py.isList (by simp only[zst];omega) (by omega) it
    rw[show its.toArray.size=ds.length by rw[zst];omega,zdf hl] at q q2
    exact⟨q,q2⟩
   ·rw[show zbF ds es=false by
     cases h:zbF ds es with
     | false=>rfl
     | true=>exact absurd (zde h) hl]
    exact⟨RcAt.lists_lengths px.isList py.isList (by simp only[zst,bne_iff_ne];omega) (by omega),RcNeAt.lists_lengths px.isList py.isList (by simp only[zst,bne_iff_ne];omega) (by omega)⟩
 | tup ds=>
  unfold dep at hn
  unfold Rep at hd
  obtain⟨_,xs,e1,hx,rx⟩:=hd
  cases e1
  obtain⟨its,vx,px,zx⟩:=I.tuple hx
  cases e with
  | non=>unfold Rep at he;cases he
  | bl _=>unfold Rep at he;cases he
  | int _=>unfold Rep at he;cases he
  | str _=>unfold Rep at he;cases he
  | lst es=>
   unfold Rep at he
   obtain⟨_,ys,e1,hy,ry⟩:=he
   cases e1
   obtain⟨jts,vy,py,zy⟩:=I.list hy
   unfold pyEq
   exact⟨RcAt.tuple_list px py.isList (by omega),RcNeAt.tuple_list px py.isList (by omega)⟩
  | tup es=>
   unfold Rep at he
   obtain⟨_,ys,e1,hy,ry⟩:=he
   cases e1
   obtain⟨jts,vy,py,zy⟩:=I.tuple hy
   unfold pyEq
   have l1:=rx.length
   have l2:=ry.length
   have l3:=vx.length
   have l4:=vy.length
   have it:=zeT (s:=s) (A:=A.in1) rx ry vx vy λd e x y u v hm h1 h2 h3 h4=>zm7 I (n - 1) d e A.in1 x y u v (Nat.le_trans (zdY hm) (by omega)) (by show A.units+1+(n - 1)<cLine;omega) h1 h2 h3 h4
   have q:=RcAt.tuples (A:=A) px py (by omega) it
   have q2:=RcNeAt.tuples (A:=A) px py (by omega) it
   by_cases hl:ds.length=es.length
   ·rw[show min its.toArray.size jts.toArray.size=ds.length by rw[zst,zst];omega,zdf hl,show (its.toArray.size == jts.toArray.size)=true by rw[zst,zst,beq_iff_eq];omega,Bool.and_true] at q q2
    exact⟨q,q2⟩
   ·rw[show zbF ds es=false by
     cases h:zbF ds es with
     | false=>rfl
     | true=>exact absurd (zde h) hl]
    rw[show (its.toArray.size == jts.toArray.size)=false by rw[zst,zst,beq_eq_false_iff_ne];omega,Bool.and_false] at q q2
    exact⟨q,q2⟩
end

def rEqD (K:Fg) (neg:Bool):R2:=λx y H Q=>∃ a b d e,x=.ref a∧y=.ref b∧Rep K H d (.ref a)∧Rep K H e (.ref b)∧dep d≤60∧Q (.bl (if neg then !pyEq d e else pyEq d e)) H
section
variable {X : Cx} {k : Nat}
theorem zo5 (hr:Room k X.A):OpR X (compareOp .Eq) (rEqD X.K false):=by
 intro pins s σ H x y v u Q I rx ry h
 obtain⟨a,b,d,e,rfl,rfl,hd,he,hn,q⟩:=h
 cases rx;cases ry
 exact (zm8 I (A:=X.A) hn (by have:=hr.units;omega) hd he).1 X.prog X.w X.xe _ ⟨.bl _,H,I,rfl,q⟩
theorem zo6 (hr:Room k X.A):OpR X (compareOp .NotEq) (rEqD X.K true):=by
 intro pins s σ H x y v u Q I rx ry h
 obtain⟨a,b,d,e,rfl,rfl,hd,he,hn,q⟩:=h
 cases rx;cases ry
 exact (zm8 I (A:=X.A) hn (by have:=hr.units;omega) hd he).2 X.prog X.w X.xe _ ⟨.bl _,H,I,rfl,q⟩
theorem zib:zce X (.builtin "isinstance") (λxs H Q=>∃ x c t b,xs=[x,.ty c]∧TyOf X.K H x t∧PySem.W.kitOne X.K t (.type c)=some b∧Q (.bl b) H):=by
 intro pins s σ H xs us Q I r h
 obtain⟨x,c,t,b,rfl,ty,e,q⟩:=h
 obtain⟨u,v,rfl,ru,rv⟩:=zoG r
 cases rv
 exact zkw I ru ty e λtk=>⟨.bl b,H,I.tok tk,rfl,q⟩
end
end L2

namespace L2
open PySem PySem.Spec PyProof.Rows

mutual
def RepF (H:Hp):D→V→List Addr→Prop
 | .non,v,fp=>v=.non∧fp=[]
 | .bl b,v,fp=>v=.bl b∧fp=[]
 | .int i,v,fp=>v=.int i∧fp=[]
 | .str x,v,fp=>v=.str x∧fp=[]
 | .lst ds,v,fp=>∃ a xs r,v=.ref a∧fp=a::r∧H a=some (.lst xs)∧zaj H ds xs r
 | .tup ds,v,fp=>∃ a xs,v=.ref a∧H a=some (.tup xs)∧zaj H ds xs fp
def zaj (H:Hp):List D→List V→List Addr→Prop
 | [],vs,fp=>vs=[]∧fp=[]
 | d::ds,vs,fp=>∃ v r f g,vs=v::r∧fp=f++g∧RepF H d v f∧zaj H ds r g
end
mutual
theorem RepF.rep {K:Fg}{H:Hp} : ∀ (d:D) {v:V}{fp:List Addr},RepF H d v fp→Rep K H d v
 | .non,_,_,h=>by unfold RepF at h;unfold Rep;exact h.1
 | .bl _,_,_,h=>by unfold RepF at h;unfold Rep;exact h.1
 | .int _,_,_,h=>by unfold RepF at h;unfold Rep;exact h.1
 | .str _,_,_,h=>by unfold RepF at h;unfold Rep;exact h.1
 | .lst ds,_,_,h=>by
  unfold RepF at h;unfold Rep
  obtain⟨a,xs,r,h1,_,h2,h3⟩:=h
  exact⟨a,xs,h1,SqL.of h2,zaj.reps ds h3⟩
 | .tup ds,_,_,h=>by
  unfold RepF at h;unfold Rep
  obtain⟨a,xs,h1,h2,h3⟩:=h
  exact⟨a,xs,h1,SqT.of h2,zaj.reps ds h3⟩
theorem zaj.reps {K:Fg}{H:Hp} : ∀ (ds:List D) {vs:List V}{fp:List Addr},zaj H ds vs fp→Reps K H ds vs
 | [],_,_,h=>by unfold zaj at h;unfold Reps;exact h.1
 | d::ds,_,_,h=>by
  unfold zaj at h;unfold Reps
  obtain⟨v,r,f,g,h1,_,h2,h3⟩:=h
  exact⟨v,r,h1,RepF.rep d h2,zaj.reps ds h3⟩
end
def Tups (H H':Hp):Prop:=∀ b xs,H b=some (.tup xs)→H' b=some (.tup xs)
theorem Same.tups {H H':Hp}(e:Same H H'):Tups H H':=λ_ _ h=>e _ _ h
theorem Tups.trans {H H1 H2:Hp}(a:Tups H H1) (b:Tups H1 H2):Tups H H2:=λc o h=>b c o (a c o h)
theorem zeU {H:Hp}{a:Addr}{o:HO}(h:∀ xs,H a≠some (.tup xs)):Tups H (upd H a o):=λb xs e=>by rw[zak (λz=>h xs (by rw[←z];exact e))];exact e
theorem zb3 {H:Hp}{a:Addr}{o:HO}{ys:List V}(h:H a=some (.lst ys)):Tups H (upd H a o):=zeU λxs e=>by rw[h] at e;cases e
mutual
theorem RepF.frame {H H':Hp}(tk:Tups H H'):∀ (d:D) {v:V}{fp:List Addr},(∀ a∈fp,H' a=H a)→RepF H d v fp→RepF H' d v fp
 | .non,_,_,_,h=>by unfold RepF at *;exact h
 | .bl _,_,_,_,h=>by unfold RepF at *;exact h
 | .int _,_,_,_,h=>by unfold RepF at *;exact h
 | .str _,_,_,_,h=>by unfold RepF at *;exact h
 | .lst ds,_,_,k,h=>by
  unfold RepF at *
  obtain⟨a,xs,r,h1,h0,h2,h3⟩:=h
  subst h0
  exact⟨a,xs,r,h1,rfl,(k a List.mem_cons_self).trans h2,zaj.frame tk ds (λb hb=>k b (List.mem_cons_of_mem _ hb)) h3⟩
 | .tup ds,_,_,k,h=>by
  unfold RepF at *
  obtain⟨a,xs,h1,h2,h3⟩:=h
  exact⟨a,xs,h1,tk _ _ h2,zaj.frame tk ds k h3⟩
theorem zaj.frame {H H':Hp}(tk:Tups H H'):∀ (ds:List D) {vs:List V}{fp:List Addr},(∀ a∈fp,H' a=H a)→zaj H ds vs fp→zaj H' ds vs fp
 | [],_,_,_,h=>by unfold zaj at *;exact h
 | d::ds,_,_,k,h=>by
  unfold zaj at *
  obtain⟨v,r,f,g,h1,h0,h2,h3⟩:=h
  subst h0
  exact⟨v,r,f,g,h1,rfl,RepF.frame tk d (λb hb=>k b (List.mem_append_left _ hb)) h2,zaj.frame tk ds (λb hb=>k b (List.mem_append_right _ hb)) h3⟩
end
mutual
theorem RepF.has {H:Hp} : ∀ (d:D) {v:V}{fp:List Addr},RepF H d v fp→∀ a∈fp,∃ o,H a=some o
 | .non,_,_,h,a,m=>by unfold RepF at h;rw[h.2] at m;cases m
 | .bl _,_,_,h,a,m=>by unfold RepF at h;rw[h.2] at m;cases m
 | .int _,_,_,h,a,m=>by unfold RepF at h;rw[h.2] at m;cases m
 | .str _,_,_,h,a,m=>by unfold RepF at h;rw[h.2] at m;cases m
 | .lst ds,_,_,h,b,m=>by
  unfold RepF at h
  obtain⟨a,xs,r,h1,h0,h2,h3⟩:=h
  subst h0
  rcases List.mem_cons.mp m with m | m
  ·subst m;exact⟨_,h2⟩
  ·exact zaj.has ds h3 b m
 | .tup ds,_,_,h,b,m=>by
  unfold RepF at h
  obtain⟨a,xs,h1,h2,h3⟩:=h
  exact zaj.has ds h3 b m
theorem zaj.has {H:Hp} : ∀ (ds:List D) {vs:List V}{fp:List Addr},zaj H ds vs fp→∀ a∈fp,∃ o,H a=some o
 | [],_,_,h,a,m=>by unfold zaj at h;rw[h.2] at m;cases m
 | d::ds,_,_,h,b,m=>by
  unfold zaj at h
  obtain⟨v,r,f,g,h1,h0,h2,h3⟩:=h
  subst h0
  rcases zma.mp m with m | m
  ·exact RepF.has d h2 b m
  ·exact zaj.has ds h3 b m
end
theorem zaj.length {H:Hp} : ∀ {ds:List D}{vs:List V}{fp:List Addr},zaj H ds vs fp→ds.length=vs.length
 | [],_,_,h=>by unfold zaj at h;rw[h.1];rfl
 | d::ds,_,_,h=>by
  unfold zaj at h
  obtain⟨v,r,f,g,rfl,_,_,h3⟩:=h
  simp[zaj.length h3]
theorem zaj.snoc {H:Hp} : ∀ {ds:List D}{vs:List V}{fp:List Addr}{d:D}{v:V}{f:List Addr},zaj H ds vs fp→RepF H d v f→zaj H (ds++[d]) (vs++[v]) (fp++f)
 | [],_,_,d,v,f,h,q=>by
  unfold zaj at h
  obtain⟨rfl,rfl⟩:=h
  show zaj H [d] [v] ([]++f)
  unfold zaj
  exact⟨v,[],f,[],rfl,by simp,q,by unfold zaj;exact⟨rfl,rfl⟩⟩
 | c::ds,_,_,d,v,f,h,q=>by
  unfold zaj at h
  obtain⟨u,r,f1,g1,rfl,rfl,h2,h3⟩:=h
  rw[List.cons_append,List.cons_append,List.append_assoc]
  unfold zaj
  exact⟨u,_,f1,_,rfl,rfl,h2,zaj.snoc h3 q⟩
theorem zaj.ints {H:Hp} : ∀ {ns:List Int},zaj H (ns.map D.int) (ns.map V.int) []
 | []=>by unfold List.map zaj;exact⟨rfl,rfl⟩
 | n::ns=>by
  rw[zmc,zmc]
  unfold zaj
  exact⟨_,_,[],[],rfl,rfl,by unfold RepF;exact⟨rfl,rfl⟩,zaj.ints⟩
theorem zaj.ints_eq {H:Hp} : ∀ {ns:List Int}{vs:List V}{fp:List Addr},zaj H (ns.map D.int) vs fp→vs=ns.map V.int∧fp=[]
 | [],_,_,h=>by unfold List.map zaj at h;exact h
 | n::ns,_,_,h=>by
  rw[zmc] at h
  unfold zaj at h
  obtain⟨v,r,f,g,rfl,rfl,h1,h2⟩:=h
  unfold RepF at h1
  obtain⟨rfl,rfl⟩:=h1
  obtain⟨rfl,rfl⟩:=zaj.ints_eq h2
  exact⟨rfl,rfl⟩
theorem zi2:∀ ns:List Int,dep (.lst (ns.map D.int))≤1
 | []=>by unfold List.map dep deps;exact Nat.le_refl _
 | n::ns=>by
  have ih:=zi2 ns
  unfold dep at ih ⊢
  rw[zmc]
  unfold deps dep
  omega
def New (H H':Hp) (d:D) (v:V):Prop:=∃ fp,RepF H' d v fp∧fp.Nodup∧∀ a∈fp,H a=none
abbrev nums (ns:List Int):D:=.lst (ns.map D.int)
theorem New.rep {K:Fg}{H H':Hp}{d:D}{v:V}(h:New H H' d v):Rep K H' d v:=let ⟨_,h,_⟩:=h;RepF.rep d h
theorem New.int {H H':Hp}{i:Int} : New H H' (.int i) (.int i):=⟨[],by unfold RepF;exact⟨rfl,rfl⟩,List.nodup_nil,λ_ m=>by cases m⟩
theorem New.bl {H H':Hp}{i:Bool} : New H H' (.bl i) (.bl i):=⟨[],by unfold RepF;exact⟨rfl,rfl⟩,List.nodup_nil,λ_ m=>by cases m⟩
theorem New.str {H H':Hp}{i:Str} : New H H' (.str i) (.str i):=⟨[],by unfold RepF;exact⟨rfl,rfl⟩,List.nodup_nil,λ_ m=>by cases m⟩
theorem New.back {H0 H H':Hp}{d:D}{v:V}(e:Same H0 H) (h:New H H' d v):New H0 H' d v:=by
 obtain⟨fp,h1,h2,h3⟩:=h
 exact⟨fp,h1,h2,λa m=>e.free (h3 a m)⟩
theorem New.same {H H' H2:Hp}{d:D}{v:V}(e:Same H' H2) (h:New H H' d v):New H H2 d v:=by
 obtain⟨fp,h1,h2,h3⟩:=h
 refine⟨fp,RepF.frame e.tups d (λa m=>?_) h1,h2,h3⟩
 obtain⟨o,ho⟩:=RepF.has d h1 a m
 rw[ho,e a o ho]
theorem New.ints_iff {H H':Hp}{ns:List Int}{v:V} : New H H' (nums ns) v↔∃ a,v=.ref a∧H a=none∧H' a=some (.lst (ns.map V.int)):=by
 constructor
 ·rintro⟨fp,h1,h2,h3⟩
  unfold RepF at h1
  obtain⟨a,xs,r,e1,e2,e3,e4⟩:=h1
  obtain⟨rfl,rfl⟩:=zaj.ints_eq e4
  subst e2
  exact⟨a,e1,h3 a List.mem_cons_self,e3⟩
 ·rintro⟨a,e1,e2,e3⟩
  refine⟨[a],?_,by simp,λb m=>by rw[zms.mp m];exact e2⟩
  unfold RepF
  exact⟨a,_,[],e1,rfl,e3,zaj.ints⟩
theorem zb4 {K:Fg}{H:Hp}{ns:List Int}{v:V} : Rep K H (nums ns) v↔∃ a,v=.ref a∧SqL K H a (ns.map V.int):=by
 unfold Rep
 constructor
 ·rintro⟨a,xs,e1,e2,e3⟩
  rw[Reps.ints.mp e3] at e2
  exact⟨a,e1,e2⟩
 ·rintro⟨a,e1,e2⟩
  exact⟨a,_,e1,e2,Reps.ints.mpr rfl⟩
theorem zah {H:Hp}{p:Addr}(h:H p=none) (o:HO):Same H (upd H p o):=λb u q=>by rw[zak (zam q h)];exact q
theorem New.lst {H1 H':Hp}{ds:List D}{vs:List V}{fp:List Addr}{a:Addr}(h:zaj H' ds vs fp) (nd:fp.Nodup) (hf:∀ b∈fp,H1 b=none) (ha:H1 a=none) (na:a∉fp) (hH:H' a=some (.lst vs)):New H1 H' (.lst ds) (.ref a):=by
 refine⟨a::fp,?_,List.nodup_cons.mpr ⟨na,nd⟩,λb m=>?_⟩
 ·unfold RepF;exact⟨a,vs,fp,rfl,rfl,hH,h⟩
 ·rcases List.mem_cons.mp m with m | m
  ·subst m;exact ha
  ·exact hf b m
theorem New.tup {H1 H':Hp}{ds:List D}{vs:List V}{fp:List Addr}{a:Addr}(h:zaj H' ds vs fp) (nd:fp.Nodup) (hf:∀ b∈fp,H1 b=none) (hH:H' a=some (.tup vs)):New H1 H' (.tup ds) (.ref a):=by
 refine⟨fp,?_,nd,hf⟩
 unfold RepF;exact⟨a,vs,rfl,hH,h⟩
structure Goes (J:It) (H1:Hp) (n:Nat) (P:Nat→V→Hp→Prop):Prop where
 go:∀ i H,i<n→Same H1 H→J.go i H
 stop:∀ H,Same H1 H→J.stop n H
 yld:∀ i H x H',i<n→Same H1 H→J.yld i H x H'→Same H H'∧P i x H'
theorem zbg {K:Fg}{a:Addr}{xs:List V}{H1:Hp}(h:SqL K H1 a xs):Goes (Itl K a) H1 xs.length (λi x _=>xs[i]?=some x) where
 go:=λi H hi e=>⟨xs,xs[i],e.seq h,by simp[hi]⟩
 stop:=λH e=>⟨xs,e.seq h,Nat.le_refl _⟩
 yld:=λi H x H' hi e q=>by
  obtain⟨rfl,q⟩:=q
  exact⟨Same.refl _,q xs (e.seq h)⟩
theorem zgG {K:Fg}{a:Addr}{xs:List V}{H1:Hp}(h:SqT K H1 a xs):Goes (Itt K a) H1 xs.length (λi x _=>xs[i]?=some x) where
 go:=λi H hi e=>⟨xs,xs[i],e.tup h,by simp[hi]⟩
 stop:=λH e=>⟨xs,e.tup h,Nat.le_refl _⟩
 yld:=λi H x H' hi e q=>by
  obtain⟨rfl,q⟩:=q
  exact⟨Same.refl _,q xs (e.tup h)⟩
theorem zbS {lo:Int}{n:Nat}{H1:Hp} : Goes (Itr lo n) H1 n (λi x _=>x=.int (lo+i)) where
 go:=λi H hi e=>hi
 stop:=λH e=>Nat.le_refl _
 yld:=λi H x H' hi e q=>by
  obtain⟨rfl,q⟩:=q
  exact⟨Same.refl _,q⟩
theorem zmj {K:Fg}{a b:Addr}{xs ys:List V}{H1:Hp}{n:Nat}(h:SqL K H1 a xs) (h2:SqL K H1 b ys) (hn:n=min xs.length ys.length) :
  Goes (Itz K a b) H1 n (λi v H=>∃ T x y,v=.ref T∧H T=some (.tup [x,y])∧xs[i]?=some x∧ys[i]?=some y) where
 go:=λi H hi e=>⟨xs,ys,xs[i]'(by omega),ys[i]'(by omega),e.seq h,e.seq h2,by simp,by simp⟩
 stop:=λH e=>⟨xs,ys,e.seq h,e.seq h2,by
  rcases Nat.le_total xs.length ys.length with z | z
  ·exact .inl (by simp;omega)
  ·exact .inr (by simp;omega)⟩
 yld:=λi H x H' hi e q=>by
  obtain⟨T,nT,rfl,q⟩:=q
  have i1:i<xs.length:=by omega
  have i2:i<ys.length:=by omega
  have:=q xs ys xs[i] ys[i] (e.seq h) (e.seq h2) (by simp) (by simp)
  subst this
  exact⟨zah nT _,T,_,_,rfl,zaf,by simp,by simp⟩
theorem zkX {K:Fg}{a:Addr}{xs:List V}{H1:Hp}(h:SqL K H1 a xs) :
  Goes (Itn K a) H1 xs.length (λi v H=>∃ T x,v=.ref T∧H T=some (.tup [.int i,x])∧xs[i]?=some x) where
 go:=λi H hi e=>⟨xs,xs[i],e.seq h,by simp[hi]⟩
 stop:=λH e=>⟨xs,e.seq h,Nat.le_refl _⟩
 yld:=λi H x H' hi e q=>by
  obtain⟨T,nT,rfl,q⟩:=q
  have:=q xs xs[i] (e.seq h) (by simp)
  subst this
  exact⟨zah nT _,T,_,rfl,zaf,by simp⟩
def zkY (J:It) (g:TG) (tt:TT) (te:TE) (σ0:St) (H1:Hp) (Q:VK):Prop:=∀ D,H1 D=none→
 ∃ W:Nat→Nat→List V→Hp→Prop,(∃ m,W 0 m [] (upd H1 D (.lst [])))∧∀ i m ys H,W i m ys H→H D=some (.lst ys)∧
  ((J.stop i H∧Q (.ref D) H)∨(J.go i H∧ys.length<sizeLine∧∃ N:List V→Hp→Prop,(∀ ys' H',N ys' H'→∃ m',m'<m∧W (i+1) m' ys' H')∧
   ∀ x H',J.yld i H x H'→g x σ0 H' λσ2 H2=>tt σ2 H2 λb H3=>if b=true then te σ2 H3 λy H4=>H4 D=some (.lst ys)∧N (ys++[y]) (upd H4 D (.lst (ys++[y]))) else N ys H3))
def zjN (J:It) (g:TG) (tb:TS) (D:Ends) (σ:St) (H1:Hp):Prop:=∃ W:Nat→Nat→St→Hp→Prop,(∃ m,W 0 m σ H1)∧∀ i m σ H,W i m σ H→
 (J.stop i H∧D.nx σ H)∨(J.go i H∧∃ N:St→Hp→Prop,(∀ σ' H',N σ' H'→∃ m',m'<m∧W (i+1) m' σ' H')∧∀ x H',J.yld i H x H'→g x σ H' λσ2 H2=>tb {D with nx:=N,ct:=N,bk:=D.nx} σ2 H2)
theorem zaZ {J:It}{H1:Hp}{n:Nat}{P:Nat→V→Hp→Prop}{g:TG}{te:TE}{σ0:St}{Q:VK}(wk:Goes J H1 n P) (ds:List D) (hn:ds.length=n) (hz:n≤sizeLine)
  (step:∀ i x d H' (R:VK),i<n→ds[i]?=some d→Same H1 H'→P i x H'→(∀ y H3,Same H' H3→New H' H3 d y→R y H3)→g x σ0 H' λσ2 H2=>te σ2 H2 R)
  (fin:∀ v H',Same H1 H'→New H1 H' (.lst ds) v→Q v H') :
  zkY J g zo1 te σ0 H1 Q:=by
 intro Da hD
 refine⟨λi m ys H=>m=n - i∧i≤n∧Same H1 H∧H Da=some (.lst ys)∧∃ fp,zaj H (ds.take i) ys fp∧fp.Nodup∧Da∉fp∧∀ b∈fp,H1 b=none,⟨n,rfl,Nat.zero_le _,zah hD _,zaf,[],?_,List.nodup_nil,by simp,λ_ m=>by cases m⟩,?_⟩
 ·rw[List.take_zero];unfold zaj;exact⟨rfl,rfl⟩
 rintro i m ys H ⟨rfl,hi,hs,hH,fp,hr,nd,na,hf⟩
 refine⟨hH,?_⟩
 have hl:=hr.length
 rw[List.length_take] at hl
 by_cases hlt:i<n
 ·refine .inr ⟨wk.go i H hlt hs,by omega,λys' H'=>(n - (i+1)<n - i∧i+1≤n∧Same H1 H'∧H' Da=some (.lst ys')∧∃ fp,zaj H' (ds.take (i+1)) ys' fp∧fp.Nodup∧Da∉fp∧∀ b∈fp,H1 b=none),λys' H' ⟨q1,q2,q3,q4,q5⟩=>⟨n - (i+1),q1,rfl,q2,q3,q4,q5⟩,λx H' hy=>?_⟩
  obtain⟨s1,hp⟩:=wk.yld i H x H' hlt hs hy
  have hi':i<ds.length:=by omega
  refine step i x ds[i] H' _ hlt (by simp) (hs.trans s1) hp λy H3 s3 hn3=>?_
  have hD3:H3 Da=some (.lst ys):=s3 _ _ (s1 _ _ hH)
  refine⟨hD3,by omega,hlt,?_,zaf,?_⟩
  ·intro b o e
   rw[zak (zam e hD)]
   exact s3 _ _ (s1 _ _ (hs _ _ e))
  ·obtain⟨fq,h1,h2,h3⟩:=hn3
   have keep:∀ b∈fp,(upd H3 Da (.lst (ys++[y]))) b=H b:=λb hb=>by
    obtain⟨o,ho⟩:=zaj.has _ hr b hb
    rw[zak (show b≠Da from λz=>na (by rw[←z];exact hb)),ho]
    exact s3 _ _ (s1 _ _ ho)
   have nDq:Da∉fq:=λz=>by
    have:=h3 Da z
    rw[s1 _ _ hH] at this;cases this
   have tk2:Tups H3 (upd H3 Da (.lst (ys++[y]))):=zb3 hD3
   have tk1:Tups H (upd H3 Da (.lst (ys++[y]))):=((s1.trans s3).tups).trans tk2
   have keep2:∀ b∈fq,(upd H3 Da (.lst (ys++[y]))) b=H3 b:=λb hb=>by rw[zak (show b≠Da from λz=>nDq (by rw[←z];exact hb))]
   refine⟨fp++fq,?_,?_,?_,?_⟩
   ·have:=(zaj.frame tk1 _ keep hr).snoc (RepF.frame tk2 _ keep2 h1)
    rw[List.take_add_one,show ds[i]?.toList=[ds[i]] by simp[hi']]
    exact this
   ·refine List.nodup_append.mpr ⟨nd,h2,λa ha b hb z=>?_⟩
    subst z
    obtain⟨o,ho⟩:=zaj.has _ hr a ha
    have:=h3 a hb
    rw[s1 _ _ ho] at this;cases this
   ·exact λz=>(zma.mp z).elim na nDq
   ·intro b hb
    rcases zma.mp hb with z | z
    ·exact hf b z
    ·exact (hs.trans s1).free (h3 b z)
 ·have e:i=n:=by omega
  subst e
  refine .inl ⟨wk.stop H hs,fin _ _ hs ?_⟩
  rw[List.take_of_length_le (by omega)] at hr
  exact New.lst hr nd hf hD na hH
theorem zkZ {J:It}{H1:Hp}{n:Nat}{P:Nat→V→Hp→Prop}{g:TG}{tt:TT}{te:TE}{σ0:St}{Q:VK}(wk:Goes J H1 n P) (k:Nat→Bool) (d:Nat→D) (hz:n≤sizeLine)
  (step:∀ i x H' (R1:VK) (R2:Hp→Prop),i<n→Same H1 H'→P i x H'→(k i=true→∀ y H3,Same H' H3→New H' H3 (d i) y→R1 y H3)→(k i=false→∀ H3,Same H' H3→R2 H3)→
   g x σ0 H' λσ2 H2=>tt σ2 H2 λb H3=>if b=true then te σ2 H3 R1 else R2 H3)
  (fin:∀ v H',Same H1 H'→New H1 H' (.lst (((List.range n).filter k).map d)) v→Q v H') :
  zkY J g tt te σ0 H1 Q:=by
 intro Da hD
 refine⟨λi m ys H=>m=n - i∧i≤n∧Same H1 H∧H Da=some (.lst ys)∧∃ fp,zaj H (((List.range i).filter k).map d) ys fp∧fp.Nodup∧Da∉fp∧∀ b∈fp,H1 b=none,⟨n,rfl,Nat.zero_le _,zah hD _,zaf,[],?_,List.nodup_nil,by simp,λ_ m=>by cases m⟩,?_⟩
 ·simp only[List.range_zero,List.filter_nil,List.map_nil];unfold zaj;exact⟨rfl,rfl⟩
 rintro i m ys H ⟨rfl,hi,hs,hH,fp,hr,nd,na,hf⟩
 refine⟨hH,?_⟩
 have hl:=hr.length
 have hl2:((List.range i).filter k).length≤i:=by
  have:=List.length_filter_le k (List.range i)
  rwa [List.length_range] at this
 rw[zlm] at hl
 by_cases hlt:i<n
 ·refine .inr ⟨wk.go i H hlt hs,by omega,λys' H'=>(n - (i+1)<n - i∧i+1≤n∧Same H1 H'∧H' Da=some (.lst ys')∧∃ fp,zaj H' (((List.range (i+1)).filter k).map d) ys' fp∧fp.Nodup∧Da∉fp∧∀ b∈fp,H1 b=none),λys' H' ⟨q1,q2,q3,q4,q5⟩=>⟨n - (i+1),q1,rfl,q2,q3,q4,q5⟩,λx H' hy=>?_⟩
  obtain⟨s1,hp⟩:=wk.yld i H x H' hlt hs hy
  refine step i x H' _ _ hlt (hs.trans s1) hp (λhk y H3 s3 hn3=>?_) (λhk H3 s3=>?_)
  ·have hD3:H3 Da=some (.lst ys):=s3 _ _ (s1 _ _ hH)
   refine⟨hD3,by omega,hlt,?_,zaf,?_⟩
   ·intro b o e
    rw[zak (zam e hD)]
    exact s3 _ _ (s1 _ _ (hs _ _ e))
   ·obtain⟨fq,h1,h2,h3⟩:=hn3
    have keep:∀ b∈fp,(upd H3 Da (.lst (ys++[y]))) b=H b:=λb hb=>by
     obtain⟨o,ho⟩:=zaj.has _ hr b hb
     rw[zak (show b≠Da from λz=>na (by rw[←z];exact hb)),ho]
     exact s3 _ _ (s1 _ _ ho)
    have nDq:Da∉fq:=λz=>by
     have:=h3 Da z
     rw[s1 _ _ hH] at this;cases this
    have tk2:Tups H3 (upd H3 Da (.lst (ys++[y]))):=zb3 hD3
    have tk1:Tups H (upd H3 Da (.lst (ys++[y]))):=((s1.trans s3).tups).trans tk2
    have keep2:∀ b∈fq,(upd H3 Da (.lst (ys++[y]))) b=H3 b:=λb hb=>by rw[zak (show b≠Da from λz=>nDq (by rw[←z];exact hb))]
    refine⟨fp++fq,?_,?_,?_,?_⟩
    ·have:=(zaj.frame tk1 _ keep hr).snoc (RepF.frame tk2 _ keep2 h1)
     rw[List.range_succ,List.filter_append,List.map_append,List.filter_cons,hk]
     exact this
    ·refine List.nodup_append.mpr ⟨nd,h2,λa ha b hb z=>?_⟩
     subst z
     obtain⟨o,ho⟩:=zaj.has _ hr a ha
     have:=h3 a hb
     rw[s1 _ _ ho] at this;cases this
    ·exact λz=>(zma.mp z).elim na nDq
    ·intro b hb
     rcases zma.mp hb with z | z
     ·exact hf b z
     ·exact (hs.trans s1).free (h3 b z)
  ·refine⟨by omega,hlt,hs.trans (s1.trans s3),s3 _ _ (s1 _ _ hH),fp,?_,nd,na,hf⟩
   rw[List.range_succ,List.filter_append,List.map_append,List.filter_cons,hk]
   simp only[Bool.false_eq_true,if_false,List.filter_nil,List.map_nil,List.append_nil]
   refine zaj.frame (s1.trans s3).tups _ (λb hb=>?_) hr
   obtain⟨o,ho⟩:=zaj.has _ hr b hb
   rw[ho]
   exact s3 _ _ (s1 _ _ ho)
 ·have e:i=n:=by omega
  subst e
  exact .inl ⟨wk.stop H hs,fin _ _ hs (New.lst hr nd hf hD na hH)⟩
theorem zk0 {J:It}{H1:Hp}{n:Nat}{P:Nat→V→Hp→Prop}{g:TG}{tb:TS}{D:Ends}{σ:St}(wk:Goes J H1 n P) (Pv:Nat→St→Hp→Prop) (h0:Pv 0 σ H1) (hl:∀ i σ H,Pv i σ H→Same H1 H)
  (hs:∀ i x σ H H',i<n→Pv i σ H→Same H H'→P i x H'→g x σ H' λσ2 H2=>tb {D with nx:=Pv (i+1),ct:=Pv (i+1),bk:=D.nx} σ2 H2) (hd:∀ σ H,Pv n σ H→D.nx σ H) :
  zjN J g tb D σ H1:=by
 refine⟨λi m σ H=>m=n - i∧i≤n∧Pv i σ H,⟨n,by simp,Nat.zero_le _,h0⟩,?_⟩
 rintro i m σ H ⟨rfl,hi,p⟩
 have e:=hl i σ H p
 by_cases hlt:i<n
 ·refine .inr ⟨wk.go i H hlt e,Pv (i+1),λσ' H' p'=>⟨n - (i+1),by omega,rfl,hlt,p'⟩,λx H' y=>?_⟩
  obtain⟨s1,hp⟩:=wk.yld i H x H' hlt e y
  exact hs i x σ H H' hlt p s1 hp
 ·have e':i=n:=by omega
  subst e'
  exact .inl ⟨wk.stop H e,hd σ H p⟩
end L2

namespace L2
open PySem PySem.Spec PyProof.Rows

inductive E3 {α1 α2 α3:Type}(p:α1→α2→α3→Prop):Prop
 | mk (a1:α1) (a2:α2) (a3:α3) (h:p a1 a2 a3):E3 p
inductive E4 {α1 α2 α3 α4:Type}(p:α1→α2→α3→α4→Prop):Prop
 | mk (a1:α1) (a2:α2) (a3:α3) (a4:α4) (h:p a1 a2 a3 a4):E4 p
inductive E5 {α1 α2 α3 α4 α5:Type}(p:α1→α2→α3→α4→α5→Prop):Prop
 | mk (a1:α1) (a2:α2) (a3:α3) (a4:α4) (a5:α5) (h:p a1 a2 a3 a4 a5):E5 p
inductive E8 {α1 α2 α3 α4 α5 α6 α7 α8:Type}(p:α1→α2→α3→α4→α5→α6→α7→α8→Prop):Prop
 | mk (a1:α1) (a2:α2) (a3:α3) (a4:α4) (a5:α5) (a6:α6) (a7:α7) (a8:α8) (h:p a1 a2 a3 a4 a5 a6 a7 a8):E8 p
inductive A3 (p1 p2 p3:Prop):Prop
 | mk (h1:p1) (h2:p2) (h3:p3):A3 p1 p2 p3
inductive A4 (p1 p2 p3 p4:Prop):Prop
 | mk (h1:p1) (h2:p2) (h3:p3) (h4:p4):A4 p1 p2 p3 p4
inductive A5 (p1 p2 p3 p4 p5:Prop):Prop
 | mk (h1:p1) (h2:p2) (h3:p3) (h4:p4) (h5:p5):A5 p1 p2 p3 p4 p5
inductive A6 (p1 p2 p3 p4 p5 p6:Prop):Prop
 | mk (h1:p1) (h2:p2) (h3:p3) (h4:p4) (h5:p5) (h6:p6):A6 p1 p2 p3 p4 p5 p6
inductive A7 (p1 p2 p3 p4 p5 p6 p7:Prop):Prop
 | mk (h1:p1) (h2:p2) (h3:p3) (h4:p4) (h5:p5) (h6:p6) (h7:p7):A7 p1 p2 p3 p4 p5 p6 p7
inductive A8 (p1 p2 p3 p4 p5 p6 p7 p8:Prop):Prop
 | mk (h1:p1) (h2:p2) (h3:p3) (h4:p4) (h5:p5) (h6:p6) (h7:p7) (h8:p8):A8 p1 p2 p3 p4 p5 p6 p7 p8
structure Fn (P:Program) (w:World) (K:Fg) (mg:Str→Option Value) (base:Heap) (x:Str) (ps:List Str) (k:Nat) (sp:Sp):Prop where
 ex:∃ f fd,FnOk P w K mg base CX0 k f fd ps sp∧zdO K fd ps []∧PySem.W.keepIn K (.ref f)=true∧mg x=some (.ref f)
section
variable {X : Cx} {k j : Nat} {ps : List Str} {sp : Sp} {x : Str} {p pos : Pos} {e : Expr} {es : List Expr} {t : TA}
theorem zat (G:Fn X.prog X.w X.K X.mg X.base x ps j sp) (hr:Room k X.A) (hg:Gl X x) (ha:PA X (e::es) t) (hj:j≤k:=by decide) (hdb:(x == ("__debug__" : Str))=false:=by decide)
  (he:starEach (e::es) X.env=(false,eval e X.env)::starEach es X.env:=by rfl) (hpl:(backTo pos (starEach es X.env)).any (·.1)=false:=by rfl):PE X (.Call (.Name x p) (e::es) [] pos) (zlW sp [] E0 t):=by
 obtain⟨f,fd,F,hb,hk,hm⟩:=G.ex
 exact zky (F.mono hj) hr hg hm hk hb .nil za2 ha hdb he hpl
end
theorem Fn.of {P:Program}{w:World}{K:Fg}{mg:Str→Option Value}{base:Heap}{x:Str}{st:Stmt}{f:Addr}{fd:FuncData}{N ps:List Str}{k:Nat}{sp:Sp}(F:Fun K x x st f fd) (S:FnScope N ps (zac st)) (m:mg x=some (.ref f))
  (hb:∀ (kV doc pm:Value) (an:Option Addr) (cdv ct:Value) (us:List Value),us.length=ps.length→bindArgs (PySem.W.fnOf x x (zan st) (zal st) (zac st) .none kV doc pm an cdv ct) ⟨us,[]⟩=pure (ps.zip us))
  (len:∀ vs H Q E,sp vs H Q E→vs.length=ps.length)
  (hbody:∀ (cdv:Value) (A:Around) (outer:List Env) (s:Shared) (H:Hp) (vs:List V) (Q:VK) (E:XK),Room k (A.deeper (envOfC x (zac st) s.heap.objs.size f cdv))→sp vs H Q E→
   ∃ t,PSs (cxOf CX0 P w K mg base N x (zac st) f cdv A outer s H E).nox (zal st) t∧t {nx:=λ_ H'=>Q .non H',rt:=Q} (start N vs) H):Fn P w K mg base x ps (k+1) sp:=
 ⟨f,fd,F.ok S len hbody,F.binds hb,F.kp,m⟩
section
variable {X : Cx} {k : Nat}
def zk1 (K:Fg):R2:=λx y H Q=>rI0 (λi j=>.int (i+j)) x y H Q∨rCat x y H Q∨zoM K x y H Q
theorem znL:OpR X (binaryOp .Add) (zk1 X.K):=zoB.or (zoT.or znA)
def zm9:R2:=λx y H Q=>rI CMul (λi j=>.int (i * j)) x y H Q∨rRep x y H Q
theorem zb5:OpR X (binaryOp .Mult) zm9:=zoC.or zoU
def rEqA (K:Fg):R2:=λx y H Q=>rEq x y H Q∨rEqD K false x y H Q
def rNeA (K:Fg):R2:=λx y H Q=>rNe x y H Q∨rEqD K true x y H Q
theorem zo7 (hr:Room k X.A):OpR X (compareOp .Eq) (rEqA X.K):=op_eq.or (zo5 hr)
theorem zo8 (hr:Room k X.A):OpR X (compareOp .NotEq) (rNeA X.K):=op_ne.or (zo6 hr)
end

def rLen (K:Fg):List V→Hp→VK→Prop:=λxs H Q=>∃ p ys,xs=[.ref p]∧(SqL K H p ys∨SqT K H p ys)∧Q (.int ys.length) H
def zic (K:Fg):List V→Hp→VK→Prop:=λxs H Q=>∃ p ys,xs=[.ref p]∧(SqL K H p ys∨SqT K H p ys)∧∀ l,H l=none→Q (.ref l) (upd H l (.lst ys))
def zk2 (K:Fg):List V→Hp→VK→Prop:=λxs H Q=>∃ p ys,xs=[.ref p]∧((SqL K H p ys∧∀ l,H l=none→Q (.ref l) (upd H l (.tup ys)))∨(SqT K H p ys∧Q (.ref p) H))
def rIsi (K:Fg):List V→Hp→VK→Prop:=λxs H Q=>∃ x c t b,xs=[x,.ty c]∧TyOf K H x t∧PySem.W.kitOne K t (.type c)=some b∧Q (.bl b) H
def rAll (K:Fg):List V→Hp→VK→Prop:=λxs H Q=>∃ (p:Addr) (bs:List Bool),xs=[.ref p]∧SqL K H p (bs.map V.bl)∧Q (.bl (bs.all id)) H
def rMax:List V→Hp→VK→Prop:=λxs H Q=>∃ i j,xs=[.int i,.int j]∧Q (.int (if j>i then j else i)) H
def rInt:List V→Hp→VK→Prop:=λxs H Q=>(∃ i,xs=[.int i]∧Q (.int i) H)∨∃ k,xs=[.bl k]∧Q (.int (if k then 1 else 0)) H
section
variable {X : Cx}
theorem c_len:zce X (.builtin "len") (rLen X.K):=zhe
theorem zo9:zce X (.type "list") (zic X.K):=zhf
theorem znM:zce X (.type "tuple") (zk2 X.K):=zgC
theorem c_isi:zce X (.builtin "isinstance") (rIsi X.K):=zib
theorem c_all (hc:X.calm=true):zce X (.builtin "all") (rAll X.K):=zmh hc
theorem znN (hc:X.calm=true):zce X (.builtin "max") rMax:=zks hc
theorem c_int:zce X (.type "int") rInt:=zkt
end

section
variable {K : Fg} {σ : St} {H : Hp} {Q : VK} {ta tb tc : TE} {D : Ends}
theorem zpa {i:Nat}{v:V}(h:σ[i]?=some (some v)) (q:Q v H):tVar i σ H Q:=⟨v,h,q⟩
theorem i_c {v:V}(q:Q v H):tC v σ H Q:=q
theorem i_op {r:R2}(h:ta σ H λx H1=>tb σ H1 λy H2=>r x y H2 Q):tOp r ta tb σ H Q:=h
theorem i_un {r:V→Hp→VK→Prop}(h:ta σ H λx H1=>r x H1 Q):tUn r ta σ H Q:=h
theorem i_rI0 {g:Int→Int→V}{i j:Int}(q:Q (g i j) H):rI0 g (.int i) (.int j) H Q:=⟨i,j,rfl,rfl,q⟩
theorem i_mod {i j:Int}(c:0<j) (q:Q (.int (i % j)) H):rI (λ_ j=>0<j) (λi j=>.int (i % j)) (.int i) (.int j) H Q:=⟨i,j,rfl,rfl,c,q⟩
theorem zmk (q:Q (.int 1000000000) H):rI CPow (λi j=>.int (i ^ j.toNat)) (.int 10) (.int 9) H Q:=⟨10,9,rfl,rfl,⟨by decide,by decide,by decide⟩,q⟩
theorem zpb {i j:Int}(c:0<j) (c2:j<1073741824) (q:Q (.int (i / j)) H):rI CDiv (λi j=>.int (i / j)) (.int i) (.int j) H Q:=⟨i,j,rfl,rfl,⟨c,c2⟩,q⟩
theorem i_rU {g:Int→V}{i:Int}(q:Q (g i) H):rU g (.int i) H Q:=⟨i,rfl,q⟩
theorem znO {i j:Int}(q:Q (.int (i+j)) H):zk1 K (.int i) (.int j) H Q:=.inl ⟨i,j,rfl,rfl,q⟩
theorem zgH {a b:Addr}{xs ys:List V}(h1:H a=some (.lst xs)) (h2:H b=some (.lst ys)) (z:xs.length+ys.length≤sizeLine) (q:∀ p,H p=none→Q (.ref p) (upd H p (.lst (xs++ys)))):zk1 K (.ref a) (.ref b) H Q:=.inr (.inl ⟨a,b,xs,ys,rfl,rfl,h1,h2,z,q⟩)
theorem zi3 {i j:Int}(c:CMul i j) (q:Q (.int (i * j)) H):zm9 (.int i) (.int j) H Q:=.inl ⟨i,j,rfl,rfl,c,q⟩
theorem zpc {i j:Int}(q:Q (.bl (decide (i=j))) H):rEqA K (.int i) (.int j) H Q:=.inl ⟨rfl,by
 rw[show decide (V.int i=V.int j)=decide (i=j) by rw[decide_eq_decide];exact⟨λz=>by cases z;rfl,λz=>by rw[z]⟩];exact q⟩
theorem i_neI {i j:Int}(q:Q (.bl (!decide (i=j))) H):rNeA K (.int i) (.int j) H Q:=.inl ⟨rfl,by
 rw[show decide (V.int i=V.int j)=decide (i=j) by rw[decide_eq_decide];exact⟨λz=>by cases z;rfl,λz=>by rw[z]⟩];exact q⟩
theorem i_eqS {i j:Str}(q:Q (.bl (decide (i=j))) H):rEqA K (.str i) (.str j) H Q:=.inl ⟨rfl,by
 rw[show decide (V.str i=V.str j)=decide (i=j) by rw[decide_eq_decide];exact⟨λz=>by cases z;rfl,λz=>by rw[z]⟩];exact q⟩
theorem zk3 {a b:Addr}{d e:L2.D}(h1:Rep K H d (.ref a)) (h2:Rep K H e (.ref b)) (n:dep d≤60) (q:Q (.bl (pyEq d e)) H):rEqA K (.ref a) (.ref b) H Q:=.inr ⟨a,b,d,e,rfl,rfl,h1,h2,n,q⟩
theorem i_neD {a b:Addr}{d e:L2.D}(h1:Rep K H d (.ref a)) (h2:Rep K H e (.ref b)) (n:dep d≤60) (q:Q (.bl (!pyEq d e)) H):rNeA K (.ref a) (.ref b) H Q:=.inr ⟨a,b,d,e,rfl,rfl,h1,h2,n,q⟩
theorem zpd {Q:Bool→Hp→Prop}(h:ta σ H λx H'=>∃ k,x=.bl k∧Q k H'):znu ta σ H Q:=h
theorem i_B {Q:Bool→Hp→Prop}(h:ta σ H λx H'=>∃ k,x=.bl k∧Q k H'):tB ta σ H Q:=h
theorem i_bl {P:Bool→Prop}{b:Bool}(h:P b):∃ k,V.bl b=.bl k∧P k:=⟨b,rfl,h⟩
theorem i_nil {Q:List V→Hp→Prop}(h:Q [] H):tNil σ H Q:=h
theorem zpe {Q:List V→Hp→Prop}{tr:TA}(h:ta σ H λx H1=>tr σ H1 λxs H2=>Q (x::xs) H2):zcR ta tr σ H Q:=h
theorem zpf {sp:Sp}{t:TA}(h:t σ H λvs H1=>sp vs H1 Q E0):zlW sp [] E0 t σ H Q:=by
 have e:(λ(vs:List V) (H1:Hp)=>sp (vs++[]) H1 Q E0)=λvs H1=>sp vs H1 Q E0:=by funext vs H1;rw[List.append_nil]
 show t σ H λvs H1=>sp (vs++[]) H1 Q E0
 rw[e];exact h
theorem i_CB {r:List V→Hp→VK→Prop}{t:TA}(h:t σ H λvs H1=>r vs H1 Q):tCB r t σ H Q:=h
theorem i_lst {t:TA}(h:t σ H λxs H1=>xs.length≤sizeLine∧∀ p,H1 p=none→Q (.ref p) (upd H1 p (.lst xs))):tLst t σ H Q:=h
theorem i_tup {t:TA}(h:t σ H λxs H1=>xs.length≤sizeLine∧∀ p,H1 p=none→Q (.ref p) (upd H1 p (.tup xs))):tTup t σ H Q:=h
theorem i_asg {g:TG}(h:ta σ H λx H1=>g x σ H1 D.nx):tAsg ta g D σ H:=h
theorem znP {i:Nat}{v:V}{Q:St→Hp→Prop}(h:Q (σ.set i (some v)) H):zlO i v σ H Q:=h
theorem i_ret (h:ta σ H D.rt):tRet ta D σ H:=h
theorem zpg (h:ta σ H λ_ H1=>D.nx σ H1):znp ta D σ H:=h
theorem zph (h:D.nx σ H):zki D σ H:=h
theorem i_if {c:TT}(h:c σ H λb H1=>if b=true then ta σ H1 Q else tb σ H1 Q):tIf c ta tb σ H Q:=h
theorem zdP {a:Addr}{xs:List V}(h:SqL K H a xs∨SqT K H a xs) (q:Q (.int xs.length) H):rLen K [.ref a] H Q:=⟨a,xs,rfl,h,q⟩
theorem ix0 {α:Type}{x:α}{xs:List α} : ixN (x::xs).length 0=some 0:=by
 unfold ixN
 rw[if_pos (Int.le_refl 0),if_pos (by rw[List.length_cons];omega)]
 rfl
theorem zbJ {α:Type}{x:α}{xs:List α} : atI (x::xs) (0:Int)=some x:=zaV (j:=0) rfl
theorem zbc {a:Addr}{xs:List V}{i:Int}{v:V}(h:SqL K H a xs) (e:atI xs i=some v) (q:Q v H):rIx K (.ref a) (.int i) H Q:=.inl ⟨a,xs,i,v,rfl,rfl,h,e,q⟩
theorem za7 {a:Addr}{xs:List V}{i:Int}{v:V}(h:SqT K H a xs) (e:atI xs i=some v) (q:Q v H):rIx K (.ref a) (.int i) H Q:=.inr (.inl ⟨a,xs,i,v,rfl,rfl,h,e,q⟩)
end
section
variable {K : Fg} {σ : St} {H : Hp} {Q : VK} {ta tb tc : TE} {D : Ends}
theorem zjO {p:Addr}{bs:List Bool}(h:SqL K H p (bs.map V.bl)) (q:Q (.bl (bs.all id)) H):rAll K [.ref p] H Q:=⟨p,bs,rfl,h,q⟩
theorem znQ {i j:Int}(q:Q (.int (if j>i then j else i)) H):rMax [.int i,.int j] H Q:=⟨i,j,rfl,q⟩
theorem zpi {b:Bool}(q:Q (.int (if b then 1 else 0)) H):rInt [.bl b] H Q:=.inr ⟨b,rfl,q⟩
theorem zpj (h:ta σ H λx H1=>∃ c,x=.bl c∧if c=true then tb σ H1 Q else Q (.bl false) H1):zow ta tb σ H Q:=h
theorem i_and {t u:TT}{Q:Bool→Hp→Prop}(h:t σ H λc H1=>if c=true then u σ H1 Q else Q false H1):tAnd t u σ H Q:=h
theorem i_or {t u:TT}{Q:Bool→Hp→Prop}(h:t σ H λc H1=>if c=true then Q true H1 else u σ H1 Q):tOr t u σ H Q:=h
theorem i_not {t:TT}{Q:Bool→Hp→Prop}(h:t σ H λc H1=>Q (!c) H1):tNot t σ H Q:=h
theorem zhp {x:V}{t:Value}{c:String}{b:Bool}(ty:TyOf K H x t) (e:PySem.W.kitOne K t (.type c)=some b) (q:Q (.bl b) H) :
  rIsi K [x,.ty c] H Q:=⟨x,c,t,b,rfl,ty,e,q⟩
theorem i_for {wi:TI}{g:TG}{tb:TS}(h:wi σ H λJ H1=>zjN J g tb D σ H1):tFor wi g tb D σ H:=h
theorem zpk {ms:List Bool}{wi:TI}{g:TG}{tt:TT}{te:TE}(h:wi σ H λJ H1=>zkY J g tt te (zcS ms σ) H1 Q):zmb ms wi g tt te σ H Q:=h
theorem znR {tl:TE}{R:It→Hp→Prop}(h:tl σ H λx H1=>∃ a,x=.ref a∧(∃ xs,SqL K H1 a xs)∧R (Itl K a) H1):znr K tl σ H R:=h
theorem zpl {tl:TE}{R:It→Hp→Prop}(h:tl σ H λx H1=>∃ a,x=.ref a∧(∃ xs,SqT K H1 a xs)∧R (Itt K a) H1):iTup K tl σ H R:=h
theorem i_zip {t:TA}{R:It→Hp→Prop}(h:t σ H λvs H1=>∃ a b,vs=[.ref a,.ref b]∧(∃ xs,SqL K H1 a xs)∧(∃ ys,SqL K H1 b ys)∧R (Itz K a b) H1):iZip K t σ H R:=h
theorem zpm {t:TA}{R:It→Hp→Prop}(h:t σ H λvs H1=>∃ a xs,vs=[.ref a]∧H1 a=some (.lst xs)∧R (Itn K a) H1):znJ K t σ H R:=h
theorem zpn {t:TA}{R:It→Hp→Prop}(h:t σ H λvs H1=>∃ j:Int,vs=[.int j]∧-(2 ^ 62)≤j∧j<2 ^ 62∧R (Itr 0 j.toNat) H1):zoA t σ H R:=h
theorem zcH {P:Int→Prop}{j:Int}(h1:-(2 ^ 62)≤j) (h2:j<2 ^ 62) (h:P j):∃ k:Int,[V.int j]=[.int k]∧-(2 ^ 62)≤k∧k<2 ^ 62∧P k:=⟨j,rfl,h1,h2,h⟩
theorem i_sl {r:V→Option Int→Option Int→Hp→VK→Prop}{tl th:TO}(h:ta σ H λx H1=>tl σ H1 λl H2=>th σ H2 λu H3=>r x l u H3 Q):tSl r ta tl th σ H Q:=h
theorem zml {Q:Option Int→Hp→Prop}(h:Q none H):zkC σ H Q:=h
theorem zpo {Q:Option Int→Hp→Prop}(h:ta σ H λx H1=>∃ i,x=.int i∧Q (some i) H1):zoK ta σ H Q:=h
theorem znS {P:Int→Prop}{i:Int}(h:P i):∃ j,V.int i=.int j∧P j:=⟨i,rfl,h⟩
theorem zpp {to ti:TE}{t:TSet}{v:V}{Q:St→Hp→Prop}(h:to σ H λo H1=>ti σ H1 λi H2=>t o i v H2 λH3=>Q σ H3):gSub to ti t v σ H Q:=h
theorem zfi {a:Addr}{xs:List V}{k:Int}{j:Nat}{v:V}{Q:Hp→Prop}(h:H a=some (.lst xs)) (e:ixN xs.length k=some j) (q:Q (upd H a (.lst (xs.set j v)))):zoQ (.ref a) (.int k) v H Q:=⟨a,xs,k,j,rfl,rfl,h,e,q⟩
theorem zdZ {a:Addr}{ys:List V}(h:SqL K H a ys∨SqT K H a ys) (q:∀ l,H l=none→Q (.ref l) (upd H l (.lst ys))) :
  zic K [.ref a] H Q:=⟨a,ys,rfl,h,q⟩
end
section
variable {X : Cx} {k : Nat} {pos : Pos}
theorem zaM (K:Fg) (hK:X.K=K:=by rfl):OpR X (binaryOp .Add) (zk1 K):=by subst hK;exact znL
theorem k_eq (K:Fg) (hr:Room k X.A) (hK:X.K=K:=by rfl):OpR X (compareOp .Eq) (rEqA K):=by subst hK;exact zo7 hr
theorem k_ne (K:Fg) (hr:Room k X.A) (hK:X.K=K:=by rfl):OpR X (compareOp .NotEq) (rNeA K):=by subst hK;exact zo8 hr
theorem k_in (K:Fg) (hK:X.K=K:=by rfl):OpR X (compareOp .In) (rIn K false):=by subst hK;exact zkG
theorem k_ix (K:Fg) (hK:X.K=K:=by rfl):IxR X (rIx K):=by subst hK;exact zoP
def rSl (K:Fg):V→Option Int→Option Int→Hp→VK→Prop:=λx lo hi H Q=>rSlL K x lo hi H Q∨rSlT K x lo hi H Q
theorem k_sl (K:Fg) (hK:X.K=K:=by rfl):SlR X (rSl K):=by subst hK;exact znD.or zoL
theorem zdQ (K:Fg) (hK:X.K=K:=by rfl):zce X (.builtin "len") (rLen K):=by subst hK;exact c_len
theorem zhq (K:Fg) (hK:X.K=K:=by rfl):zce X (.type "list") (zic K):=by subst hK;exact zo9
theorem znT (K:Fg) (hK:X.K=K:=by rfl):zce X (.type "tuple") (zk2 K):=by subst hK;exact znM
theorem zpq (K:Fg) (hK:X.K=K:=by rfl):zce X (.builtin "isinstance") (rIsi K):=by subst hK;exact c_isi
theorem zjP (K:Fg) (hc:X.calm=true) (hK:X.K=K:=by rfl):zce X (.builtin "all") (rAll K):=by subst hK;exact c_all hc
theorem zbp (K:Fg) {tg l:Expr}{tl:TE}(hl:PE X l tl) (hK:X.K=K:=by rfl):PI X tg l (znr K tl):=by subst hK;exact zns hl
theorem zi4 (K:Fg) {tg l:Expr}{tl:TE}(hl:PE X l tl) (hK:X.K=K:=by rfl):PI X tg l (iTup K tl):=by subst hK;exact zoz hl
theorem zpr (K:Fg) {elts:List Expr}{kx:Nat}{tpos:Pos}{a b:Expr}{ta:TA}{p:Pos}(hg:Gl X "zip") (hm:X.mg "zip"=none) (ha:PA X [a,b] ta) (hK:X.K=K:=by rfl) (hs:starEach [a,b] X.env=[(false,eval a X.env),(false,eval b X.env)]:=by rfl) (hs2:starEach [b] X.env=[(false,eval b X.env)]:=by rfl) :
  PI X (.Tuple elts kx tpos) (.Call (.Name "zip" p) [a,b] [] pos) (iZip K ta):=by subst hK;exact zo3 hg hm ha hs hs2
theorem zk4 (K:Fg) {elts:List Expr}{kx:Nat}{tpos:Pos}{a:Expr}{ta:TA}{p:Pos}(hg:Gl X "enumerate") (hm:X.mg "enumerate"=none) (ha:PA X [a] ta) (hK:X.K=K:=by rfl) (hs:starEach [a] X.env=[(false,eval a X.env)]:=by rfl) :
  PI X (.Tuple elts kx tpos) (.Call (.Name "enumerate" p) [a] [] pos) (znJ K ta):=by subst hK;exact znK hg hm ha hs
theorem zeA (K:Fg) {es:List Expr}{kk:Nat}{t:TGs}{n:Nat}(hc:X.calm=true) (h:PGs X es t) (hK:X.K=K:=by rfl) (hn:(assignEach es X.env).length=n:=by rfl) (hst:(assignEach es X.env).findIdx? (·.1)=none:=by rfl) :
  PG X (.Tuple es kk pos) (gTup K n t):=by subst hK;exact zox hc h hn hst
theorem zaD (K:Fg) {e:Expr}{f:Str}{ta:TE}(he:PE X e ta) (hb:attributeBase e f X.env (eval e X.env)=eval e X.env) (hK:X.K=K:=by rfl):PE X (.Attribute e f pos) (tFld K ta f):=by subst hK;exact zoH he hb
end
theorem zdg {n:Nat}{f:Nat→D}{i:Nat}{d:D}(h:((List.range n).map f)[i]?=some d):d=f i:=by
 rw[zgm] at h
 obtain⟨j,hj,rfl⟩:=zme.mp h
 have hl:=(zge.mp hj).1
 rw[List.length_range] at hl
 have hi:i<n:=hl
 rw[List.getElem?_range hi] at hj
 cases hj;rfl
theorem zdh {X:Cx}{x:Str}{i:Int}{pos:Pos}(hg:Gl X x) (hm:∃ t,X.mg x=some (.int i t)) (hd:(x == ("__debug__" : Str))=false:=by decide):PE X (.Name x pos) (tC (.int i)):=by
 obtain⟨t,hm⟩:=hm
 exact zkf hg hm ⟨t,rfl⟩ hd
theorem iteNT {A B:Prop}(h:B):if (!true)=true then A else B:=iteF h
theorem iteNF {A B:Prop}(h:A):if (!false)=true then A else B:=iteT h
theorem zaz {n:Nat}(h:n≤1000):n≤sizeLine:=Nat.le_of_lt (zcg h)
theorem sl {n:Nat}(h:Nat.ble n 1000=true):n≤sizeLine:=zaz (Nat.le_of_ble_eq_true h)
theorem i_bm {K:Fg}{σ:St}{H:Hp}{Q:VK}{T:String}{r:V→List V→Hp→VK→Prop}{to:TE}{t:TA}(h:to σ H λx H1=>tyV K T x H1∧t σ H1 λxs H2=>r x xs H2 Q):tBM K T r to t σ H Q:=h
theorem tyL {K:Fg}{H:Hp}{a:Addr}{xs:List V}(h:H a=some (.lst xs)):tyV K "list" (.ref a) H:=.inl ⟨rfl,_,SqL.of h⟩
theorem znU {H:Hp}{Q:VK}{a:Addr}{xs:List V}{y:V}(h:H a=some (.lst xs)) (z:xs.length<sizeLine) (q:Q .non (upd H a (.lst (xs++[y])))):zkH (.ref a) [y] H Q:=⟨a,xs,y,rfl,rfl,h,z,q⟩
theorem zaj.bls_eq {H:Hp} : ∀ {bs:List Bool}{vs:List V}{fp:List Addr},zaj H (bs.map D.bl) vs fp→vs=bs.map V.bl∧fp=[]
 | [],_,_,h=>by unfold List.map zaj at h;exact h
 | n::ns,_,_,h=>by
  rw[zmc] at h
  unfold zaj at h
  obtain⟨v,r,f,g,rfl,rfl,h1,h2⟩:=h
  unfold RepF at h1
  obtain⟨rfl,rfl⟩:=h1
  obtain⟨rfl,rfl⟩:=zaj.bls_eq h2
  exact⟨rfl,rfl⟩
theorem New.bls {H H':Hp}{bs:List Bool}{v:V}(h:New H H' (.lst (bs.map D.bl)) v):∃ a,v=.ref a∧H a=none∧H' a=some (.lst (bs.map V.bl)):=by
 obtain⟨fp,h1,h2,h3⟩:=h
 unfold RepF at h1
 obtain⟨a,xs,r,e1,e2,e3,e4⟩:=h1
 obtain⟨rfl,rfl⟩:=zaj.bls_eq e4
 subst e2
 exact⟨a,e1,h3 a List.mem_cons_self,e3⟩
theorem New.lst_out {H H':Hp}{ds:List D}{v:V}(h:New H H' (.lst ds) v):∃ a vs fp,v=.ref a∧H a=none∧H' a=some (.lst vs)∧zaj H' ds vs fp∧fp.Nodup∧a∉fp∧∀ b∈fp,H b=none:=by
 obtain⟨fp,h1,h2,h3⟩:=h
 unfold RepF at h1
 obtain⟨a,xs,r,e1,e2,e3,e4⟩:=h1
 subst e2
 exact⟨a,xs,r,e1,h3 a List.mem_cons_self,e3,e4,(List.nodup_cons.mp h2).2,(List.nodup_cons.mp h2).1,λb m=>h3 b (List.mem_cons_of_mem _ m)⟩
theorem zid {lo:Int}{n:Nat}{g:TG}{tb:TS}{D:Ends}{σ:St}{H:Hp}(Pv:Nat→St→Hp→Prop) (h0:Pv 0 σ H)
  (hs:∀ i σ H,i<n→Pv i σ H→g (.int (lo+i)) σ H λσ2 H2=>tb {D with nx:=Pv (i+1),ct:=Pv (i+1),bk:=D.nx} σ2 H2) (hd:∀ σ H,Pv n σ H→D.nx σ H):zjN (Itr lo n) g tb D σ H:=zkm Pv h0 hs hd
theorem zfj {K:Fg}{a:Addr}{xs:List V}{g:TG}{tb:TS}{D:Ends}{σ:St}{H:Hp}(Pv:Nat→St→Hp→Prop) (h0:Pv 0 σ H) (hl:∀ i σ H,i≤xs.length→Pv i σ H→SqL K H a xs)
  (hs:∀ i x σ H,xs[i]?=some x→Pv i σ H→g x σ H λσ2 H2=>tb {D with nx:=Pv (i+1),ct:=Pv (i+1),bk:=D.nx} σ2 H2) (hd:∀ σ H,Pv xs.length σ H→D.nx σ H):zjN (Itl K a) g tb D σ H:=zlQ Pv h0 hl hs hd
theorem zk5 {n:Nat} : ∀ {ds:List D},(∀ d∈ds,dep d≤n)→deps ds≤n
 | [],_=>by unfold deps;exact Nat.zero_le _
 | d::ds,h=>by
  unfold deps
  exact Nat.max_le.mpr ⟨h d List.mem_cons_self,zk5 λe he=>h e (List.mem_cons_of_mem _ he)⟩
theorem zhr (ls:List (List Int)):dep (.lst (ls.map nums))≤2:=by
 unfold dep
 refine Nat.succ_le_succ (zk5 λd hd=>?_)
 obtain⟨l,_,rfl⟩:=zmm.mp hd
 exact zi2 l
theorem zie {K:Fg}{H:Hp}{Q:VK}{a b:Addr}{d:D}(h1:Rep K H d (.ref a)) (h2:Rep K H d (.ref b)) (n:dep d≤60) (q:Q (.bl true) H):rEqA K (.ref a) (.ref b) H Q:=zk3 h1 h2 n (by rw[zdd];exact q)
theorem zk6 {K:Fg}{H:Hp}{Q:VK}{a b:Addr}{d:D}(h1:Rep K H d (.ref a)) (h2:Rep K H d (.ref b)) (n:dep d≤60) (q:Q (.bl false) H):rNeA K (.ref a) (.ref b) H Q:=i_neD h1 h2 n (by rw[zdd];exact q)
theorem boot_len:bootBuiltins "len"=some (.builtin "len"):=PySem.boot_len
theorem zbV:bootBuiltins "list"=some (.type "list"):=by decide +kernel
theorem zjQ:bootBuiltins "tuple"=some (.type "tuple"):=by decide +kernel
theorem zmn:bootBuiltins "int"=some (.type "int"):=by decide +kernel
theorem zdi:bootBuiltins "isinstance"=some (.builtin "isinstance"):=by decide +kernel
theorem zdx:bootBuiltins "all"=some (.builtin "all"):=by decide +kernel
theorem zgI:bootBuiltins "max"=some (.builtin "max"):=by decide +kernel
theorem zi5 {K:Fg}{t:Value} : PySem.W.kitOne K t t=some true:=by unfold PySem.W.kitOne;simp
end L2

namespace L2
open PySem PySem.Spec PyProof.Rows
structure Mkr (P:Program) (w:World) (K:Fg) (mg:Str→Option Value) (base:Heap) (x:Str) (C:Addr) (ps:List Str) (k:Nat) (sp:Sp):Prop where
 ex:∃ f fd,Mk K C f∧FnOk P w K mg base CX0 k f fd ps sp∧zdO K fd ps []∧mg x=some (.ref C)
section
variable {X : Cx} {k j : Nat} {C : Addr} {ps : List Str} {sp : Sp} {x : Str} {p pos : Pos} {e : Expr} {es : List Expr} {t : TA}
theorem zmo (G:Mkr X.prog X.w X.K X.mg X.base x C ps j sp) (hr:Room k X.A) (hg:Gl X x) (ha:PA X (e::es) t) (hj:j+1≤k:=by decide) (hdb:(x == ("__debug__" : Str))=false:=by decide)
  (he:starEach (e::es) X.env=(false,eval e X.env)::starEach es X.env:=by rfl) (hpl:(backTo pos (starEach es X.env)).any (·.1)=false:=by rfl):PE X (.Call (.Name x p) (e::es) [] pos) (zh6 C sp [] E0 t):=by
 obtain⟨f,fd,M,F,hb,hm⟩:=G.ex
 exact zkz M F (hr.mono hj) hg hm hb .nil za2 ha hdb he hpl
theorem zps {σ:St}{H:Hp}{Q:VK}(h:t σ H λvs H1=>∀ y dx,H1 y=none→H1 dx=none→dx≠y→sp (.ref y::vs) (upd (upd H1 dx (.own y)) y (.ins C dx [])) (λv H2=>v=.non∧Q (.ref y) H2) E0):zh6 C sp [] E0 t σ H Q:=by
 have e:(λ(vs:List V) (H1:Hp)=>∀ y dx,H1 y=none→H1 dx=none→dx≠y→sp (.ref y::(vs++[])) (upd (upd H1 dx (.own y)) y (.ins C dx [])) (λv H2=>v=.non∧Q (.ref y) H2) E0)
   = λvs H1=>∀ y dx,H1 y=none→H1 dx=none→dx≠y→sp (.ref y::vs) (upd (upd H1 dx (.own y)) y (.ins C dx [])) (λv H2=>v=.non∧Q (.ref y) H2) E0:=by funext vs H1;rw[List.append_nil]
 show t σ H λvs H1=>∀ y dx,H1 y=none→H1 dx=none→dx≠y→sp (.ref y::(vs++[])) (upd (upd H1 dx (.own y)) y (.ins C dx [])) (λv H2=>v=.non∧Q (.ref y) H2) E0
 rw[e];exact h
end
section
variable {K : Fg} {σ : St} {H : Hp} {Q : VK} {ta tv : TE} {D : Ends} {f : Str}
theorem i_fld (h:ta σ H λx H1=>FldI K f x H1 Q):tFld K ta f σ H Q:=h
theorem zpt (h:tv σ H λy H1=>ta σ H1 λx H2=>FldS K f y x H2 (D.nx σ)):sFld K ta tv f D σ H:=h
end
theorem znV {r r':R2}{σ:St}{H:Hp}{Q:VK}{ta tb tc:TE}(h:ta σ H λx H1=>tb σ H1 λy H2=>r x y H2 λz H3=>∃ k,z=.bl k∧if k=true then tc σ H3 λw H4=>r' y w H4 Q else Q (.bl false) H3):zkr r r' ta tb tc σ H Q:=h
theorem zaj.nil {H:Hp} : zaj H [] [] []:=by unfold zaj;exact⟨rfl,rfl⟩
theorem zaj.cint {H:Hp}{i:Int}{ds:List D}{xs:List V}{fp:List Addr}(h:zaj H ds xs fp):zaj H (.int i::ds) (.int i::xs) fp:=by
 unfold zaj;exact⟨_,_,[],fp,rfl,rfl,by unfold RepF;exact⟨rfl,rfl⟩,h⟩
theorem zaj.cstr {H:Hp}{i:Str}{ds:List D}{xs:List V}{fp:List Addr}(h:zaj H ds xs fp):zaj H (.str i::ds) (.str i::xs) fp:=by
 unfold zaj;exact⟨_,_,[],fp,rfl,rfl,by unfold RepF;exact⟨rfl,rfl⟩,h⟩
theorem zaj.cany {H:Hp}{d:D}{v:V}{f:List Addr}{ds:List D}{xs:List V}{fp:List Addr}(q:RepF H d v f) (h:zaj H ds xs fp):zaj H (d::ds) (v::xs) (f++fp):=by
 unfold zaj;exact⟨_,_,f,fp,rfl,rfl,q,h⟩
theorem RepF.line {H:Hp}{a:Addr}{ns:List Int}(h:H a=some (.lst (ns.map V.int))):RepF H (nums ns) (.ref a) [a]:=by
 unfold RepF;exact⟨a,_,[],rfl,rfl,h,zaj.ints⟩
theorem RepF.pair {H:Hp}{t:Addr}{i j:Int}(h:H t=some (.tup [.int i,.int j])):RepF H (.tup [.int i,.int j]) (.ref t) []:=by
 unfold RepF;exact⟨t,_,rfl,h,zaj.nil.cint.cint⟩
theorem zaj.lines {H:Hp} : ∀ {ls:List (List Int)}{vs:List V}{fp:List Addr},zaj H (ls.map nums) vs fp→vs=fp.map V.ref∧fp.length=ls.length∧∀ (i:Nat) (a:Addr),fp[i]?=some a→∃ l,ls[i]?=some l∧H a=some (.lst (l.map V.int))
 | [],_,_,h=>by
  rw[List.map_nil] at h;unfold zaj at h
  obtain⟨rfl,rfl⟩:=h
  exact⟨rfl,rfl,λi a e=>by simp at e⟩
 | l::ls,_,_,h=>by
  rw[zmc] at h;unfold zaj at h
  obtain⟨v,r,f,g,rfl,rfl,h1,h2⟩:=h
  obtain⟨rfl,e2,e3⟩:=zaj.lines h2
  unfold RepF at h1
  obtain⟨a,xs,r,rfl,rfl,e4,e5⟩:=h1
  obtain⟨rfl,rfl⟩:=zaj.ints_eq e5
  refine⟨rfl,by simp[e2],λi b e=>?_⟩
  cases i with
  | zero=>simp at e;subst e;exact⟨l,rfl,e4⟩
  | succ i=>exact e3 i b (by simpa using e)
theorem zeB {K:Fg} : PySem.W.kitOne K (.type "int") (.type "list")=some false:=by rfl
theorem zeC {K:Fg} : PySem.W.kitOne K (.type "str") (.type "list")=some false:=by rfl
theorem zdF {K:Fg} : PySem.W.kitOne K (.type "tuple") (.type "list")=some false:=by rfl
theorem zmp {K:Fg}{H:Hp}{Q:VK}{a:Addr}{ys:List V}(h:SqL K H a ys) (q:∀ l,H l=none→Q (.ref l) (upd H l (.tup ys))):zk2 K [.ref a] H Q:=⟨a,ys,rfl,.inl ⟨h,q⟩⟩
theorem i_in {K:Fg}{H:Hp}{Q:VK}{neg:Bool}{x:V}{a:Addr}{xs:List V}(h:SqL K H a xs∨SqT K H a xs) (f1:zdb x=true) (f2:xs.all zdb=true) (q:Q (.bl (if neg then !inV x xs else inV x xs)) H):rIn K neg x (.ref a) H Q:=⟨a,xs,rfl,h,f1,f2,q⟩
theorem zdj {X:Cx}{x:Str}{a:Addr}{pos:Pos}(hg:Gl X x) (hm:X.mg x=some (.ref a)) (hd:(x == ("__debug__" : Str))=false:=by decide):PE X (.Name x pos) (tC (.ref a)):=zkf hg hm rfl hd
def News (H H':Hp) (ds:List D) (vs:List V):Prop:=∃ fp,zaj H' ds vs fp∧fp.Nodup∧∀ a∈fp,H a=none
theorem News.nil {H H':Hp} : News H H' [] []:=⟨[],zaj.nil,List.nodup_nil,λ_ m=>by cases m⟩
theorem News.snoc {H H1 H2:Hp}{ds:List D}{vs:List V}{d:D}{v:V}(h:News H H1 ds vs) (e:Same H H1) (e2:Same H1 H2) (n:New H1 H2 d v):News H H2 (ds++[d]) (vs++[v]):=by
 obtain⟨fp,h1,h2,h3⟩:=h
 obtain⟨fq,g1,g2,g3⟩:=n
 have keep:∀ a∈fp,H2 a=H1 a:=λa m=>by
  obtain⟨o,ho⟩:=zaj.has ds h1 a m
  rw[ho,e2 a o ho]
 refine⟨fp++fq,(zaj.frame e2.tups ds keep h1).snoc g1,List.nodup_append.mpr ⟨h2,g2,λa ha b hb z=>?_⟩,λa m=>?_⟩
 ·subst z
  obtain⟨o,ho⟩:=zaj.has ds h1 a ha
  have:=g3 a hb
  rw[ho] at this;cases this
 ·rcases zma.mp m with m | m
  ·exact h3 a m
  ·exact e.free (g3 a m)
theorem News.lst {H H1:Hp}{ds:List D}{vs:List V}{a:Addr}(h:News H H1 ds vs) (e:Same H H1) (ha:H1 a=none):New H (upd H1 a (.lst vs)) (.lst ds) (.ref a):=by
 obtain⟨fp,h1,h2,h3⟩:=h
 have s:=zah ha (.lst vs)
 refine New.lst (zaj.frame s.tups ds (λb m=>?_) h1) h2 h3 (e.free ha) (λm=>?_) zaf
 ·obtain⟨o,ho⟩:=zaj.has ds h1 b m
  rw[ho,s b o ho]
 ·obtain⟨o,ho⟩:=zaj.has ds h1 a m
  rw[ha] at ho;cases ho
theorem New.news {H H':Hp}{ds:List D}{v:V}(h:New H H' (.lst ds) v):∃ a vs,v=.ref a∧H a=none∧H' a=some (.lst vs)∧News H H' ds vs:=by
 obtain⟨a,vs,fp,e1,e2,e3,e4,e5,_,e6⟩:=New.lst_out h
 exact⟨a,vs,e1,e2,e3,fp,e4,e5,e6⟩
end L2

namespace L2
open PySem PySem.Spec PyProof.Rows
def seqO:HO→Bool
 | .lst _=>true
 | .tup _=>true
 | .frz _ _=>true
 | _=>false
def Sq (H H':Hp):Prop:=∀ b o,H b=some o→seqO o=true→H' b=some o
theorem Same.sq {H H':Hp}(e:Same H H'):Sq H H':=λb o h _=>e b o h
theorem Sq.trans {H H1 H2:Hp}(a:Sq H H1) (b:Sq H1 H2):Sq H H2:=λc o h q=>b c o (a c o h q) q
theorem zdG {H:Hp}{p:Addr}{o u:HO}(h:H p=some u) (n:seqO u=false):Sq H (upd H p o):=λb w e q=>by
 rw[zak (λz=>by rw[z,h] at e;cases e;rw[n] at q;cases q)];exact e
theorem Sq.lst {K:Fg}{H H':Hp}{a:Addr}{xs:List V}(e:Sq H H') (h:SqL K H a xs):SqL K H' a xs:=by
 rcases h with (h | ⟨o,h⟩) | h
 ·exact .inl (.inl (e _ _ h rfl))
 ·exact .inl (.inr ⟨o,e _ _ h rfl⟩)
 ·exact .inr h
theorem Sq.tup {K:Fg}{H H':Hp}{a:Addr}{xs:List V}(e:Sq H H') (h:SqT K H a xs):SqT K H' a xs:=by
 rcases h with (h | ⟨o,h⟩) | h
 ·exact .inl (.inl (e _ _ h rfl))
 ·exact .inl (.inr ⟨o,e _ _ h rfl⟩)
 ·exact .inr h
mutual
theorem Rep.sq {K:Fg}{H H':Hp}(e:Sq H H'):∀ (d:D) {v:V},Rep K H d v→Rep K H' d v
 | .non,_,h=>by unfold Rep at *;exact h
 | .bl _,_,h=>by unfold Rep at *;exact h
 | .int _,_,h=>by unfold Rep at *;exact h
 | .str _,_,h=>by unfold Rep at *;exact h
 | .lst ds,_,h=>by
  unfold Rep at *
  obtain⟨a,xs,h1,h2,h3⟩:=h
  exact⟨a,xs,h1,e.lst h2,Reps.sq e ds h3⟩
 | .tup ds,_,h=>by
  unfold Rep at *
  obtain⟨a,xs,h1,h2,h3⟩:=h
  exact⟨a,xs,h1,e.tup h2,Reps.sq e ds h3⟩
theorem Reps.sq {K:Fg}{H H':Hp}(e:Sq H H'):∀ (ds:List D) {vs:List V},Reps K H ds vs→Reps K H' ds vs
 | [],_,h=>by unfold Reps at *;exact h
 | d::ds,_,h=>by
  unfold Reps at *
  obtain⟨v,r,h1,h2,h3⟩:=h
  exact⟨v,r,h1,Rep.sq e d h2,Reps.sq e ds h3⟩
end
mutual
theorem RepF.sq {H H':Hp}(e:Sq H H'):∀ (d:D) {v:V}{fp:List Addr},RepF H d v fp→RepF H' d v fp
 | .non,_,_,h=>by unfold RepF at *;exact h
 | .bl _,_,_,h=>by unfold RepF at *;exact h
 | .int _,_,_,h=>by unfold RepF at *;exact h
 | .str _,_,_,h=>by unfold RepF at *;exact h
 | .lst ds,_,_,h=>by
  unfold RepF at *
  obtain⟨a,xs,r,h1,h0,h2,h3⟩:=h
  exact⟨a,xs,r,h1,h0,e _ _ h2 rfl,zaj.sq e ds h3⟩
 | .tup ds,_,_,h=>by
  unfold RepF at *
  obtain⟨a,xs,h1,h2,h3⟩:=h
  exact⟨a,xs,h1,e _ _ h2 rfl,zaj.sq e ds h3⟩
theorem zaj.sq {H H':Hp}(e:Sq H H'):∀ (ds:List D) {vs:List V}{fp:List Addr},zaj H ds vs fp→zaj H' ds vs fp
 | [],_,_,h=>by unfold zaj at *;exact h
 | d::ds,_,_,h=>by
  unfold zaj at *
  obtain⟨v,r,f,g,h1,h0,h2,h3⟩:=h
  exact⟨v,r,f,g,h1,h0,RepF.sq e d h2,zaj.sq e ds h3⟩
end
def Free (H H':Hp):Prop:=∀ a,H' a=none→H a=none
theorem Same.fr {H H':Hp}(e:Same H H'):Free H H':=λ_ h=>e.free h
theorem Free.trans {H H1 H2:Hp}(a:Free H H1) (b:Free H1 H2):Free H H2:=λc h=>a c (b c h)
theorem zb6 {H:Hp}{p:Addr}{o:HO} : Free H (upd H p o):=λa h=>by
 by_cases e:a=p
 ·subst e;rw[zaf] at h;cases h
 ·rw[zak e] at h;exact h
theorem News.sq {H H1 H2:Hp}{ds:List D}{vs:List V}(e:Sq H1 H2) (h:News H H1 ds vs):News H H2 ds vs:=by
 obtain⟨fp,h1,h2,h3⟩:=h
 exact⟨fp,zaj.sq e ds h1,h2,h3⟩
theorem News.snoc' {H H1 H2:Hp}{ds:List D}{vs:List V}{d:D}{v:V}(h:News H H1 ds vs) (e:Free H H1) (e2:Same H1 H2) (n:New H1 H2 d v):News H H2 (ds++[d]) (vs++[v]):=by
 obtain⟨fp,h1,h2,h3⟩:=h
 obtain⟨fq,g1,g2,g3⟩:=n
 refine⟨fp++fq,(zaj.sq e2.sq ds h1).snoc g1,List.nodup_append.mpr ⟨h2,g2,λa ha b hb z=>?_⟩,λa m=>?_⟩
 ·subst z
  obtain⟨o,ho⟩:=zaj.has ds h1 a ha
  have:=g3 a hb
  rw[ho] at this;cases this
 ·rcases zma.mp m with m | m
  ·exact h3 a m
  ·exact e a (g3 a m)
def Part (H:Hp) (d:D) (x:V):Prop:=(∃ i,d=.int i∧x=.int i)∨(∃ s,d=.str s∧x=.str s)∨(∃ b l,d=nums l∧x=.ref b∧H b=some (.lst (l.map V.int)))∨∃ b i j,d=.tup [.int i,.int j]∧x=.ref b∧H b=some (.tup [.int i,.int j])
def zbC (H:Hp) (d:D) (v:V):Prop:=∃ t xs ds,d=.tup ds∧v=.ref t∧H t=some (.tup xs)∧ds.length=xs.length∧ds.length≤8∧∀ (i:Nat) dd x,ds[i]?=some dd→xs[i]?=some x→Part H dd x
theorem Part.sq {H H':Hp}(e:Sq H H') {d:D}{x:V}(h:Part H d x):Part H' d x:=by
 rcases h with h | h | ⟨b,l,h1,h2,h3⟩ | ⟨b,i,j,h1,h2,h3⟩
 ·exact .inl h
 ·exact .inr (.inl h)
 ·exact .inr (.inr (.inl ⟨b,l,h1,h2,e _ _ h3 rfl⟩))
 ·exact .inr (.inr (.inr ⟨b,i,j,h1,h2,e _ _ h3 rfl⟩))
theorem zbC.sq {H H':Hp}(e:Sq H H') {d:D}{v:V}(h:zbC H d v):zbC H' d v:=by
 obtain⟨t,xs,ds,h1,h2,h3,h4,h5,h6⟩:=h
 exact⟨t,xs,ds,h1,h2,e _ _ h3 rfl,h4,h5,λi dd x e1 e2=>(h6 i dd x e1 e2).sq e⟩
def zi6 (d:D):Prop:=(∃ i,d=.int i)∨(∃ s,d=.str s)∨(∃ l,l.length=9∧d=nums l)∨∃ i j,d=.tup [.int i,.int j]
theorem znW {H:Hp}{d:D}{v:V}{fp:List Addr}(s:zi6 d) (h:RepF H d v fp):Part H d v:=by
 rcases s with ⟨i,rfl⟩ | ⟨i,rfl⟩ | ⟨l,_,rfl⟩ | ⟨i,j,rfl⟩
 ·unfold RepF at h;exact .inl ⟨i,rfl,h.1⟩
 ·unfold RepF at h;exact .inr (.inl ⟨i,rfl,h.1⟩)
 ·unfold RepF at h
  obtain⟨a,xs,r,h1,_,h2,h3⟩:=h
  obtain⟨rfl,_⟩:=zaj.ints_eq h3
  exact .inr (.inr (.inl ⟨a,l,rfl,h1,h2⟩))
 ·unfold RepF at h
  obtain⟨a,xs,h1,h2,h3⟩:=h
  have q:=zaj.ints_eq (ns:=[i,j]) h3
  rw[q.1] at h2
  exact .inr (.inr (.inr ⟨a,i,j,rfl,h1,h2⟩))
theorem zi7 {H:Hp} : ∀ {ds:List D}{xs:List V}{fp:List Addr},(∀ d∈ds,zi6 d)→zaj H ds xs fp→∀ (i:Nat) dd x,ds[i]?=some dd→xs[i]?=some x→Part H dd x
 | [],_,_,_,_,i,dd,x,e,_=>by simp at e
 | d::ds,_,_,s,h,i,dd,x,e1,e2=>by
  unfold zaj at h
  obtain⟨v,r,f,g,rfl,_,h1,h2⟩:=h
  cases i with
  | zero=>simp at e1 e2;subst e1;subst e2;exact znW (s d List.mem_cons_self) h1
  | succ i=>exact zi7 (λc hc=>s c (List.mem_cons_of_mem _ hc)) h2 i dd x (by simpa using e1) (by simpa using e2)
def Deed (d:D):Prop:=∃ ds,d=.tup ds∧ds.length≤8∧∀ c∈ds,zi6 c
theorem zfk {H:Hp}{d:D}{v:V}{fp:List Addr}(s:Deed d) (h:RepF H d v fp):zbC H d v:=by
 obtain⟨ds,rfl,h8,hs⟩:=s
 unfold RepF at h
 obtain⟨a,xs,h1,h2,h3⟩:=h
 exact⟨a,xs,ds,rfl,h1,h2,h3.length,h8,zi7 hs h3⟩
def Acc (H:Hp) (da:Addr) (H2:Hp) (ds:List D) (vs:List V):Prop:=∃ fp,H2 da=some (.lst vs)∧zaj H2 ds vs fp∧fp.Nodup∧da∉fp∧∀ b∈fp,H b=none
theorem Acc.start {H H2:Hp}{da:Addr}(h:H2 da=some (.lst [])):Acc H da H2 [] []:=⟨[],h,zaj.nil,List.nodup_nil,by simp,λ_ m=>by cases m⟩
theorem Acc.app {H H2 H3:Hp}{da:Addr}{ds:List D}{vs:List V}{d:D}{v:V}(a:Acc H da H2 ds vs) (f:Free H H2) (s:Same H2 H3) (n:New H2 H3 d v):Acc H da (upd H3 da (.lst (vs++[v]))) (ds++[d]) (vs++[v]):=by
 obtain⟨fp,h1,h2,h3,h4,h5⟩:=a
 obtain⟨fq,g1,g2,g3⟩:=n
 have hd3:=s _ _ h1
 have tk:=zb3 (o:=.lst (vs++[v])) hd3
 have ndq:da∉fq:=λm=>by have:=g3 da m;rw[h1] at this;cases this
 have k1:∀ b∈fp,(upd H3 da (.lst (vs++[v]))) b=H2 b:=λb hb=>by
  obtain⟨o,ho⟩:=zaj.has ds h2 b hb
  rw[zak (show b≠da from λz=>h4 (by rw[←z];exact hb)),ho]
  exact s _ _ ho
 have k2:∀ b∈fq,(upd H3 da (.lst (vs++[v]))) b=H3 b:=λb hb=>by rw[zak (show b≠da from λz=>ndq (by rw[←z];exact hb))]
 refine⟨fp++fq,zaf,(zaj.frame (s.tups.trans tk) ds k1 h2).snoc (RepF.frame tk d k2 g1),List.nodup_append.mpr ⟨h3,g2,λa ha b hb z=>?_⟩,λm=>(zma.mp m).elim h4 ndq,λb m=>?_⟩
 ·subst z
  obtain⟨o,ho⟩:=zaj.has ds h2 a ha
  have:=g3 a hb
  rw[ho] at this;cases this
 ·rcases zma.mp m with m | m
  ·exact h5 b m
  ·exact f b (g3 b m)
theorem Acc.new {H H2:Hp}{da:Addr}{ds:List D}{vs:List V}(a:Acc H da H2 ds vs) (h:H da=none):New H H2 (.lst ds) (.ref da):=by
 obtain⟨fp,h1,h2,h3,h4,h5⟩:=a
 exact New.lst h2 h3 h5 h h4 h1
def is9 (H:Hp) (b:Addr):Prop:=∃ l:List Int,l.length=9∧H b=some (.lst (l.map V.int))
structure Mt (S:Addr→Prop) (Hs H:Hp):Prop where
 off:∀ b o,¬ S b→Hs b=some o→H b=some o
 on:∀ b,S b→is9 H b
theorem Mt.set {S:Addr→Prop}{Hs H:Hp}(m:Mt S Hs H) {b:Addr}(hb:S b) {l:List Int}(hl:l.length=9) (x:Int):Mt S Hs (upd H b (.lst ((l.map V.int).set 0 (.int x)))) where
 off:=λc o hc e=>by rw[zak (λz=>hc (by rw[z];exact hb))];exact m.off c o hc e
 on:=λc hc=>by
  by_cases e:c=b
  ·subst e
   refine⟨l.set 0 x,by rw[List.length_set];exact hl,?_⟩
   rw[zaf,List.map_set]
  ·obtain⟨l',h1,h2⟩:=m.on c hc
   exact⟨l',h1,by rw[zak e];exact h2⟩
theorem zi8 {H:Hp}{b:Addr}{xs:List V}(h:H b=some (.tup xs)):¬ is9 H b:=λ⟨l,_,e⟩=>by rw[h] at e;cases e
theorem zmq {H:Hp}{b:Addr}{xs:List V}(h:H b=some (.lst xs)) (hx:∀ x∈xs,∀ i,x≠.int i):¬ is9 H b:=λ⟨l,hl,e⟩=>by
 rw[h] at e
 cases e
 cases l with
 | nil=>simp at hl
 | cons i r=>exact hx (.int i) (by simp) i rfl
def zpu (H0 H H':Hp):Prop:=∀ b o,H0 b=none→H b=some o→H' b=some o
theorem Mt.young {S:Addr→Prop}{H0 Hs H:Hp}(m:Mt S Hs H) (h:∀ b,S b→H0 b≠none):zpu H0 Hs H:=λb o e1 e2=>m.off b o (λhs=>h b hs e1) e2
theorem Mt.tups {S:Addr→Prop}{Hs H:Hp}(m:Mt S Hs H) (h:∀ b,S b→is9 Hs b):Tups Hs H:=λb xs e=>m.off b _ (λhs=>zi8 e (h b hs)) e
theorem is9.cons {H:Hp}{b:Addr}(h:is9 H b):∃ (x:Int) (r:List Int),r.length=8∧H b=some (.lst ((x::r).map V.int)):=by
 obtain⟨l,hl,e⟩:=h
 cases l with
 | nil=>simp at hl
 | cons x r=>exact⟨x,r,by simpa using hl,e⟩
theorem zpv {K:Fg}{a:Addr}{xs:List V}{g:TG}{tb:TS}{D:Ends}{σ:St}{H:Hp}(Pv:Nat→St→Hp→Prop) (h0:Pv 0 σ H) (hl:∀ i σ H,i≤xs.length→Pv i σ H→SqT K H a xs)
  (hs:∀ i x σ H,xs[i]?=some x→Pv i σ H→g x σ H λσ2 H2=>tb {D with nx:=Pv (i+1),ct:=Pv (i+1),bk:=D.nx} σ2 H2) (hd:∀ σ H,Pv xs.length σ H→D.nx σ H):zjN (Itt K a) g tb D σ H:=znt Pv h0 hl hs hd
theorem zi9 {H:Hp}{d1 d2 d3 d4:D}{vs:List V}{fp:List Addr}(h:zaj H [d1,d2,d3,d4] vs fp):∃ x1 x2 x3 x4 f1 f2 f3 f4,vs=[x1,x2,x3,x4]∧RepF H d1 x1 f1∧RepF H d2 x2 f2∧RepF H d3 x3 f3∧RepF H d4 x4 f4:=by
 unfold zaj at h
 obtain⟨x1,_,f1,_,rfl,_,h1,h⟩:=h
 unfold zaj at h
 obtain⟨x2,_,f2,_,rfl,_,h2,h⟩:=h
 unfold zaj at h
 obtain⟨x3,_,f3,_,rfl,_,h3,h⟩:=h
 unfold zaj at h
 obtain⟨x4,_,f4,_,rfl,_,h4,h⟩:=h
 unfold zaj at h
 obtain⟨rfl,_⟩:=h
 exact⟨x1,x2,x3,x4,f1,f2,f3,f4,rfl,h1,h2,h3,h4⟩
theorem RepF.lst_out {H:Hp}{ds:List D}{x:V}{fp:List Addr}(h:RepF H (.lst ds) x fp):∃ b xs r,x=.ref b∧H b=some (.lst xs)∧zaj H ds xs r:=by
 unfold RepF at h
 obtain⟨b,xs,r,e1,_,e3,e4⟩:=h
 exact⟨b,xs,r,e1,e3,e4⟩
theorem zaj.mem {H:Hp} : ∀ {ds:List D}{xs:List V}{fp:List Addr},zaj H ds xs fp→∀ x∈xs,∃ d∈ds,∃ f,RepF H d x f
 | [],_,_,h,x,m=>by unfold zaj at h;rw[h.1] at m;cases m
 | d::ds,_,_,h,x,m=>by
  unfold zaj at h
  obtain⟨v,r,f,g,rfl,_,h1,h2⟩:=h
  rcases List.mem_cons.mp m with m | m
  ·subst m;exact⟨d,List.mem_cons_self,f,h1⟩
  ·obtain⟨e,he,q⟩:=zaj.mem h2 x m
   exact⟨e,List.mem_cons_of_mem _ he,q⟩
theorem zaj.item {H:Hp} : ∀ {ds:List D}{xs:List V}{fp:List Addr},zaj H ds xs fp→∀ (i:Nat) d x,ds[i]?=some d→xs[i]?=some x→∃ f,RepF H d x f
 | [],_,_,_,i,d,x,e,_=>by simp at e
 | c::ds,_,_,h,i,d,x,e1,e2=>by
  unfold zaj at h
  obtain⟨v,r,f,g,rfl,_,h1,h2⟩:=h
  cases i with
  | zero=>simp at e1 e2;subst e1;subst e2;exact⟨f,h1⟩
  | succ i=>exact zaj.item h2 i d x (by simpa using e1) (by simpa using e2)
theorem zcT {b:Bool}{X Y:Prop}(h1:b=true→X) (h2:b=false→Y):∃ c,V.bl b=.bl c∧(if c=true then X else Y):=by
 cases b with
 | true=>exact⟨true,rfl,iteT (h1 rfl)⟩
 | false=>exact⟨false,rfl,iteF (h2 rfl)⟩
theorem zen {b:Bool}{X Y:Prop}(h1:b=true→X) (h2:b=false→Y):(if b=true then X else Y):=by
 cases b with
 | true=>exact iteT (h1 rfl)
 | false=>exact iteF (h2 rfl)
theorem zpw {K:Fg}{H:Hp}{Q:VK}{a b:Addr}{xs ys:List V}(h1:SqT K H a xs) (h2:SqT K H b ys) (nx:xs≠[]) (ny:ys≠[]) (z:xs.length+ys.length≤sizeLine) (q:∀ p,H p=none→Q (.ref p) (upd H p (.tup (xs++ys)))):zk1 K (.ref a) (.ref b) H Q:=
 .inr (.inr ⟨a,b,xs,ys,rfl,rfl,h1,h2,nx,z,λe=>absurd e ny,λ_=>q⟩)
theorem zdR {K:Fg}{H:Hp}{ds:List D}{v:V}(h:Rep K H (.tup ds) v):∃ a xs,v=.ref a∧SqT K H a xs∧Reps K H ds xs:=by unfold Rep at h;exact h
end L2

namespace L2
open PySem PySem.Spec PyProof.Rows PySem.W
theorem zbA.has {P:Program}{w:World}{H:Hp}{h:Heap}{a:Addr}{o:HO}(x:zbA P w H h a o):∃ u,h.get? a=some u:=by
 cases o with
 | lst xs=>obtain⟨_,_,_,_,e⟩:=x;exact⟨_,e⟩
 | tup xs=>obtain⟨_,_,_,_,e,_⟩:=x;exact⟨_,e⟩
 | dK kvs=>obtain⟨_,_,_,_,o,_,_,e,_⟩:=x;exact⟨_,e⟩
 | dT kvs=>obtain⟨_,_,_,_,o,_,_,e,_⟩:=x;exact⟨_,e⟩
 | set S n=>obtain⟨o,_,_,_,e,_⟩:=x;exact⟨_,e⟩
 | ins C dx fs=>obtain⟨_,_,_,e,_⟩:=x;exact⟨_,e⟩
 | own y=>obtain⟨_,e⟩:=x;exact⟨_,e⟩
 | xd fs=>obtain⟨_,⟨_,_,_,e,_⟩,_⟩:=x;exact⟨_,e⟩
 | rng lo hi=>obtain⟨_,_,_,e⟩:=x;exact⟨_,e⟩
 | frz ob u=>obtain⟨e,_⟩:=x;exact⟨_,e⟩
 | tbl ps=>exact⟨_,show h.get? a=some _ from x⟩
 | met f y=>exact⟨_,show h.get? a=some _ from x⟩
 | ext φ=>obtain⟨_,⟨_,e⟩,_⟩:=x;exact⟨_,e⟩
def zif (h:Heap) (e T:Addr) (cls fl:Value):Prop:=∃ oe vs oT ts,h.get? e=some oe∧oe.cls=cls∧oe.dict=none∧oe.data=.fields vs∧vs[1]?=some (.ref T)∧T≠e∧h.get? T=some oT∧oT.data=.fields ts∧ts[3]?=some fl
def zgj (fr as:List Addr) (h h':Heap):Prop:=(∀ b o,h.get? b=some o→b∉fr→b∉as→h'.get? b=some o)∧∀ b o,h.get? b=some o→b∈fr→b∉as→∃ sl,h'.get? b=some {o with slots:=sl}
theorem zgj.up {fr as:List Addr}{h h':Heap}(k:zgj fr as h h') {b:Addr}{o:Obj}(e:h.get? b=some o) (n:b∉as):∃ sl,h'.get? b=some {o with slots:=sl}:=by
 by_cases m:b∈fr
 ·exact k.2 b o e m n
 ·exact⟨o.slots,k.1 b o e m n⟩
section
variable {M : Model} {A : Around} {E : Value → Shared → Prop} {s : Shared}
theorem zhs {base:Heap}{env:Env}{outer:List Env}{L e:Addr}{oe:Obj}{vs:Array Value}{head:Value}{hadNext:Bool}{Q:Unit→Shared→Prop}(hfr:A.frames=some (env::outer)) (hl:s.heap.FunFrames base (env::outer)) (hf:env.frame=some L)
  (he:s.heap.get? e=some oe) (hd:oe.data=.fields vs) (hsz:1<vs.size) (hdi:oe.dict=none)
  (h:∀ h' T,s.heap.get? T=none→zif h' e T oe.cls (rawInt L)→zgj (frs (env::outer)) [e] s.heap h'→Q () {s with heap:=h'}) :
  wpAny M A (do let a ←frameOf env;let pl ←entryPlaceOf L hadNext;let b ←EntryCells.newEntry head a .none (rawInt L) .none pl;setField (.ref e) 1 b) Q E s:=by
 have hene:e∉(env::outer).filterMap (·.frame):=λhm=>by
  obtain⟨_,o,ho,hnf⟩:=hl.mem hm
  rw[he] at ho;injection ho with ho;subst ho;exact hnf vs hd
 refine wpAny_bind (wpAny_frameOf_fun hfr hl hf λh₁ hs₁=>?_)
 refine wpAny_bind (wpAny_entryPlaceOf λpl hpl=>?_)
 unfold EntryCells.newEntry newFields
 refine wpAny_bind (wpAny_newObj_type ?_ (hpl.sizeOk5 _ _ _ _ _))
 have he₁:h₁.get? e=some oe:=(hs₁.2.1 e hene).trans he
 have he₂:=Heap.get?_push_of_some (h:=h₁) {cls:=.type "traceback",dict:=none,data:=.fields ([head,.ref L,.none,rawInt L,.none]++(if pl.isEmpty then List.replicate 6 Value.none else pl)).toArray} he₁
 refine wpAny_setField he₂ hd hsz (h _ h₁.objs.size (Heap.get?_none_of_le (by rw[hs₁.1];exact Nat.le_refl _)) ?_ ?_)
 ·have hTe:h₁.objs.size≠e:=Nat.ne_of_gt (Heap.lt_size he₁)
  have hd₃:=Obj.data_mapFields hd (·.setIfInBounds 1 (Value.ref h₁.objs.size))
  have he₃:=Heap.get?_update_self (Obj.mapFields (·.setIfInBounds 1 (Value.ref h₁.objs.size))) he₂ (Obj.isFreed_of_fields hd₃)
  have hT₃:=(Heap.get?_update_other (h₁.push {cls:=.type "traceback",dict:=none,data:=.fields ([head,.ref L,.none,rawInt L,.none]++(if pl.isEmpty then List.replicate 6 Value.none else pl)).toArray})
   (Obj.mapFields (·.setIfInBounds 1 (Value.ref h₁.objs.size))) (Ne.symm hTe)).trans (Heap.get?_push_size h₁ rfl)
  refine⟨_,_,_,_,he₃,Obj.cls_mapFields _ _,?_,hd₃,by simp[hsz],hTe,hT₃,rfl,by first | (simp;done) | (rcases hpl with rfl | ⟨_,_,_,_,_,_,_,rfl⟩ <;> simp)⟩
  obtain⟨c,di,dt,sl⟩:=oe
  cases hd
  exact hdi
 ·have keep:∀ b o,b≠e→h₁.get? b=some o→((h₁.push {cls:=.type "traceback",dict:=none,data:=.fields ([head,.ref L,.none,rawInt L,.none]++(if pl.isEmpty then List.replicate 6 Value.none else pl)).toArray}).update e (Obj.mapFields (·.setIfInBounds 1 (Value.ref h₁.objs.size)))).get? b=some o:=λb o hbe hb=>by
   rw[Heap.get?_update_other _ _ (Ne.symm hbe)]
   exact Heap.get?_push_of_some _ hb
  refine⟨λb o eb n1 n2=>keep b o (λz=>n2 (by simp[z])) ((hs₁.2.1 b n1).trans eb),λb o eb m n=>?_⟩
  obtain⟨sl,hsl⟩:=hs₁.2.2 b o eb
  exact⟨sl,keep b _ (λz=>n (by simp[z])) hsl⟩
theorem zja {fr:List Addr}{e T:Addr}{cls fl:Value}{Q:Unit→Shared→Prop}(F:zif s.heap e T cls fl) (h:∀ h',zif h' e T cls .none→zgj fr [T] s.heap h'→Q () {s with heap:=h'}):wpAny M A (setFlight (.ref e) none) Q E s:=by
 obtain⟨oe,vs,oT,ts,he,hcls,hdi,hd,h1,hTe,hT,hdT,h3⟩:=F
 have hsz3:3<ts.size:=(Array.getElem?_eq_some_iff.mp h3).1
 have other:∀ b,b≠T→(s.heap.update T (Obj.mapFields (·.setIfInBounds 3 ((none:Option Addr).elim Value.none λf=>rawInt f)))).get? b=s.heap.get? b:=λb hb=>Heap.get?_update_other _ _ (Ne.symm hb)
 unfold setFlight
 refine wpAny_bind (wpAny_field he hd h1 ?_)
 rw[if_pos (show (Value.ref T != Value.none)=true from by simp)]
 refine wpAny_setField hT hdT hsz3 (h _ ?_ ⟨λb o e n1 n2=>(other b (λz=>n2 (by simp[z]))).trans e,λb o e m n=>⟨o.slots,(other b (λz=>n (by simp[z]))).trans e⟩⟩)
 exact⟨oe,vs,_,_,(other e (Ne.symm hTe)).trans he,hcls,hdi,hd,h1,hTe,Heap.get?_update_self _ hT (Obj.isFreed_of_fields (Obj.data_mapFields hdT _)),Obj.data_mapFields hdT _,by simp[hsz3]⟩
theorem zmr {base:Heap}{env:Env}{outer:List Env}{L e T:Addr}{cls:Value}{Q:Unit→Shared→Prop}(hfr:A.frames=some (env::outer)) (hl:s.heap.FunFrames base (env::outer)) (hf:env.frame=some L) (F:zif s.heap e T cls .none)
  (h:∀ h' T',s.heap.get? T'=none→zif h' e T' cls (rawInt L)→zgj (frs (env::outer)) [e,T] s.heap h'→Q () {s with heap:=h'}):wpAny M A (noteFrame (.ref e) env) Q E s:=by
 obtain⟨oe,vs,oT,ts,he,hcls,hdi,hd,h1,hTe,hT,hdT,h3⟩:=F
 subst hcls
 have hsz3:3<ts.size:=(Array.getElem?_eq_some_iff.mp h3).1
 have other:∀ b,b≠T→(s.heap.update T (Obj.mapFields (·.setIfInBounds 3 Value.none))).get? b=s.heap.get? b:=λb hb=>Heap.get?_update_other _ _ (Ne.symm hb)
 have noRecord:∀ b o,s.heap.get? b=some o→(∀ vs,o.data≠.fields vs)→b≠T:=λb o hb hnf q=>by
  rw[q,hT] at hb;injection hb with hb;subst hb;exact hnf ts hdT
 unfold noteFrame
 simp only[hf]
 refine wpAny_bind (wpAny_field he hd h1 ?_)
 rw[if_pos (show (Value.ref T != Value.none)=true from by simp)]
 refine wpAny_bind (wpAny_field hT hdT h3 ?_)
 rw[if_neg (show ¬ ((Value.none == rawInt L)=true) from by simp[rawInt])]
 refine wpAny_bind (wpAny_setField hT hdT hsz3 ?_)
 refine zhs hfr (hl.of_keeps λb o hb hnf=>⟨o,(other b (noRecord b o hb hnf)).trans hb,rfl⟩) hf ((other e (Ne.symm hTe)).trans he) hd (Array.getElem?_eq_some_iff.mp h1).1 hdi λh' T' n F' k=>?_
 have nT':s.heap.get? T'=none:=by
  by_cases z:T'=T
  ·subst z
   rw[Heap.get?_update_self _ hT (Obj.isFreed_of_fields (Obj.data_mapFields hdT _))] at n
   cases n
  ·rw[←other T' z];exact n
 refine h h' T' nT' F' ⟨λb o eb n1 n2=>k.1 b o ((other b (λz=>n2 (by simp[z]))).trans eb) n1 (λz=>n2 (by simp at z;simp[z])),λb o eb m n2=>k.2 b o ((other b (λz=>n2 (by simp[z]))).trans eb) m (λz=>n2 (by simp at z;simp[z]))⟩
end
def Fly (h0 h:Heap) (H:Hp) (e:Addr) (cls:Value):Prop:=∃ T,zif h e T cls .none∧H e=none∧H T=none∧h0.get? e=none∧h0.get? T=none
def CX1 (P:Program) (w:World):CXT:=λouter H s E e s'=>∃ a C H',e=.ref a∧s'.os=s.os∧AllBare s'.gens∧Un (frs outer) [] H H' s.heap s'.heap∧HOk P w H' s'.heap∧Fly s.heap s'.heap H' a C∧E C none H'
section
variable {P : Program} {w : World} {K : Fg} {mg : Str → Option Value} {base : Heap} {N : List Str} {qual : Str} {scope : Scope} {f : Addr} {cd : Value} {A : Around} {outer : List Env} {s : Shared} {H : Hp} {E : XK}
theorem zjb {X:Cx}{pins:List (Addr × Obj)}{σ:St}{H2:Hp}{s2:Shared}(I:Inv X pins σ H2 s2) (hex:X.ex=[]) {b:Addr}(n:s2.heap.get? b=none):X.s₀.heap.get? b=none:=by
 cases z:X.s₀.heap.get? b with
 | none=>rfl
 | some o=>
  obtain⟨u,hu⟩:=I.base.there b o z (by rw[hex];simp)
  rw[n] at hu;cases hu
theorem zpx {X:Cx}{pins:List (Addr × Obj)}{σ:St}{H2:Hp}{s2:Shared}(I:Inv X pins σ H2 s2) {b:Addr}(n:s2.heap.get? b=none):H2 b=none:=by
 cases z:H2 b with
 | none=>rfl
 | some o=>
  obtain⟨u,hu⟩:=(I.hok b o z).has
  rw[n] at hu;cases hu
theorem zk7 {pins:List (Addr × Obj)}{σ:St}{H2:Hp}{s2:Shared}{h':Heap}{as:List Addr}{a T:Addr}{C:Value}(I:Inv (cxOf (CX1 P w) P w K mg base N qual scope f cd A outer s H E) pins σ H2 s2) (hx:H2 a=none) (hx0:s.heap.get? a=none) (has:∀ b∈as,H2 b=none∧s.heap.get? b=none)
  (nT:s2.heap.get? T=none) (F:zif h' a T C .none) (L:zgj (frs (cxOf (CX1 P w) P w K mg base N qual scope f cd A outer s H E).stack) as s2.heap h') (q:E C none H2):CX1 P w outer H s E (.ref a) {s2 with heap:=h'}:=by
 have fr:∀ b,b∈frs (cxOf (CX1 P w) P w K mg base N qual scope f cd A outer s H E).stack→b=s.heap.objs.size∨b∈frs outer:=λb hb=>by
  obtain⟨ev,he,hf⟩:=List.mem_filterMap.mp hb
  rcases List.mem_cons.mp he with z | z
  ·subst z;exact .inl (Option.some.inj hf).symm
  ·exact .inr (List.mem_filterMap.mpr ⟨ev,z,hf⟩)
 have nsz:s.heap.get? s.heap.objs.size=none:=Heap.get?_none_of_le (Nat.le_refl _)
 have hidden:∀ b,s.heap.get? b≠none→b∉as:=λb n m=>n (has b m).2
 refine⟨a,C,H2,rfl,I.os,I.bare,⟨λb o e n nf _=>?_,λb o e n nf _=>?_,λb o e n _=>I.base.free b o e n (by intro m;cases m),λb o e _=>?_,I.base.tups,I.base.frzs,I.base.tbls⟩,λb u e=>?_,⟨T,F,hx,zpx I nT,hx0,zjb I rfl nT⟩,q⟩
 ·refine L.1 b o (I.base.keep b o e n nf (by intro m;cases m)) (λm=>?_) (hidden b (by rw[e];simp))
  rcases fr b m with z | z
  ·subst z;rw[nsz] at e;cases e
  ·exact nf z
 ·obtain⟨sl,e'⟩:=I.base.slot b o e n nf (by intro m;cases m)
  obtain⟨sl2,e2⟩:=L.up e' (hidden b (by rw[e];simp))
  exact⟨sl2,e2⟩
 ·obtain⟨o2,h2⟩:=I.base.there b o e (by intro m;cases m)
  obtain⟨sl,e5⟩:=L.up h2 (hidden b (by rw[e];simp))
  exact⟨_,e5⟩
 ·refine (I.hok b u e).stay (λc v hc q=>L.1 c v q (λm=>?_) (λm=>?_)) (λ_ q=>q) λ_ _ q=>q
  ·have:=I.stkFree c m
   rcases hc with z | z
   ·subst z;rw[e] at this;cases this
   ·rw[z] at this;cases this
  ·have:=(has c m).1
   rcases hc with z | z
   ·subst z;rw[e] at this;cases this
   ·rw[z] at this;cases this
theorem zmt {pins:List (Addr × Obj)}{σ:St}{H2:Hp}{s2:Shared}{a:Addr}{C:Value}(I:Inv (cxOf (CX1 P w) P w K mg base N qual scope f cd A outer s H E) pins σ H2 s2) (F:Fly s.heap s2.heap H2 a C) (q:E C none H2):(cxOf (CX1 P w) P w K mg base N qual scope f cd A outer s H E).xe (.ref a) s2:=by
 obtain⟨T,F,hx,hT,hx0,hT0⟩:=F
 show wpAny _ _ (leaving _ _) _ _ _
 unfold leaving
 refine wpAny_bind (zmr (outer:=outer) I.ok.frames I.stack rfl F λh1 T1 n1 F1 k1=>?_)
 refine zja (fr:=frs (cxOf (CX1 P w) P w K mg base N qual scope f cd A outer s H E).stack) F1 λh2 F2 k2=>?_
 refine zk7 (s2:=s2) (h':=h2) (as:=[a,T]) I hx hx0 (λb m=>?_) n1 F2 ⟨λb o e m n=>k2.1 b o (k1.1 b o e m n) m (λz=>by rw[zms.mp z,n1] at e;cases e),λb o e m n=>?_⟩ q
 ·rcases List.mem_cons.mp m with z | z
  ·subst z;exact⟨hx,hx0⟩
  ·rw[zms.mp z];exact⟨hT,hT0⟩
 ·obtain⟨sl,e1⟩:=k1.2 b o e m n
  obtain⟨sl2,e2⟩:=k2.up e1 (λz=>by rw[zms.mp z,n1] at e;cases e)
  exact⟨sl2,e2⟩
theorem pass1 {pins:List (Addr × Obj)}{σ:St}{H2:Hp}{s2:Shared}{e:Value}{s3:Shared}(I:Inv (cxOf (CX1 P w) P w K mg base N qual scope f cd A outer s H E) pins σ H2 s2) (h:CX1 P w (cxOf (CX1 P w) P w K mg base N qual scope f cd A outer s H E).stack H2 s2 E e s3):(cxOf (CX1 P w) P w K mg base N qual scope f cd A outer s H E).xe e s3:=by
 obtain⟨a,C,H3,rfl,os,bare,un,hok,⟨T,F,hx,hT,hx0,hT0⟩,q⟩:=h
 exact zmt (I.call' os un hok bare (λb z=>absurd z (by simp))) ⟨T,F,hx,hT,zjb I rfl hx0,zjb I rfl hT0⟩ q
theorem zk8:zcf (CX1 P w) (cxOf (CX1 P w) P w K mg base N qual scope f cd A outer s H E) E:=λ_ _ _ _ _ _ I h=>pass1 I h
theorem zk9 {pins:List (Addr × Obj)}{σ:St}{H2:Hp}{s2:Shared}{h3:Heap}{a:Addr}{C:Value}{args:List Value}(I:Inv (cxOf (CX1 P w) P w K mg base N qual scope f cd A outer s H E) pins σ H2 s2) (M:Heap.MadeExcOf s2.heap h3 a C args) (q:E C none H2):(cxOf (CX1 P w) P w K mg base N qual scope f cd A outer s H E).xe (.ref a) {s2 with heap:=h3}:=by
 obtain⟨t,he,htn,ht⟩:=M.there
 have I3:Inv (cxOf (CX1 P w) P w K mg base N qual scope f cd A outer s H E) pins σ H2 {s2 with heap:=h3}:=I.un (h':=h3) (t':=s2.toks) (Un.kept M.keeps) (I.hok.kept M.keeps)
 have hx:=zpx I M.new
 have hx0:s.heap.get? a=none:=zjb I rfl M.new
 show wpAny _ _ (leaving _ _) _ _ _
 unfold leaving noteFrame
 show wpAny _ _ ((do let head ←field (.ref a) 1;_) >>= _) _ _ _
 refine wpAny_bind (wpAny_bind (wpAny_field he rfl (x:=.none) rfl ?_))
 rw[if_neg (by decide)]
 refine zhs (outer:=outer) I3.ok.frames I3.stack rfl he rfl (by simp) rfl λh1 T1 n1 F1 k1=>?_
 refine zja (fr:=frs (cxOf (CX1 P w) P w K mg base N qual scope f cd A outer s H E).stack) F1 λh2 F2 k2=>?_
 have n1':h3.get? T1=none:=n1
 refine zk7 (s2:={s2 with heap:=h3}) (h':=h2) (as:=[a]) I3 hx hx0 (λb m=>by rw[zms.mp m];exact⟨hx,hx0⟩) n1' F2 ⟨λb o e m n=>k2.1 b o (k1.1 b o e m n) m (λz=>by rw[zms.mp z] at e;rw[show h3.get? T1=some o from e] at n1';cases n1'),λb o e m n=>?_⟩ q
 obtain⟨sl,e1⟩:=k1.2 b o e m n
 obtain⟨sl2,e2⟩:=k2.up e1 (λz=>by rw[zms.mp z] at e;rw[show h3.get? T1=some o from e] at n1';cases n1')
 exact⟨sl2,e2⟩
end
end L2

namespace L2
open PySem PySem.Spec PyProof.Rows PySem.W
structure Err (K:Fg) (C:Addr) (anc:List Value):Prop where
 ob:∃ nm q N bs hdct sn sub ab col dd k0 k1 k2 k3 k5,K.lookup C=some (excClassObj nm q C N bs anc hdct sn sub ab col dd k0 k1 k2 k3 k5 "ValueError.__new__")
 ex:excIn K C zbj "ValueError.__new__"=true
theorem Err.obj {K:Fg}{C:Addr}{anc:List Value}{h:Heap}(X:K.In h) (e:Err K C anc):∃ nm q N bs hdct sn sub ab col dd k0 k1 k2 k3 k5 mN,h.get? C=some (excClassObj nm q C N bs anc hdct sn sub ab col dd k0 k1 k2 k3 k5 "ValueError.__new__")∧h.Ns N mN∧mN "__init__"=none∧OwnTail h zbj anc:=by
 obtain⟨⟨nm,q,N,bs,hdct,sn,sub,ab,col,dd,k0,k1,k2,k3,k5,l⟩,x⟩:=e
 unfold excIn at x
 rw[l] at x
 simp only[Bool.and_eq_true,beq_iff_eq,Bool.not_eq_true'] at x
 obtain⟨⟨⟨_,ht⟩,hok⟩,hni⟩:=x
 exact⟨nm,q,N,bs,hdct,sn,sub,ab,col,dd,k0,k1,k2,k3,k5,_,X _ _ l,.of_isNs (isNs_of_in X hok),nsMap_none_of_in X hok hni,tail_of_in X ht⟩
def zna (X:Cx) (E:XK):Prop:=∀ (pins:List (Addr × Obj)) (σ:St) (H:Hp) (s:Shared) (h':Heap) (a:Addr) (C:Value) (args:List Value),Inv X pins σ H s→Heap.MadeExcOf s.heap h' a C args→E C none H→X.xe (.ref a) {s with heap:=h'}
theorem zgJ {P:Program}{w:World}{K:Fg}{mg:Str→Option Value}{base:Heap}{N:List Str}{qual:Str}{scope:Scope}{f:Addr}{cd:Value}{A:Around}{outer:List Env}{s:Shared}{H:Hp}{E:XK} :
  zna (cxOf (CX1 P w) P w K mg base N qual scope f cd A outer s H E) E:=λ_ _ _ _ _ _ _ _ I M q=>zk9 I M q
def znb (C:Value) (E:XK) (t:TA):TS:=λ_ σ H=>t σ H λvs H1=>vs.length≤sizeLine∧E C none H1
section
variable {X : Cx} {x : Str} {np cpos pos : Pos} {e0 : Expr} {rest : List Expr} {C : Addr} {anc : List Value} {E : XK} {t : TA}
theorem zeV (c:Err X.K C anc) (hg:Gl X x) (hm:X.mg x=some (.ref C)) (hc:X.calm=true) (ht:zna X E) (ha:PA X (e0::rest) t) (he:starEach (e0::rest) X.env=(false,eval e0 X.env)::starEach rest X.env:=by rfl)
  (hpl:(backTo cpos (starEach rest X.env)).any (·.1)=false:=by rfl) (hd:(x == ("__debug__" : Str))=false:=by decide):PS X (.Raise (some (.Call (.Name x np) (e0::rest) [] cpos)) none pos) (znb (.ref C) E t):=by
 intro pins s σ H D I h
 obtain⟨nm,q,N,bs,hdct,sn,sub,ab,col,dd,k0,k1,k2,k3,k5,mN,hC,hN,hni,T⟩:=c.obj I.ok.mod.kin
 refine wpAny_Raise_call_subT (C:=C) (nm:=nm) (q:=q) (N:=N) (bs:=bs) (bm:=anc) (hdct:=hdct) (sn:=sn) (sub:=sub) (ab:=ab) (col:=col) (dd:=dd) (k0:=k0) (k1:=k1) (k2:=k2) (k3:=k3) (k5:=k5)
  PySem.F.excBase_ValueError (mN:=mN) (T.hasType PySem.F.excBase_ValueError.hasBase) (I.ok.hd hc) (by rw[he];show (false || (backTo cpos (starEach rest X.env)).any (·.1))=false;rw[hpl];rfl) hni (ze7 I hg hm ⟨rfl,?_⟩ hd)
 have h2:=ha cpos pins s σ H _ I h
 rw[he] at h2 ⊢
 refine Calls.evalArgs_plain (wpAny_mono h2 (λus s2 h2=>?_) λ_ _ y=>y)
 obtain⟨vs,H1,I1,r,z,q⟩:=h2
 exact⟨rfl,by rw[←r.length];exact z,I1.bk _ _ hC,hN.keeps I1.bk,T.keeps I1.bk,λh' e M=>ht pins σ H1 s2 h' e _ _ I1 M q⟩
end
section
variable {P : Program} {w : World} {K : Fg} {mg : Str → Option Value} {base : Heap}
theorem Fun.okx {x qual:Str}{st:Stmt}{f:Addr}{fd:FuncData}{N ps:List Str}{k:Nat}{sp:Sp}(F:Fun K x qual st f fd) (S:FnScope N ps (zac st)) (len:∀ vs H Q E,sp vs H Q E→vs.length=ps.length)
  (hbody:∀ (cdv:Value) (A:Around) (outer:List Env) (s:Shared) (H:Hp) (vs:List V) (Q:VK) (E:XK),Room k (A.deeper (envOfC qual (zac st) s.heap.objs.size f cdv))→sp vs H Q E→
   ∃ t,PSs (cxOf (CX1 P w) P w K mg base N qual (zac st) f cdv A outer s H E) (zal st) t∧t {nx:=λ_ H'=>Q .non H',rt:=Q} (start N vs) H):FnOk P w K mg base (CX1 P w) (k+1) f fd ps sp:=by
 obtain⟨oc,od,kV,doc,pm,an,cdv,ct,osl,rfl,lk,hcd⟩:=F.ex
 exact zoI lk hcd S len λA outer s H vs Q E hr hsp=>hbody cdv A outer s H vs Q E hr hsp
end
structure Fnx (P:Program) (w:World) (K:Fg) (mg:Str→Option Value) (base:Heap) (x:Str) (ps:List Str) (k:Nat) (sp:Sp):Prop where
 ex:∃ f fd,FnOk P w K mg base (CX1 P w) k f fd ps sp∧zdO K fd ps []∧PySem.W.keepIn K (.ref f)=true∧mg x=some (.ref f)
structure Mkx (P:Program) (w:World) (K:Fg) (mg:Str→Option Value) (base:Heap) (x:Str) (C:Addr) (ps:List Str) (k:Nat) (sp:Sp):Prop where
 ex:∃ f fd,Mk K C f∧FnOk P w K mg base (CX1 P w) k f fd ps sp∧zdO K fd ps []∧mg x=some (.ref C)
structure Mth (CX:CXT) (P:Program) (w:World) (K:Fg) (mg:Str→Option Value) (base:Heap) (C:Addr) (m:Str) (ps:List Str) (k:Nat) (sp:Sp):Prop where
 ex:∃ f fd,Meth K C m f∧FnOk P w K mg base CX k f fd ps sp∧zdO K fd ps []
section
variable {X : Cx} {CX : CXT} {k j : Nat} {C : Addr} {ps : List Str} {sp : Sp} {E : XK} {x m : Str} {p pos apos : Pos} {e o : Expr} {es : List Expr} {ta : TE} {t : TA}
theorem zpy (G:Fnx X.prog X.w X.K X.mg X.base x ps j sp) (hr:Room k X.A) (hg:Gl X x) (hx:zcf (CX1 X.prog X.w) X E) (ha:PA X (e::es) t) (hj:j≤k:=by decide) (hdb:(x == ("__debug__" : Str))=false:=by decide)
  (he:starEach (e::es) X.env=(false,eval e X.env)::starEach es X.env:=by rfl) (hpl:(backTo pos (starEach es X.env)).any (·.1)=false:=by rfl):PE X (.Call (.Name x p) (e::es) [] pos) (zlW sp [] E t):=by
 obtain⟨f,fd,F,hb,hk,hm⟩:=G.ex
 exact zky (F.mono hj) hr hg hm hk hb .nil hx ha hdb he hpl
theorem znc (G:Mkx X.prog X.w X.K X.mg X.base x C ps j sp) (hr:Room k X.A) (hg:Gl X x) (hx:zcf (CX1 X.prog X.w) X E) (ha:PA X (e::es) t) (hj:j+1≤k:=by decide) (hdb:(x == ("__debug__" : Str))=false:=by decide)
  (he:starEach (e::es) X.env=(false,eval e X.env)::starEach es X.env:=by rfl) (hpl:(backTo pos (starEach es X.env)).any (·.1)=false:=by rfl):PE X (.Call (.Name x p) (e::es) [] pos) (zh6 C sp [] E t):=by
 obtain⟨f,fd,M,F,hb,hm⟩:=G.ex
 exact zkz M F (hr.mono hj) hg hm hb .nil hx ha hdb he hpl
theorem za1 {pl:Sem Bool}(G:Mth CX X.prog X.w X.K X.mg X.base C m ps j sp) (c:Cls X.K C) (hr:Room k X.A) (hx:zcf CX X E) (he:PE X o ta) (ha:PA X (e::es) t) (hj:j≤k:=by decide)
  (hst:starEach (e::es) X.env=(false,eval e X.env)::starEach es X.env:=by rfl) (hpl:(backTo pos (starEach es X.env)).any (·.1)=false:=by rfl)
  (ht:eval (.Call (.Attribute o m apos) (e::es) [] pos) X.env=(do
   let ov ←eval o X.env
   standAt apos.atName
   let (f,first) ←holding [ov] (getMethod ov m pl)
   callWith pos f first (backTo pos (starEach (e::es) X.env)) (backToKw pos (keywordEach [] X.env))):=by rfl) :
  PE X (.Call (.Attribute o m apos) (e::es) [] pos) (zjB C m sp [] E ta t):=by
 obtain⟨f,fd,M,F,hb⟩:=G.ex
 exact znz he c M (F.mono hj) hr hb .nil hx ha hst hpl ht
theorem zbk {pl:Sem Bool}(G:Mth CX X.prog X.w X.K X.mg X.base C m ps j sp) (c:Cls X.K C) (hr:Room k X.A) (hx:zcf CX X E) (he:PE X o ta) (hj:j≤k:=by decide)
  (ht:eval (.Call (.Attribute o m apos) [] [] pos) X.env=(do
   let ov ←eval o X.env
   standAt apos.atName
   let (f,first) ←holding [ov] (getMethod ov m pl)
   callWith pos f first (backTo pos (starEach [] X.env)) (backToKw pos (keywordEach [] X.env))):=by rfl) :
  PE X (.Call (.Attribute o m apos) [] [] pos) (zjB C m sp [] E ta tNil):=by
 obtain⟨f,fd,M,F,hb⟩:=G.ex
 exact zlX he c M (F.mono hj) hr hb .nil hx ht
end
end L2

namespace L2
open PySem PySem.Spec PyProof.Rows PySem.W
section
variable {M : Model} {A : Around} {E : Value → Shared → Prop} {h : Heap} {g : Array GenState} {d : Drawn} {t : Nat} {os : OsState}
variable {nm q nm' q' : Str} {C N D N' : Addr} {bs bm bs' bm' : List Value} {hdct hdct' : Bool} {sn sn' : List Str} {sub sub' : List Value} {ab ab' : Bool} {col col' : Option Bool} {dd dd' : Option Addr} {k0 k1 k2 k3 k5 l0 l1 l2 l3 l5 : Option Value} {newId newId' : String}
end
section
variable {X : Cx} {pins : List (Addr × Obj)} {σ : St} {H : Hp} {s : Shared}
end
section
variable {X : Cx} {k j : Nat} {f C : Addr} {fd : FuncData} {ps : List Str} {sp : Sp} {x m : Str} {p pos apos : Pos} {e o : Expr} {es : List Expr} {ta : TE} {t : TA} {E : XK} {pins : List (Addr × Obj)} {σ : St} {H : Hp} {s : Shared} {Q : VK} {us : List Value} {vs : List V}
variable {te : XK → TE} {st : Stmt} {tt uu : XK → TS}
end
end L2

namespace L2
open PySem PySem.Spec PyProof.Rows PySem.W
section
variable {X : Cx} {pins : List (Addr × Obj)} {σ : St} {H : Hp} {a : Addr} {C : Value} {s : Shared}
end
section
variable {X : Cx} {x : Str} {np pos : Pos} {b0 : Stmt} {suite : List Stmt} {rest : List ExceptHandler} {D : Addr} {anc : List Value} {tb tr : Value → Addr → TS}
end
end L2

namespace L2
open PySem PySem.Spec PyProof.Rows PySem.W
def zbN:Nat:=10 ^ 30
theorem zht {i:Int}(h:i.natAbs<zbN):i.natAbs.log2<1920:=by
 by_cases z:i.natAbs=0
 ·rw[z];decide
 ·refine (Nat.log2_lt z).mpr (Nat.lt_of_lt_of_le h ?_)
  unfold zbN
  exact Nat.le_trans (by decide:10 ^ 30≤2 ^ 100) (Nat.pow_le_pow_right (n:=2) (by decide) (by decide:100≤1920))
section
variable {X : Cx} {pins : List (Addr × Obj)} {σ : St} {H : Hp} {s : Shared}
end
theorem zfl {i:Int}(h:i.natAbs<zbN):(Str.ofString (toString i)).length≤32:=by
 have e:=int_text_length_le10 (k:=30) (by decide) h
 rw[PySem.ofString_length];omega
end L2

namespace L2
open PySem PySem.Spec PyProof.Rows PySem.W
section
variable {prog : Program} {w : World} {A : Around} {E : Value → Shared → Prop}
end
section
variable {X : Cx} {pos : Pos}
end
end L2

namespace L2
open PySem PySem.Spec PyProof.Rows PySem.W
theorem Acc.get {H H2:Hp}{da:Addr}{ds:List D}{vs:List V}(a:Acc H da H2 ds vs):H2 da=some (.lst vs):=by obtain⟨fp,h,_⟩:=a;exact h
theorem Acc.len {H H2:Hp}{da:Addr}{ds:List D}{vs:List V}(a:Acc H da H2 ds vs):ds.length=vs.length:=by obtain⟨fp,_,h,_⟩:=a;exact h.length
end L2

namespace L2
open PySem PySem.Spec PyProof.Rows PySem.W
section
variable {X : Cx} {es : List Expr} {pos : Pos} {te : TE} {t : TA}
theorem zae {x:Str}(h:PE X (.Name x pos) te) (r:PA X es t):PA X (.Name x pos::es) (zcR te t):=zbe h r rfl
theorem zab {c:Const}{k:Nat}(h:PE X (.Constant c k pos) te) (r:PA X es t):PA X (.Constant c k pos::es) (zcR te t):=zbe h r rfl
theorem zjR {o:UnaryOp}{a:Expr}(h:PE X (.UnaryOp o a pos) te) (r:PA X es t):PA X (.UnaryOp o a pos::es) (zcR te t):=zbe h r rfl
theorem pa_if {a b c:Expr}(h:PE X (.IfExp a b c pos) te) (r:PA X es t):PA X (.IfExp a b c pos::es) (zcR te t):=zbe h r rfl
theorem zdk {a:Expr}{g:List Comprehension}{sc:Scope}(h:PE X (.ListComp a g sc pos) te) (r:PA X es t):PA X (.ListComp a g sc pos::es) (zcR te t):=zbe h r rfl
theorem zpz {a:Expr}{o:List CmpOp}{b:List Expr}(h:PE X (.Compare a o b pos) te) (r:PA X es t):PA X (.Compare a o b pos::es) (zcR te t):=zbe h r rfl
theorem zaE {a b:Expr}(h:PE X (.Subscript a b pos) te) (r:PA X es t):PA X (.Subscript a b pos::es) (zcR te t):=zbe h r rfl
theorem zci {a:List Expr}(h:PE X (.List a pos) te) (r:PA X es t):PA X (.List a pos::es) (zcR te t):=zbe h r rfl
theorem zd0 {a:List Expr}{k:Nat}(h:PE X (.Tuple a k pos) te) (r:PA X es t):PA X (.Tuple a k pos::es) (zcR te t):=zbe h r rfl
theorem zaI {a b:Expr}{o:Operator}(h:PE X (.BinOp a o b pos) te) (r:PA X es t):PA X (.BinOp a o b pos::es) (zcR te t):=zbe h r rfl
theorem zaC {f:Expr}{a:List Expr}{k:List Keyword}(h:PE X (.Call f a k pos) te) (r:PA X es t):PA X (.Call f a k pos::es) (zcR te t):=zbe h r rfl
theorem zbl {a:Expr}{x:Str}(h:PE X (.Attribute a x pos) te) (r:PA X es t):PA X (.Attribute a x pos::es) (zcR te t):=zbe h r rfl
end
structure QE (X:Cx) (e:Expr) (t:TE):Prop where
 run:PE X e t
structure QA (X:Cx) (es:List Expr) (t:TA):Prop where
 run:PA X es t
structure QS (X:Cx) (st:Stmt) (t:TS):Prop where
 run:PS X st t
structure QSs (X:Cx) (st:List Stmt) (t:TS):Prop where
 run:PSs X st t
section
variable {X : Cx} {e a b : Expr} {es : List Expr} {pos : Pos} {te ta tb : TE} {t : TA} {r : R2}
theorem zig (h:QA X es t):QE X (.List es pos) (tLst t):=⟨za6 h.run⟩
theorem q_tup {k:Nat}(h:QA X es t):QE X (.Tuple es k pos) (tTup t):=⟨zaL h.run⟩
theorem q_op {op:Operator}(ho:OpR X (binaryOp op) r) (ha:QE X a ta) (hb:QE X b tb):QE X (.BinOp a op b pos) (tOp r ta tb):=⟨zao ho ha.run hb.run⟩
theorem zdH:QA X [] tNil:=⟨zad⟩
theorem znX {x:Str}(h:QE X (.Name x pos) te) (r:QA X es t):QA X (.Name x pos::es) (zcR te t):=⟨zbe h.run r.run rfl⟩
theorem zeW {c:Const}{k:Nat}(h:QE X (.Constant c k pos) te) (r:QA X es t):QA X (.Constant c k pos::es) (zcR te t):=⟨zbe h.run r.run rfl⟩
theorem zhu {l:List Expr}(h:QE X (.List l pos) te) (r:QA X es t):QA X (.List l pos::es) (zcR te t):=⟨zbe h.run r.run rfl⟩
theorem zpA {l:List Expr}{k:Nat}(h:QE X (.Tuple l k pos) te) (r:QA X es t):QA X (.Tuple l k pos::es) (zcR te t):=⟨zbe h.run r.run rfl⟩
theorem zpB {o:Operator}(h:QE X (.BinOp a o b pos) te) (r:QA X es t):QA X (.BinOp a o b pos::es) (zcR te t):=⟨zbe h.run r.run rfl⟩
end
section
variable {X : Cx} {e : Expr} {st : Stmt} {rest a b : List Stmt} {pos : Pos} {te : TE} {t u : TS} {tc : TT}
theorem qs_if {c:Expr}(hc:PT X c tc) (ha:QSs X a t) (hb:QSs X b u):QS X (.If c a b pos) (tIfS tc t u):=⟨zaW hc ha.run hb.run⟩
theorem znY:QSs X [] zki:=⟨zav⟩
theorem zeo (h:QS X st t):QSs X [st] t:=⟨zai h.run⟩
theorem za9 (h:QS X st t) (k:QSs X rest u):QSs X (st::rest) (tSeq t u):=⟨zag h.run k.run⟩
end
theorem zd1 {t u:TS}{D:Ends}{σ:St}{H:Hp}(M:St→Hp→Prop) (h:∀ NX:St→Hp→Prop,(∀ σ H,M σ H→NX σ H)→t {D with nx:=NX} σ H) (tail:∀ σ H,M σ H→u D σ H):tSeq t u D σ H:=h _ tail
theorem zpC {c:TT}{t u:TS}{D:Ends}{σ:St}{H:Hp}(h:∀ Q:Bool→Hp→Prop,Q false H→c σ H Q) (k:u D σ H):tSeq (tIfS c t zki) u D σ H:=h _ (iteF k)
theorem znZ {a:Addr} : decide (V.ref a=V.non)=false:=decide_eq_false (by intro z;cases z)
theorem zih:decide (V.non=V.non)=true:=decide_eq_true rfl
theorem i_slL {K:Fg}{H:Hp}{Q:VK}{a:Addr}{xs:List V}{lo hi:Option Int}(h:SqL K H a xs) (q:∀ p,H p=none→Q (.ref p) (upd H p (.lst (cutV xs lo hi)))):rSl K (.ref a) lo hi H Q:=.inl ⟨a,xs,rfl,h,q⟩
theorem cut_take {xs:List V}{k:Nat}(h:k≤xs.length):cutV xs none (some (k:Int))=xs.take k:=by
 unfold cutV
 rw[HT.sIx_none,HT.sIx_nat,List.drop_zero,Nat.sub_zero,Nat.min_eq_left h]
theorem zjc {n:Nat}{k:Int}(h0:0≤k) (h:k<(n:Int)):ixN n k=some k.toNat:=by
 unfold ixN
 rw[if_pos h0,if_pos h]
theorem Same.put {H0 H:Hp}{w:Addr}{o:HO}(s:Same H0 H) (h:H0 w=none):Same H0 (upd H w o):=λb u e=>by rw[zak (zam e h)];exact s _ _ e
theorem zhv {α:Type}{xs:List α}{k:Int}{x:α}(h0:0≤k) (h:xs[k.toNat]?=some x):atI xs k=some x:=by
 have:=zaV (j:=k.toNat) h
 rwa [show ((k.toNat:Nat):Int)=k by omega] at this
def Ls (H:Hp) (ka:Addr) (ls:List (List Int)):Prop:=∃ as:List Addr,H ka=some (.lst (as.map V.ref))∧as.length=ls.length∧∀ (i:Nat) a l,as[i]?=some a→ls[i]?=some l→H a=some (.lst (l.map V.int))
theorem Ls.out {K:Fg}{H:Hp}{ka:Addr}{ls:List (List Int)}(h:Ls H ka ls):∃ xs,H ka=some (.lst xs)∧xs.length=ls.length∧Reps K H (ls.map nums) xs:=by
 obtain⟨as,h1,h2,h3⟩:=h
 refine⟨_,h1,by rw[zlm];exact h2,Reps.of (by simp[h2]) λi d v e1 e2=>?_⟩
 rw[zgm] at e1 e2
 obtain⟨l,hl,rfl⟩:=zme.mp e1
 obtain⟨a,ha,rfl⟩:=zme.mp e2
 exact zb4.mpr ⟨a,rfl,SqL.of (h3 i a l ha hl)⟩
theorem Ls.rep {K:Fg}{H:Hp}{ka:Addr}{ls:List (List Int)}(h:Ls H ka ls):Rep K H (.lst (ls.map nums)) (.ref ka):=by
 obtain⟨xs,h1,_,h2⟩:=h.out (K:=K)
 unfold Rep
 exact⟨ka,xs,rfl,SqL.of h1,h2⟩
section
variable {H0 H : Hp} {ga ka wa : Addr} {goal : List Int} {known : List (List Int)} {ws : List Int} {m n : Nat}
end
end L2

namespace L2
open PySem PySem.Spec PyProof.Rows PySem.W
theorem hr_u {k:Nat}{A:Around}(hr:Room k A):A.units+1<cLine:=by have:=hr.units;omega
section
variable {σ : St} {H : Hp} {Q : VK} {td ty tx tv : TE} {D : Ends}
theorem zpD (h:td σ H λx H1=>ty σ H1 λy H2=>∃ a v,x=.ref a∧DGet H2 a y (some v)∧Q v H2):zoZ td ty σ H Q:=h
theorem i_din (h:ty σ H λy H1=>td σ H1 λx H2=>∃ a o,x=.ref a∧DGet H2 a y o∧Q (.bl o.isSome) H2):tDIn ty td σ H Q:=h
theorem zmu (h:ty σ H λy H1=>td σ H1 λx H2=>∃ a o,x=.ref a∧DGet H2 a y o∧Q (.bl (!o.isSome)) H2):zkL ty td σ H Q:=h
theorem zpE (h:tv σ H λv H1=>td σ H1 λx H2=>ty σ H2 λy H3=>∃ a H4,x=.ref a∧DPut H3 a y v H4∧D.nx σ H4):zo0 td ty tv D σ H:=h
end
end L2
namespace L2
open PySem PySem.Spec PyProof.Rows PySem.W
end L2

namespace L2
open PySem PySem.Spec PyProof.Rows PySem.W
def tFs (te:TE):TE:=λσ H Q=>te σ H λx H1=>∃ i:Int,x=.int i∧i.natAbs<zbN∧∀ z,Q (.str z) H1
section
variable {X : Cx} {e : Expr} {te : TE} {a b : Str} {k1 k2 : Nat} {p1 p2 p3 pos : Pos}
theorem pe_fs (he:PE X e te) (ha:a.length≤400) (hb:b.length≤400):PE X (.JoinedStr [.Constant (.str a) k1 p1,.FormattedValue e (-1) none p2,.Constant (.str b) k2 p3] pos) (tFs te):=by
 intro pins s σ H Q I h
 have e0:(Str.empty++a).length=a.length:=by rw[strLen_append];show 0+a.length=_;omega
 refine PySem.wpAny_JoinedStr ?_
 show Joins _ _ _ [eval (.Constant (.str a) k1 p1) X.env,eval (.FormattedValue e (-1) none p2) X.env,eval (.Constant (.str b) k2 p3) X.env] _ _ _
 refine Calls.Constant_str ⟨a,_,rfl,by rw[e0];exact zaz (by omega),?_⟩
 refine PySem.wpAny_FormattedValue_plain (thn (he pins _ σ H _ (I.tok _) h) λv s1 ⟨x,H1,I1,rx,i,ex,hi,q⟩=>?_)
 subst ex
 obtain⟨t,rfl⟩:=rx
 have l2:=zfl hi
 have e1:((Str.empty++a)++Str.ofString (toString i)).length=a.length+(Str.ofString (toString i)).length:=by rw[strLen_append,e0]
 have e2:(((Str.empty++a)++Str.ofString (toString i))++b).length=a.length+(Str.ofString (toString i)).length+b.length:=by rw[strLen_append,e1]
 refine PySem.wpAny_formatField_int (zht hi) ⟨_,_,rfl,by rw[show ((Str.empty++a)++_).length=_ from e1];exact zaz (by omega),?_⟩
 refine Calls.Constant_str ⟨b,_,rfl,by rw[show (((Str.empty++a)++_)++b).length=_ from e2];exact zaz (by omega),?_⟩
 exact⟨by rw[show (((Str.empty++a)++_)++b).length=_ from e2];exact zaz (by omega),.str _,H1,(((I1.tok _).tok _).tok _).tok _,⟨_,rfl⟩,q _⟩
theorem i_fs {σ:St}{H:Hp}{Q:VK}(h:te σ H λx H1=>∃ i:Int,x=.int i∧i.natAbs<zbN∧∀ z,Q (.str z) H1):tFs te σ H Q:=h
end
theorem zhw {P:Program}{w:World}{X:Cx} : zcf (CX1 P w) X E0:=λ_ _ _ _ _ _ _ h=>by
 obtain⟨_,_,_,_,_,_,_,_,_,h⟩:=h
 exact h.elim
theorem zn0 {C:Value}{E:XK}{t:TA}{D:Ends}{σ:St}{H:Hp}(h:t σ H λvs H1=>vs.length≤sizeLine∧E C none H1):znb C E t D σ H:=h
end L2
namespace L2
open PySem PySem.Spec PyProof.Rows PySem.W
end L2
namespace L2
open PySem PySem.Spec PyProof.Rows PySem.W
end L2

namespace L2
open PySem PySem.Spec PyProof.Rows PySem.W PySem.Calls
theorem zii:∀ {ns:List Int}{us:List Value},ns.length=us.length→(∀ (j:Nat) (u:Value),us[j]?=some u→∃ (i:Int) (t:Tok),ns[j]?=some i∧u=Value.int i t)→Vals (ns.map V.int) us
 | [],[],_,_=>.nil
 | [],_::_,e,_=>by simp at e
 | _::_,[],e,_=>by simp at e
 | n::ns,u::us,e,h=>by
  obtain⟨i,t,e1,e2⟩:=h 0 u rfl
  have e1:n=i:=by simpa using e1
  subst e1
  exact .cons ⟨t,e2⟩ (zii (by simpa using e) λj v hv=>by
   obtain⟨i,t,q1,q2⟩:=h (j+1) v (by simpa using hv)
   exact⟨i,t,by simpa using q1,q2⟩)
def znd:List V→Hp→VK→Prop:=λxs H Q=>∃ (a:Addr) (kvs:List (Key × V)) (ns:List Int),xs=[.ref a]∧H a=some (.dK kvs)∧kvs.map (·.1)=ns.map Sum.inl∧ns.length<64∧∀ (l:Addr) (ns':List Int),H l=none→ns'.Perm ns→ns'.Pairwise (·≤·)→Q (.ref l) (upd H l (.lst (ns'.map V.int)))
theorem zhx {X:Cx}(hc:X.calm=true):zce X (.builtin "sorted") znd:=by
 intro pins s σ H xs us Q I r h
 obtain⟨a,kvs,ns,rfl,ha,hk,h64,q⟩:=h
 obtain⟨u,rfl,rx⟩:=zgy r
 cases rx
 obtain⟨z,hd,vs,rel,dd⟩:=zjI I.hok ha
 obtain⟨ep,hat⟩:=dd.dictAt
 have hl:=rel.length
 have lk:kvs.length=ns.length:=by
  have:=congrArg List.length hk
  simpa using this
 refine call_function_entry kind_sorted plain_sorted entry_sorted (args_sorted1 _) ?_
 unfold Builtin.«sorted»
 refine wpAny_bind (m:=checkCount "sorted" 1 1 _) (wpAny_pure ?_)
 refine wpAny_bind (kdu_collect (A:=X.A.in1) (kdl_dict (knd:=zbo X.prog X.w) (kvs:=vs) (ep:=ep) hd) (show X.A.in1.handled=none from I.ok.hd hc) hat (by rw[←hl];exact z) λh' tk acc hk' hacc=>?_)
 have hla:acc.toList.length=vs.length:=by rw[Array.length_toList];exact hacc.1
 have vl:Vals (ns.map V.int) acc.toList:=zii (by omega) λj u hu=>by
  obtain⟨k,x,hx,hk2⟩:=hacc.2 j u (by rw[←Array.getElem?_toList];exact hu)
  have e:(vs.map (·.1))[j]?=some k:=by rw[zgm,hx];rfl
  rw[←rel.keys,hk,zgm] at e
  obtain⟨i,hi,rfl⟩:=zme.mp e
  rcases zbb (show zg3 (Sum.inl i) u=true from hk2) with ⟨i',t,e,rfl⟩ | ⟨x',t,e,rfl⟩
  ·cases e;exact⟨i,t,hi,rfl⟩
  ·cases e
 refine wpAny_bind (wpAny_newList ?_ (by rw[hla,←hl];exact z))
 have hoL:(h'.push {cls:=.type "list",data:=.seq acc.toList.toArray}).get? h'.objs.size=some (seqObj "list" acc.toList.toArray 0):=Heap.get?_push_size _ rfl
 have I1:Inv X pins σ H {s with heap:=h',toks:=tk}:=I.kept hk'
 refine wpAny_bind (wpAny_holding (wpAny_call_entry slot_list_sort ⟨_,hoL,rfl⟩ entry_list_sort (list_sort_tree hoL (zjE vl) (by omega) λout ns' a1 a2 a3=>⟨_,rfl,?_⟩) (args_list_sort _)))
 refine wpAny_pure ⟨_,rfl,?_⟩
 obtain⟨e,he⟩:=sortedHeap_at (out:=out) hoL
 have zn:(ns'.map V.int).length≤sizeLine:=by rw[zlm,a2.length_eq];exact zaz (by omega)
 refine⟨.ref h'.objs.size,_,I1.laid (a:=h'.objs.size) (t':=tk) (λb u hu=>?_) (Nat.le_refl _) (show zbA X.prog X.w _ _ _ (.lst (ns'.map V.int)) from ⟨zn,out.toList,e,zfd a1,by rw[Array.toArray_toList];exact he⟩),rfl,q _ _ I1.fresh a2 a3⟩
 have hu:h'.get? b=some u:=hu
 have hlt:=Heap.lt_size hu
 show (sortedHeap (h'.push {cls:=.type "list",data:=.seq acc.toList.toArray}) h'.objs.size acc.toList out).get? b=some u
 rw[sortedHeap_old (Nat.ne_of_lt hlt) (by rw[size_push'];exact Nat.lt_succ_of_lt hlt)]
 exact Heap.get?_push_of_some _ hu
def zne:List V→Hp→VK→Prop:=λxs H Q=>∃ (a:Addr) (kvs:List (Key × V)) (ns:List Int),xs=[.ref a]∧H a=some (.dK kvs)∧kvs.map (·.1)=ns.map Sum.inl∧∀ (l:Addr),H l=none→Q (.ref l) (upd H l (.lst (ns.map V.int)))
theorem zjS {X:Cx}(hc:X.calm=true):zce X (.type "list") zne:=by
 intro pins s σ H xs us Q I r h
 obtain⟨a,kvs,ns,rfl,ha,hk,q⟩:=h
 obtain⟨u,rfl,rx⟩:=zgy r
 cases rx
 obtain⟨z,hd,vs,rel,dd⟩:=zjI I.hok ha
 obtain⟨ep,hat⟩:=dd.dictAt
 have hl:=rel.length
 have lk:kvs.length=ns.length:=by
  have:=congrArg List.length hk
  simpa using this
 refine kdl_call (kdl_dict (knd:=zbo X.prog X.w) (kvs:=vs) (ep:=ep) hd) (I.ok.hd hc) hat (by rw[←hl];exact z) λh' tk acc c' hk' hS' hacc=>?_
 have hla:acc.toList.length=vs.length:=by rw[Array.length_toList];exact hacc.1
 have vl:Vals (ns.map V.int) acc.toList:=zii (by omega) λj u hu=>by
  obtain⟨k,x,hx,hk2⟩:=hacc.2 j u (by rw[←Array.getElem?_toList];exact hu)
  have e:(vs.map (·.1))[j]?=some k:=by rw[zgm,hx];rfl
  rw[←rel.keys,hk,zgm] at e
  obtain⟨i,hi,rfl⟩:=zme.mp e
  rcases zbb (show zg3 (Sum.inl i) u=true from hk2) with ⟨i',t,e,rfl⟩ | ⟨x',t,e,rfl⟩
  ·cases e;exact⟨i,t,hi,rfl⟩
  ·cases e
 exact⟨.ref s.heap.objs.size,_,I.laid (t':=tk) hk' (Nat.le_refl _) (show zbA X.prog X.w _ _ _ (.lst (ns.map V.int)) from ⟨by rw[zlm];omega,acc.toList,c',vl,by rw[Array.toArray_toList];exact hS'⟩),rfl,q _ I.fresh⟩
theorem zn1 {H:Hp}{Q:VK}{a:Addr}{kvs:List (Key × V)}{ns:List Int}(h:H a=some (.dK kvs)) (e:kvs.map (·.1)=ns.map Sum.inl) (q:∀ (l:Addr),H l=none→Q (.ref l) (upd H l (.lst (ns.map V.int)))):zne [.ref a] H Q:=⟨a,kvs,ns,rfl,h,e,q⟩
theorem zij:bootBuiltins "sorted"=some (.builtin "sorted"):=by decide +kernel
theorem zn2 {H:Hp}{Q:VK}{a:Addr}{kvs:List (Key × V)}{ns:List Int}(h:H a=some (.dK kvs)) (e:kvs.map (·.1)=ns.map Sum.inl) (l:ns.length<64) (q:∀ (l:Addr) (ns':List Int),H l=none→ns'.Perm ns→ns'.Pairwise (·≤·)→Q (.ref l) (upd H l (.lst (ns'.map V.int)))):znd [.ref a] H Q:=⟨a,kvs,ns,rfl,h,e,l,q⟩
theorem zpF {σ:St}{H:Hp}{Q:VK}{td ty:TE}(h:td σ H λx H1=>∃ a,x=.ref a∧IsD H1 a∧ty σ H1 λy H2=>∃ kvs k v,H2 a=some (.dK kvs)∧y=kV k∧valV kvs k=some v∧Q v (upd H2 a (.dK (zcr kvs k)))):zm4 td ty σ H Q:=h
theorem zpG {σ:St}{H:Hp}{Q:VK}(h:∀ p,H p=none→Q (.ref p) (upd H p (.dK []))):zm2 σ H Q:=h
theorem zhy {κ:Type} [DecidableEq κ] (k j:κ):∀ kvs:List (κ × V),valV (zcr kvs k) j=if j=k then none else valV kvs j
 | []=>by simp[zcr,valV]
 | p::r=>by
  have ih:=zhy k j r
  by_cases e:p.1=k
  ·rw[zkQ e,ih]
   by_cases z:j=k
   ·rw[if_pos z,if_pos z]
   ·rw[if_neg z,if_neg z,zbr (λw=>z (w.symm.trans e))]
  ·rw[zkR e]
   by_cases w:p.1=j
   ·rw[zbt w,zbt w,if_neg (λz=>e (w.trans z))]
   ·rw[zbr w,zbr w,ih]
section
variable {X : Cx} {e : Expr} {te : TE} {a : Str} {k1 : Nat} {p1 p2 pos : Pos}
theorem zla (he:PE X e te) (ha:a.length≤400):PE X (.JoinedStr [.Constant (.str a) k1 p1,.FormattedValue e (-1) none p2] pos) (tFs te):=by
 intro pins s σ H Q I h
 have e0:(Str.empty++a).length=a.length:=by rw[strLen_append];show 0+a.length=_;omega
 refine PySem.wpAny_JoinedStr ?_
 show Joins _ _ _ [eval (.Constant (.str a) k1 p1) X.env,eval (.FormattedValue e (-1) none p2) X.env] _ _ _
 refine Calls.Constant_str ⟨a,_,rfl,by rw[e0];exact zaz (by omega),?_⟩
 refine PySem.wpAny_FormattedValue_plain (thn (he pins _ σ H _ (I.tok _) h) λv s1 ⟨x,H1,I1,rx,i,ex,hi,q⟩=>?_)
 subst ex
 obtain⟨t,rfl⟩:=rx
 have l2:=zfl hi
 have e1:((Str.empty++a)++Str.ofString (toString i)).length=a.length+(Str.ofString (toString i)).length:=by rw[strLen_append,e0]
 refine PySem.wpAny_formatField_int (zht hi) ⟨_,_,rfl,by rw[show ((Str.empty++a)++_).length=_ from e1];exact zaz (by omega),?_⟩
 exact⟨by rw[show ((Str.empty++a)++_).length=_ from e1];exact zaz (by omega),.str _,H1,((I1.tok _).tok _).tok _,⟨_,rfl⟩,q _⟩
end
section
variable {X : Cx} {k j : Nat} {C : Addr} {ps : List Str} {sp : Sp} {x : Str} {p pos : Pos}
theorem zpH (G:Mkr X.prog X.w X.K X.mg X.base x C ps j sp) (hr:Room k X.A) (hg:Gl X x) (hj:j+1≤k:=by decide) (hdb:(x == ("__debug__" : Str))=false:=by decide):PE X (.Call (.Name x p) [] [] pos) (zh6 C sp [] E0 tNil):=by
 obtain⟨f,fd,M,F,hb,hm⟩:=G.ex
 exact zlY M F (hr.mono hj) hg hm hb .nil za2 hdb
end
theorem zpI {C:Addr}{m:Str}{sp:Sp}{E:XK}{ta:TE}{t:TA}{σ:St}{H:Hp}{Q:VK}(h:ta σ H λx H1=>MethI C m x H1 (t σ H1 λvs H2=>sp (x::vs) H2 Q E)):zjB C m sp [] E ta t σ H Q:=by
 have e:(λ(x:V) (vs:List V) (H2:Hp)=>sp (x::(vs++[])) H2 Q E)=λx vs H2=>sp (x::vs) H2 Q E:=by funext x vs H2;rw[List.append_nil]
 show ta σ H λx H1=>MethI C m x H1 (t σ H1 λvs H2=>(λ(x:V) (vs:List V) (H2:Hp)=>sp (x::(vs++[])) H2 Q E) x vs H2)
 rw[e];exact h
theorem zn3 {σ:St}{H:Hp}{Q:VK}{td ty tx:TE}(h:td σ H λx H1=>∃ a,x=.ref a∧IsD H1 a∧ty σ H1 λy H2=>tx σ H2 λz H3=>∃ kvs k,H3 a=some (.dK kvs)∧y=kV k∧(∀ v,valV kvs k=some v→Q v (upd H3 a (.dK (zcr kvs k))))∧(valV kvs k=none→Q z H3)):zm5 td ty tx σ H Q:=h
end L2

namespace L2
open PySem PySem.Spec PyProof.Rows PySem.SeqAt
theorem ndS {N:List Str}(h:N.Nodup:=by decide +kernel):N.Nodup:=h
theorem CompOk.m {sc0:Scope}{N:List Str}{scope:Scope}{N':List Str}{ms:List Bool}(kind:scope.kind=.function:=by rfl) (nocell:∀ y∈scope.names,y.2≠.cell:=by decide +kernel)
  (nm:∀ y∈scope.names,y.2=.local→scope.names.lookup y.1=some .local:=by decide +kernel) (fr:∀ y∈scope.names,y.2=.free→sc0.names.lookup y.1=some .cell∨sc0.names.lookup y.1=some .free:=by decide +kernel)
  (len:ms.length=N'.length:=by rfl) (sl:zfh N scope N' ms (N.map some)=true:=by decide +kernel):CompOk sc0 N scope N' ms:=CompOk.mk' kind nocell nm fr len sl
section
variable {X : Cx} {k : Nat} {pins : List (Addr × Obj)} {σ : St} {H : Hp} {s : Shared}
end
def tTru (K:Fg) (ta:TE):TT:=λσ H Q=>ta σ H λx H'=>∃ k,TruV K x H' k∧Q k H'
theorem zpJ {X:Cx}{a:Expr}{ta:TE}(K:Fg) (ha:PE X a ta) (hK:X.K=K:=by rfl) (he:∀ whole,isTrue a X.env whole=(do let v ←whole;standAt a.pos;holding [v] (truthy v)):=by intro _;rfl):PT X a (tTru K ta):=by subst hK;exact zlT ha he
theorem i_tru {K:Fg}{ta:TE}{σ:St}{H:Hp}{Q:Bool→Hp→Prop}(h:ta σ H λx H'=>∃ k,TruV K x H' k∧Q k H'):tTru K ta σ H Q:=h
theorem znf {K:Fg}{H:Hp}{P:Bool→Prop}{a:Addr}{xs:List V}(h:SqL K H a xs) (q:P (!xs.isEmpty)):∃ k,TruV K (.ref a) H k∧P k:=⟨_,.inl ⟨xs,h,rfl⟩,q⟩
theorem i_pop {H:Hp}{Q:VK}{a:Addr}{xs:List V}{y:V}(h:H a=some (.lst xs)) (e:xs[xs.length - 1]?=some y) (q:Q y (upd H a (.lst xs.dropLast))):rPop (.ref a) [] H Q:=⟨a,xs,y,rfl,rfl,h,e,q⟩
theorem zpK {H:Hp}{Q:VK}{a:Addr}{xs:List V}{y:V}(h:H a=some (.lst (y::xs))) (q:Q y (upd H a (.lst xs))):zm0 (.ref a) [.int 0] H Q:=⟨a,y::xs,0,0,y,rfl,rfl,h,by decide,by decide,by unfold seqIndex?;simp,rfl,q⟩
mutual
theorem RepF.hasL {H:Hp} : ∀ (d:D) {v:V}{fp:List Addr},RepF H d v fp→∀ a∈fp,∃ xs,H a=some (.lst xs)
 | .non,_,_,h,a,m=>by unfold RepF at h;rw[h.2] at m;cases m
 | .bl _,_,_,h,a,m=>by unfold RepF at h;rw[h.2] at m;cases m
 | .int _,_,_,h,a,m=>by unfold RepF at h;rw[h.2] at m;cases m
 | .str _,_,_,h,a,m=>by unfold RepF at h;rw[h.2] at m;cases m
 | .lst ds,_,_,h,b,m=>by
  unfold RepF at h
  obtain⟨a,xs,r,h1,h0,h2,h3⟩:=h
  subst h0
  rcases List.mem_cons.mp m with rfl | m
  ·exact⟨_,h2⟩
  ·exact zaj.hasL ds h3 b m
 | .tup ds,_,_,h,b,m=>by
  unfold RepF at h
  obtain⟨a,xs,h1,h2,h3⟩:=h
  exact zaj.hasL ds h3 b m
theorem zaj.hasL {H:Hp} : ∀ (ds:List D) {vs:List V}{fp:List Addr},zaj H ds vs fp→∀ a∈fp,∃ xs,H a=some (.lst xs)
 | [],_,_,h,a,m=>by unfold zaj at h;rw[h.2] at m;cases m
 | d::ds,_,_,h,b,m=>by
  unfold zaj at h
  obtain⟨v,r,f,g,h1,h0,h2,h3⟩:=h
  subst h0
  rcases zma.mp m with m | m
  ·exact RepF.hasL d h2 b m
  ·exact zaj.hasL ds h3 b m
end
end L2

namespace L2
open PySem PySem.Spec PySem.Calls PyProof.Rows PySem.W
theorem kit_ansT {K:Fg}{x t c:Value}{H:Heap→Prop}(ty:∀ (M:Model) (h:Heap),K.In h→H h→Looks M h (typeOf x) t) (e:kitOne K t c=some true):Answers (λs=>K.In s.heap∧H s.heap) x c true:=by
 intro dep tk prog w A R s hs
 obtain⟨h0,g,d,tt,os⟩:=s
 obtain⟨⟨X,p⟩,hq⟩:=hs
 have LT:=ty (model prog w) h0 X p
 unfold kitOne at e
 unfold Builtin.«isinstance.nested»
 refine wpAny_bind (LT.at ?_)
 by_cases q:(t == c)=true
 ·rw[if_pos q]
  first
   | ((repeat lk);exact hq tt)
   | exact wpAny_bind (wpAny_rule (hq tt))
   | exact wpAny_bind (wpAny_rule (wpAny_pure (hq tt)))
 ·rw[if_neg q] at e
  rw[if_neg q]
  obtain⟨hty,his,hsub⟩:=kit_cls (M:=model prog w) X e
  have LI:Looks (model prog w) h0 (isInstance x c) true:=LT.andThen hsub
  refine wpAny_bind (hty.at ?_)
  rw[if_pos (by decide)]
  k_delta "plainIsInstance"
  refine wpAny_bind (wpAny_bind (his.at ?_))
  simp only[Bool.not_true,Bool.false_eq_true,if_false]
  refine wpAny_bind (LI.at ?_)
  first
   | exact wpAny_pure (wpAny_pure (hq tt))
   | (simp only[if_true];first | exact wpAny_pure (wpAny_pure (hq tt)) | exact wpAny_pure (hq tt) | exact wpAny_bind (wpAny_pure (wpAny_pure (hq tt))))
def rIsy (K:Fg) (a:Addr) (c:Value):List V→Hp→VK→Prop:=λxs H Q=>∃ C D anc ancD,xs=[.ref a,.ref D]∧c=.ref C∧Err K C anc∧Err K D ancD∧(Value.ref C::anc).contains (.ref D)=true∧Q (.bl true) H
structure Kn (u:TS) (D:Ends) (NX:St→Hp→Prop):Prop where
 on:∀ σ H,u D σ H→NX σ H
theorem zng {t u:TS}{D:Ends}{σ:St}{H:Hp}(h:∀ NX:St→Hp→Prop,Kn u D NX→t {D with nx:=NX} σ H):tSeq t u D σ H:=h _ ⟨λ_ _ q=>q⟩
theorem goOn {u:TS}{D:Ends}{NX:St→Hp→Prop}{σ:St}{H:Hp}(k:Kn u D NX) (h:u D σ H):NX σ H:=k.on _ _ h
theorem i_ifK {c:TT}{t u:TS}{D:Ends}{σ:St}{H:Hp}(h:∀ T:St→Hp→Prop,Kn t D T→∀ U:St→Hp→Prop,Kn u D U→c σ H λb H1=>if b=true then T σ H1 else U σ H1):tIfS c t u D σ H:=h _ ⟨λ_ _ q=>q⟩ _ ⟨λ_ _ q=>q⟩
end L2

namespace L2
open PySem PySem.Spec PySem.Calls PyProof.Rows PySem.W
theorem zpL {K:Fg}{a:Addr}{n q:Str}{ps:Arguments}{b:List Stmt}{sc:Scope}(h:zaQ K a=some (znm n q ps b sc)) (hc:zaq K a q=true) :
  ∃ oc od sl kV dc pm an cd ct,K.lookup a=some ⟨oc,od,.func (fnOf n q ps b sc .none kV dc pm an cd ct),sl⟩∧codeIn K cd q=true∧keepIn K (.ref a)=true:=by
 unfold zaQ at h
 unfold zaq at hc
 split at h
 ·rename_i oc od f sl e
  rw[e] at hc
  simp only[Bool.and_eq_true] at hc
  obtain⟨c1,c2⟩:=hc
  obtain⟨f1,f2,f3,f4,f5,f6,f7,f8,f9,f10,f11,f12,f13,f14,f15⟩:=f
  have h:=Option.some.inj h
  unfold znm at h
  simp only[Prod.mk.injEq] at h
  obtain⟨rfl,rfl,rfl,rfl,rfl,rfl,rfl,rfl,rfl⟩:=h
  exact⟨oc,od,sl,_,_,_,_,_,_,e,c1,c2⟩
 ·cases h
theorem exc_of {K:Fg}{C:Addr}{bm:List Value}{newId:String}(h:ze6 K C bm newId=true) :
  ∃ nm q N bs hdct sn sub ab col dd k0 k1 k2 k3 k5,K.lookup C=some (excClassObj nm q C N bs bm hdct sn sub ab col dd k0 k1 k2 k3 k5 newId):=by
 unfold ze6 at h
 split at h
 ·rename_i cl dd c sl e
  simp only[Bool.and_eq_true] at h
  obtain⟨⟨⟨h1,h2⟩,h3⟩,h4⟩:=h
  obtain⟨c1,c2,c3,c4,c5,c6,c7,c8,c9,c10,c11⟩:=c
  have h1:=eq_of_beq h1
  have h2:c3=.ref C::bm:=eq_of_beq h2
  have h30:c11=false:=by cases c11 <;> first | rfl | cases h3
  subst h1 h2 h30
  split at h4
  ·rename_i k0 k1 k2 k3 v k5 es
   have h4:=eq_of_beq h4
   subst h4
   have es:sl=#[k0,k1,k2,k3,some (.builtin newId),k5]:=by rw[←Array.toArray_toList (xs:=sl),es]
   subst es
   exact⟨_,_,_,_,_,_,_,_,_,_,_,_,_,_,_,e⟩
  ·cases h4
 ·cases h
theorem tup_of {K:Fg}{a:Addr}{vs:List Value}(h:zf8 K a vs=true):∃ dd n ss,K.lookup a=some ⟨.type "tuple",dd,.seq vs.toArray n,ss⟩:=by
 unfold zf8 at h
 split at h
 ·rename_i cl dd xs n ss e
  simp only[Bool.and_eq_true] at h
  obtain⟨h1,h2⟩:=h
  have h1:=eq_of_beq h1
  have h2:xs.toList=vs:=eq_of_beq h2
  subst h1 h2
  exact⟨dd,n,ss,by rw[Array.toArray_toList];exact e⟩
 ·cases h
theorem walk_ofE {l:PySem.W.OpenLaw}{n k:Nat}{q:Program}{loose:List Str}{XP:(Str→Option Value)→Heap→Prop}{YP:World→Heap→Prop}{d:DefRec}{S:Fg→Prop}{CX:CXT}{sp:Fg→Sp}{x:Str}
  (hn:l.most=some n) (hn2:n≤sizeLine) (hdf:d.params.defaults=[]) (hr:Room k callerA)
  (hY:∀ (w:World) (h:Heap),YP w h→∃ K:Fg,K.In h∧S K)
  (F:∀ (w:World) (K:Fg) (mg:Str→Option Value) (fa:Addr) (h:Heap),S K→K.In h→h.Ns mainGlobals mg→mg d.name=some (.ref fa)→
   ∃ fd:FuncData,(∀ (s:Shared) (u:Value),BindsTo s fd ⟨[u],[]⟩ [(x,u)])∧
    ∀ base:Heap,K.In base→base.Ns mainGlobals mg→FnOk l.prog w K mg base CX k fa fd [x] (sp K))
  (hsp:∀ (K:Fg) (H:Hp) (a:Addr) (ns:List Int),ns.length≤n→Only H→SqL K H a (ns.map V.int)→sp K [.ref a] H (λv _=>v=.bl true) λ_ _ _=>False)
  (hCX:∀ (H:Hp) (s:Shared) (e:Value) (s':Shared),CX [] H s (λ_ _ _=>False) e s'→False) :
  PySem.W.WalkO q loose XP YP l.row.toRowW d [] (λf vs=>PySem.call f vs):=by
 refine Att.attach_call hn hdf λw s₀ s₁ mg mb fa o pm cd doc a vs ns G Y ho hd hcd hmg hobj hints hlen hg=>?_
 obtain⟨K,KX,hS⟩:=hY w _ Y
 obtain⟨fd,hb,hF⟩:=F w K mg fa _ hS KX G.T.g hmg
 exact zl7 KX G.T.g G.T.b G.T.builtins G.T.nolimit hg hobj hints (Nat.le_trans hlen hn2) hr hF hb (λH hO hS=>hsp K H a ns hlen hO hS) λH e s'=>hCX H s₁ e s'
end L2

namespace My
def mix (c k m:Int):Int:=(c % 2147483647+12345) * (48271+6 * k) % 1000000007 / 7 % m
def zmv (i:Int):Int:=if i=0 then 1000000000 else if i=1 then -1000000000 else if i=2 then 999999999 else -999999999
def number (c k:Int):Int:=
 if mix c k 9=0 then c % 2000000001 - 1000000000
 else if mix c k 9=1 then zmv (mix c (k+1) 4)
 else mix c (k+2) 9 - 4
theorem za3 {c k m:Int}(h:0<m):0≤mix c k m:=Int.emod_nonneg _ (by omega)
theorem zcw {c k m:Int}(h:0<m):mix c k m<m:=Int.emod_lt_of_pos _ h
theorem zmw (i:Int):-1000000000≤zmv i∧zmv i≤1000000000:=by
 unfold zmv
 split
 ·omega
 ·split
  ·omega
  ·split <;> omega
theorem zcU (c k:Int):-1000000000≤number c k∧number c k≤1000000000:=by
 unfold number
 split
 ·have h1:=Int.emod_nonneg c (show (2000000001:Int)≠0 by decide)
  have h2:=Int.emod_lt_of_pos c (show (0:Int)<2000000001 by decide)
  omega
 ·split
  ·exact zmw _
  ·have h1:=za3 (c:=c) (k:=k+2) (m:=9) (by decide)
   have h2:=zcw (c:=c) (k:=k+2) (m:=9) (by decide)
   omega
def cell (ns:List Int) (k:Int):Int:=ns.getD k.toNat 0
def dot:List Int→List Int→Int
 | f::fs,n::ns=>f * n+dot fs ns
 | _,_=>0
def zcj (l ns:List Int):Int:=l.headD 0+dot l.tail ns
theorem zd2:∀ (fs ns:List Int) (i:Nat) (f n:Int),fs[i]?=some f→ns[i]?=some n→dot (fs.take (i+1)) (ns.take (i+1))=dot (fs.take i) (ns.take i)+f * n
 | [],_,i,f,n,h,_=>by simp at h
 | _::_,[],i,f,n,_,h=>by simp at h
 | a::fs,b::ns,0,f,n,h1,h2=>by
  simp at h1 h2
  subst h1;subst h2
  simp[dot]
 | a::fs,b::ns,i+1,f,n,h1,h2=>by
  have ih:=zd2 fs ns i f n (by simpa using h1) (by simpa using h2)
  simp only[List.take_succ_cons,dot]
  rw[ih,Int.add_assoc]
end My

namespace My
def zbK (i:Int):List Int:=0::(List.range 8).map λ(k:Nat)=>if (0+(k:Int))=i then 1 else 0
theorem zdS (h:Int) (t ns:List Int):zcj (h::t) ns=h+dot t ns:=rfl
end My

namespace My
open PySem L2
def zd3 (c:Int) (zero:List Int) (k:Nat):Bool:=inV (.int (0+(k:Int))) (zero.map V.int) || decide (mix c (60+(0+(k:Int))) 3=0)
def zbW (c:Int) (zero:List Int):List Int:=(List.range 9).map λj=>if decide (0<j) && zd3 c zero (j - 1) then 0 else number c (5 * (0+(j:Int)))
def zdl (c:Int) (zero:List Int) (i:Nat):List Int:=(List.range 9).map λj=>if decide (0<j) && decide (j - 1<i) && zd3 c zero (j - 1) then 0 else number c (5 * (0+(j:Int)))
theorem zlb {f:Nat→Int}{n p:Nat}{v:Int}(hp:p<n):((List.range n).map f).set p v=(List.range n).map λj=>if j=p then v else f j:=by
 refine List.ext_getElem? λi=>?_
 by_cases hi:i<n
 ·by_cases e:i=p
  ·subst e
   rw[List.getElem?_set_self (by simpa using hi),zgm,List.getElem?_range hi]
   simp
  ·rw[List.getElem?_set_ne (Ne.symm e),zgm,zgm,List.getElem?_range hi]
   simp[e]
 ·rw[List.getElem?_eq_none (by simp;omega),List.getElem?_eq_none (by simp;omega)]
theorem zcZ {f g:Nat→Int}{n:Nat}(h:∀ j,j<n→f j=g j):(List.range n).map f=(List.range n).map g:=
 List.map_congr_left λj hj=>h j (List.mem_range.mp hj)
theorem zlc {c:Int}{zero:List Int}{i:Nat}(hi:i<8) (h:zd3 c zero i=true):(zdl c zero i).set (i+1) 0=zdl c zero (i+1):=by
 unfold zdl
 rw[zlb (by omega)]
 refine zcZ λj hj=>?_
 by_cases e:j=i+1
 ·subst e;simp[h]
 ·rw[if_neg e]
  have:decide (j - 1<i)=decide (j - 1<i+1)∨j=0:=by
   by_cases h0:j=0
   ·exact .inr h0
   ·refine .inl (decide_eq_decide.mpr ⟨λz=>by omega,λz=>by omega⟩)
  rcases this with z | z
  ·rw[z]
  ·subst z;simp
theorem zjT {c:Int}{zero:List Int}{i:Nat}(h:zd3 c zero i=false):zdl c zero i=zdl c zero (i+1):=by
 unfold zdl
 refine zcZ λj hj=>?_
 by_cases e:j=i+1
 ·subst e;simp[h]
 ·have:decide (j - 1<i)=decide (j - 1<i+1)∨j=0:=by
   by_cases h0:j=0
   ·exact .inr h0
   ·refine .inl (decide_eq_decide.mpr ⟨λz=>by omega,λz=>by omega⟩)
  rcases this with z | z
  ·rw[z]
  ·subst z;simp
theorem zjU (c:Int) (zero:List Int):zdl c zero 0=(List.range 9).map λ(j:Nat)=>number c (5 * (0+(j:Int))):=by
 unfold zdl;refine zcZ λj hj=>?_;simp
theorem zld (c:Int) (zero:List Int):zdl c zero 8=zbW c zero:=by
 unfold zdl zbW
 refine zcZ λj hj=>?_
 have:decide (j - 1<8)=true:=decide_eq_true (by omega)
 rw[this,Bool.and_true]
theorem zb7 (c:Int) (zero:List Int):(zbW c zero).length=9:=by simp[zbW]
theorem zhz (c:Int) (zero:List Int) (i:Nat):(zdl c zero i).length=9:=by simp[zdl]
theorem zle {c:Int}{zero:List Int} : ∀ f∈zbW c zero,-1000000000≤f∧f≤1000000000:=λf h=>by
 obtain⟨k,_,rfl⟩:=zmm.mp h
 split
 ·omega
 ·exact zcU _ _
theorem zik {c:Int}{zero:List Int}{k:Nat}(hk:k<8) (h:(k:Int)∈zero):(zbW c zero).getD (k+1) 0=0:=by
 unfold zbW
 rw[List.getD_eq_getElem?_getD,zgm,List.getElem?_range (by omega)]
 have:zd3 c zero k=true:=by
  unfold zd3 inV
  rw[Bool.or_eq_true]
  refine .inl ?_
  rw[List.any_map,List.any_eq_true]
  exact⟨(k:Int),h,by simp[eqV]⟩
 simp[this]
def byOf (c:Int):Int:=if mix c 6 4=0 then 1 else if mix c 6 4=1 then 1000 else if mix c 6 4=2 then 1+mix c 5 1000 else 2
def zjV (c:Int):Int:=number (c / 13) 7
def zgk (c:Int):Int:=if number (c / 17) 8>zjV c then number (c / 17) 8 else zjV c
def zmx (c count:Int):D:=
 if mix c 4 6=0 then .tup [.str "set",.int (mix c 3 4),nums (zbW (c / 11) [6,7])]
 else if mix c 4 6=1 then .tup [.str "part",.int (mix c 3 4),nums (zbW (c / 11) [6,7]),.int (byOf c)]
 else if mix c 4 6=2 then .tup [.str "draw",.int (mix c 3 4),.int (zjV c),.int (zgk c)]
 else if mix c 4 6=3 then .tup [.str "turn",nums (zbW (c / 11) [6,7]),.int (mix c 9 (count+1))]
 else if mix c 4 6=4 then .tup [.str "hold",nums (zbW (c / 11) [6,7])]
 else .tup [.str "call",.int (mix c 12 100),.tup [.int (mix c 10 4),.int (mix c 11 4)],.tup [.int (mix c 3 4),.int ((mix c 3 4+1+mix c 13 3) % 4)]]
def zaN (ls:List (List Int)):D:=.lst (ls.map nums)
end My
namespace My
open PySem L2
end My
namespace My
open PySem L2
end My

namespace My
open PySem L2
inductive Dd where
 | set (hand:Int) (line:List Int) | part (hand:Int) (line:List Int) (by':Int) | draw (hand low high:Int)
 | turn (line:List Int) (place:Int) | hold (line:List Int) | call (number g0 g1 t0 t1:Int)
def toD:Dd→D
 | .set h l=>.tup [.str "set",.int h,nums l]
 | .part h l b=>.tup [.str "part",.int h,nums l,.int b]
 | .draw h lo hi=>.tup [.str "draw",.int h,.int lo,.int hi]
 | .turn l p=>.tup [.str "turn",nums l,.int p]
 | .hold l=>.tup [.str "hold",nums l]
 | .call n g0 g1 t0 t1=>.tup [.str "call",.int n,.tup [.int g0,.int g1],.tup [.int t0,.int t1]]
def zcs:Dd→Prop
 | .set _ l=>l.length=9
 | .part _ l _=>l.length=9
 | .turn l _=>l.length=9
 | .hold l=>l.length=9
 | _=>True
def btw (a b c:Int):Bool:=decide (a≤b) && decide (b≤c)
def zcx (n:Int):Bool:=btw (-1000000000) n 1000000000
def zbX (spots:List Nat) (l:List Int):Bool:=(l.map zcx).all id && (spots.map λs=>decide (l.getD s 0=0)).all id
def zc0 (spots:List Nat) (ls:List (List Int)):Bool:=decide ((ls.length:Int)≤2) && (ls.map (zbX spots)).all id
def zbh (h:Int):Bool:=btw 0 h 3
def zaO (n:Int):Dd→Bool
 | .set h l=>zbh h && zbX [7,8] l
 | .part h l b=>zbh h && (zbX [7,8] l && btw 1 b 1000)
 | .draw h lo hi=>zbh h && (zcx lo && (zcx hi && decide (lo≤hi)))
 | .turn l p=>zbX [7,8] l && btw 0 p n
 | .hold l=>zbX [7,8] l
 | .call m g0 g1 t0 t1=>([zbh g0,zbh g1].all id && [zbh t0,zbh t1].all id) && (btw 0 m 99 && !decide (t0=t1))
def zgl (needs leaves:List (List Int)):Bool:=zc0 [1,2,3,4,7,8] needs && zc0 [1,2,3,4] leaves
def zdT (deeds:List Dd):Bool:=btw 1 (deeds.length:Int) 8 && (deeds.map (zaO (deeds.length:Int))).all id
def zdU (deeds:List Dd) (notes:List (List (List Int))):Bool:=decide ((notes.length:Int)=(deeds.length:Int)) && (notes.map (zc0 [7,8])).all id
def zcV (needs leaves:List (List Int)) (deeds:List Dd) (notes:List (List (List Int))):Bool:=zgl needs leaves && (zdT deeds && zdU deeds notes)
end My

namespace My
open PySem L2
def zil (c count:Int):Dd:=
 if mix c 4 6=0 then .set (mix c 3 4) (zbW (c / 11) [6,7])
 else if mix c 4 6=1 then .part (mix c 3 4) (zbW (c / 11) [6,7]) (byOf c)
 else if mix c 4 6=2 then .draw (mix c 3 4) (zjV c) (zgk c)
 else if mix c 4 6=3 then .turn (zbW (c / 11) [6,7]) (mix c 9 (count+1))
 else if mix c 4 6=4 then .hold (zbW (c / 11) [6,7])
 else .call (mix c 12 100) (mix c 10 4) (mix c 11 4) (mix c 3 4) ((mix c 3 4+1+mix c 13 3) % 4)
theorem zlf (c count:Int):toD (zil c count)=zmx c count:=by
 unfold zil zmx
 split
 ·rfl
 split
 ·rfl
 split
 ·rfl
 split
 ·rfl
 split <;> rfl
theorem zim (c count:Int):zcs (zil c count):=by
 unfold zil
 split
 ·exact zb7 _ _
 split
 ·exact zb7 _ _
 split
 ·trivial
 split
 ·exact zb7 _ _
 split
 ·exact zb7 _ _
 ·trivial
theorem zgn {α:Type}{l:List α}{f:α→Bool}(h:∀ x∈l,f x=true):(l.map f).all id=true:=by
 rw[List.all_map]
 exact List.all_eq_true.mpr λx m=>h x m
theorem zbG {a b c:Int}(h1:a≤b) (h2:b≤c):btw a b c=true:=by unfold btw;rw[decide_eq_true h1,decide_eq_true h2];rfl
theorem zd4 {c:Int}{zero:List Int}{spots:List Nat}(h:∀ s∈spots,∃ k:Nat,s=k+1∧k<8∧(k:Int)∈zero):zbX spots (zbW c zero)=true:=by
 unfold zbX
 rw[zgn λx m=>?_,zgn λs m=>?_]
 ·rfl
 ·obtain⟨k,rfl,hk,hz⟩:=h s m
  exact decide_eq_true (zik hk hz)
 ·obtain⟨h1,h2⟩:=zle x m
  exact zbG h1 h2
theorem zjd:∀ s∈([7,8]:List Nat),∃ k:Nat,s=k+1∧k<8∧(k:Int)∈([6,7]:List Int):=λs m=>by
 rcases List.mem_cons.mp m with z | m
 ·exact⟨6,z,by decide,by decide⟩
 ·exact⟨7,zms.mp m,by decide,by decide⟩
theorem zeX (c k:Int):zbh (mix c k 4)=true:=by
 have h1:=za3 (c:=c) (k:=k) (m:=4) (by decide)
 have h2:=zcw (c:=c) (k:=k) (m:=4) (by decide)
 exact zbG h1 (by omega)
theorem zmy {c count:Int}(hc:0≤count):zaO count (zil c count)=true:=by
 unfold zil
 split
 ·simp only[zaO];rw[zeX,zd4 zjd];rfl
 split
 ·simp only[zaO];rw[zeX,zd4 zjd,Bool.true_and,Bool.true_and]
  unfold byOf
  have h1:=za3 (c:=c) (k:=5) (m:=1000) (by decide)
  have h2:=zcw (c:=c) (k:=5) (m:=1000) (by decide)
  split
  ·exact zbG (by decide) (by decide)
  split
  ·exact zbG (by decide) (by decide)
  split
  ·exact zbG (by omega) (by omega)
  ·exact zbG (by decide) (by decide)
 split
 ·simp only[zaO]
  obtain⟨h1,h2⟩:=zcU (c / 13) 7
  obtain⟨h3,h4⟩:=zcU (c / 17) 8
  have e1:zcx (zjV c)=true:=zbG h1 h2
  have e2:zcx (zgk c)=true:=by
   unfold zgk
   split
   ·exact zbG h3 h4
   ·exact zbG h1 h2
  have e3:zjV c≤zgk c:=by
   unfold zgk
   split
   ·omega
   ·omega
  rw[zeX,e1,e2,decide_eq_true e3];rfl
 split
 ·simp only[zaO];rw[zd4 zjd,Bool.true_and]
  have h1:=za3 (c:=c) (k:=9) (m:=count+1) (by omega)
  have h2:=zcw (c:=c) (k:=9) (m:=count+1) (by omega)
  exact zbG h1 (by omega)
 split
 ·simp only[zaO];exact zd4 zjd
 ·simp only[zaO]
  have h1:=za3 (c:=c) (k:=12) (m:=100) (by decide)
  have h2:=zcw (c:=c) (k:=12) (m:=100) (by decide)
  have h3:=za3 (c:=c) (k:=3) (m:=4) (by decide)
  have h4:=zcw (c:=c) (k:=3) (m:=4) (by decide)
  have h5:=za3 (c:=c) (k:=13) (m:=3) (by decide)
  have h6:=zcw (c:=c) (k:=13) (m:=3) (by decide)
  have e1:zbh ((mix c 3 4+1+mix c 13 3) % 4)=true:=zbG (by omega) (by omega)
  have e2:¬ mix c 3 4=(mix c 3 4+1+mix c 13 3) % 4:=by omega
  rw[zbG h1 (by omega),decide_eq_false e2]
  simp[zeX,e1]
end My

namespace My
end My

namespace My
open PySem L2
section
variable {needs leaves : List (List Int)} {deeds : List Dd} {notes : List (List (List Int))}
end
end My

namespace My
theorem zmz {i:Int}(h:0≤i):((List.range 9).map λ(k:Nat)=>if decide (0+(k:Int)=i+1)=true then (1:Int) else 0)=zbK i:=by
 unfold zbK
 rw[List.range_succ_eq_map,zmc,List.map_map]
 congr 1
 ·rw[decide_eq_false (by omega)];rfl
 ·refine List.map_congr_left λk _=>?_
  show (if decide (0+((k+1:Nat):Int)=i+1)=true then (1:Int) else 0)=if 0+(k:Int)=i then 1 else 0
  by_cases z:0+(k:Int)=i
  ·rw[if_pos z,decide_eq_true (by omega)];rfl
  ·rw[if_neg z,decide_eq_false (by omega)];rfl
end My

namespace My
open PySem L2 PyProof.Rows
def zgK (H:Hp):List D→List V→Prop
 | [],[]=>True
 | d::ds,x::xs=>Part H d x∧zgK H ds xs
 | _,_=>False
theorem zhA {H:Hp} : ∀ {ds:List D}{xs:List V},zgK H ds xs→ds.length=xs.length
 | [],[],_=>rfl
 | _::_,_::_,h=>by rw[List.length_cons,List.length_cons,zhA h.2]
 | [],_::_,h=>h.elim
 | _::_,[],h=>h.elim
theorem zje {H:Hp} : ∀ {ds:List D}{xs:List V},zgK H ds xs→∀ (i:Nat) dd x,ds[i]?=some dd→xs[i]?=some x→Part H dd x
 | [],_,_,i,_,_,e,_=>by simp at e
 | _::_,[],h,_,_,_,_,_=>h.elim
 | d::ds,x::xs,h,0,_,_,e1,e2=>by simp at e1 e2;subst e1;subst e2;exact h.1
 | d::ds,x::xs,h,i+1,dd,y,e1,e2=>zje h.2 i dd y (by simpa using e1) (by simpa using e2)
theorem zhB {H:Hp} : ∀ {ds:List D}{xs:List V},ds.length=xs.length→(∀ (i:Nat) dd x,ds[i]?=some dd→xs[i]?=some x→Part H dd x)→zgK H ds xs
 | [],[],_,_=>trivial
 | [],_::_,e,_=>by simp at e
 | _::_,[],e,_=>by simp at e
 | d::ds,x::xs,e,h=>⟨h 0 d x rfl rfl,zhB (by simpa using e) λi dd y e1 e2=>h (i+1) dd y (by simpa using e1) (by simpa using e2)⟩
theorem zn4 {H:Hp}{t:Addr}{xs:List V}{ds:List D}(h:H t=some (.tup xs)) (l:ds.length≤8) (p:zgK H ds xs):zbC H (.tup ds) (.ref t):=⟨t,xs,ds,rfl,rfl,h,zhA p,l,zje p⟩
theorem zbO {H:Hp}{ds:List D}{v:V}(h:zbC H (.tup ds) v):∃ t xs,v=.ref t∧H t=some (.tup xs)∧zgK H ds xs:=by
 obtain⟨t,xs,ds',e,rfl,h1,h2,_,h3⟩:=h
 cases e
 exact⟨t,xs,rfl,h1,zhB h2 h3⟩
theorem zax {H:Hp}{d:D}{ds:List D}{xs:List V}(h:zgK H (d::ds) xs):∃ x r,xs=x::r∧Part H d x∧zgK H ds r:=by
 cases xs with
 | nil=>exact h.elim
 | cons x r=>exact⟨x,r,rfl,h.1,h.2⟩
theorem zdm {H:Hp}{xs:List V}(h:zgK H [] xs):xs=[]:=by
 cases xs with
 | nil=>rfl
 | cons x r=>exact h.elim
theorem zc1 {H:Hp}{s:Str}{x:V}(h:Part H (.str s) x):x=.str s:=by
 rcases h with ⟨i,e,_⟩ | ⟨z,e,rfl⟩ | ⟨b,l,e,_⟩ | ⟨b,i,j,e,_⟩ <;> cases e
 rfl
theorem zb8 {H:Hp}{s:Int}{x:V}(h:Part H (.int s) x):x=.int s:=by
 rcases h with ⟨i,e,rfl⟩ | ⟨z,e,_⟩ | ⟨b,l,e,_⟩ | ⟨b,i,j,e,_⟩ <;> cases e
 rfl
theorem zeY:∀ {l m:List Int},l.map D.int=m.map D.int→l=m
 | [],[],_=>rfl
 | [],_::_,e=>by simp at e
 | _::_,[],e=>by simp at e
 | a::l,b::m,e=>by
  rw[zmc,zmc] at e
  injection e with e1 e2
  injection e1 with e1
  rw[e1,zeY e2]
theorem zd5 {H:Hp}{l:List Int}{x:V}(h:Part H (nums l) x):∃ b,x=.ref b∧H b=some (.lst (l.map V.int)):=by
 rcases h with ⟨i,e,_⟩ | ⟨z,e,_⟩ | ⟨b,m,e,h1,h2⟩ | ⟨b,i,j,e,_⟩
 ·cases e
 ·cases e
 ·injection e with e
  rw[zeY e]
  exact⟨b,h1,h2⟩
 ·cases e
theorem zhC {H:Hp}{i j:Int}{x:V}(h:Part H (.tup [.int i,.int j]) x):∃ b,x=.ref b∧H b=some (.tup [.int i,.int j]):=by
 rcases h with ⟨i',e,_⟩ | ⟨z,e,_⟩ | ⟨b,m,e,h1,h2⟩ | ⟨b,i',j',e,h1,h2⟩
 ·cases e
 ·cases e
 ·cases e
 ·cases e
  exact⟨b,h1,h2⟩
def R2 {α:Type}(P:α→V→Prop) (as:List α) (xs:List V):Prop:=as.length=xs.length∧∀ (i:Nat) a x,as[i]?=some a→xs[i]?=some x→P a x
theorem R2.mono {α:Type}{P P':α→V→Prop}{as:List α}{xs:List V}(h:R2 P as xs) (m:∀ a x,P a x→P' a x):R2 P' as xs:=⟨h.1,λi a x e1 e2=>m a x (h.2 i a x e1 e2)⟩
theorem R2.cons {α:Type}{P:α→V→Prop}{a:α}{x:V}{as:List α}{xs:List V}(p:P a x) (h:R2 P as xs):R2 P (a::as) (x::xs):=⟨by simp[h.1],λi b y e1 e2=>by
 cases i with
 | zero=>simp at e1 e2;subst e1;subst e2;exact p
 | succ i=>exact h.2 i b y (by simpa using e1) (by simpa using e2)⟩
def zdn (H:Hp):List Dd→List V→Prop:=R2 λd x=>zbC H (toD d) x
theorem zdn.same {H H':Hp}{ds:List Dd}{xs:List V}(e:Same H H') (h:zdn H ds xs):zdn H' ds xs:=R2.mono h λ_ _ z=>z.sq e.sq
def zn5:Dd→Str
 | .set _ _=>"set"
 | .part _ _ _=>"part"
 | .draw _ _ _=>"draw"
 | .turn _ _=>"turn"
 | .hold _=>"hold"
 | .call _ _ _ _ _=>"call"
theorem zlg {H:Hp}{d:Dd}{x:V}(h:zbC H (toD d) x):∃ t xs,x=.ref t∧H t=some (.tup (.str (zn5 d)::xs)):=by
 cases d <;> (obtain⟨t,xs,rfl,h1,px⟩:=zbO h;obtain⟨x0,r,rfl,e0,px⟩:=zax px;cases zc1 e0;exact⟨t,r,rfl,h1⟩)
theorem zc2 {d:Dd}(h:zcs d):Deed (toD d):=by
 cases d with
 | set hd l=>exact⟨_,rfl,by simp,λc hc=>by
   simp at hc
   rcases hc with rfl | rfl | rfl
   ·exact .inr (.inl ⟨_,rfl⟩)
   ·exact .inl ⟨_,rfl⟩
   ·exact .inr (.inr (.inl ⟨l,h,rfl⟩))⟩
 | part hd l b=>exact⟨_,rfl,by simp,λc hc=>by
   simp at hc
   rcases hc with rfl | rfl | rfl | rfl
   ·exact .inr (.inl ⟨_,rfl⟩)
   ·exact .inl ⟨_,rfl⟩
   ·exact .inr (.inr (.inl ⟨l,h,rfl⟩))
   ·exact .inl ⟨_,rfl⟩⟩
 | draw hd lo hi=>exact⟨_,rfl,by simp,λc hc=>by
   simp at hc
   rcases hc with rfl | rfl | rfl | rfl
   ·exact .inr (.inl ⟨_,rfl⟩)
   ·exact .inl ⟨_,rfl⟩
   ·exact .inl ⟨_,rfl⟩
   ·exact .inl ⟨_,rfl⟩⟩
 | turn l p=>exact⟨_,rfl,by simp,λc hc=>by
   simp at hc
   rcases hc with rfl | rfl | rfl
   ·exact .inr (.inl ⟨_,rfl⟩)
   ·exact .inr (.inr (.inl ⟨l,h,rfl⟩))
   ·exact .inl ⟨_,rfl⟩⟩
 | hold l=>exact⟨_,rfl,by simp,λc hc=>by
   simp at hc
   rcases hc with rfl | rfl
   ·exact .inr (.inl ⟨_,rfl⟩)
   ·exact .inr (.inr (.inl ⟨l,h,rfl⟩))⟩
 | call m g0 g1 t0 t1=>exact⟨_,rfl,by simp,λc hc=>by
   simp at hc
   rcases hc with rfl | rfl | rfl | rfl
   ·exact .inr (.inl ⟨_,rfl⟩)
   ·exact .inl ⟨_,rfl⟩
   ·exact .inr (.inr (.inr ⟨_,_,rfl⟩))
   ·exact .inr (.inr (.inr ⟨_,_,rfl⟩))⟩
end My

namespace My
theorem zeros9e:List.replicate 9 (0:Int)=[0,0,0,0,0,0,0,0,0]:=rfl
end My

namespace My
open PySem L2 PyProof.Rows
def NoteL (H:Hp) (ls:List (List Int)) (x:V):Prop:=∃ b,x=.ref b∧Ls H b ls
def zhD (H:Hp) (v:V) (needs leaves:List (List Int)) (deeds:List Dd) (notes:List (List (List Int))):Prop:=∃ (pa y1 y2 a3 a4:Addr) (dvs nvs:List V),v=.ref pa∧H pa=some (.lst [.ref y1,.ref y2,.ref a3,.ref a4])∧Ls H y1 needs∧Ls H y2 leaves∧H a3=some (.lst dvs)∧H a4=some (.lst nvs)∧zdn H deeds dvs∧R2 (NoteL H) notes nvs
theorem zn6 {c:TT}{t u:TS}{D:Ends}{σ:L2.St}{H:Hp}(h:∀ Q:Bool→Hp→Prop,(∀ H',Same H H'→Q false H')→c σ H Q) (k:∀ H',Same H H'→u D σ H'):tSeq (tIfS c t zki) u D σ H:=h _ λH' s=>iteF (k H' s)
theorem RepF.ls {H:Hp}{ls:List (List Int)}{v:V}{fp:List Addr}(h:RepF H (.lst (ls.map nums)) v fp):∃ ka,v=.ref ka∧Ls H ka ls:=by
 unfold RepF at h
 obtain⟨a,xs,r,rfl,rfl,h1,h2⟩:=h
 obtain⟨rfl,e2,e3⟩:=zaj.lines h2
 refine⟨a,rfl,r,h1,e2,λi b l q1 q2=>?_⟩
 obtain⟨l',z1,z2⟩:=e3 i b q1
 rw[q2] at z1;cases z1
 exact z2
theorem zlh {xs:List V}{k:Int}(h0:0≤k):cutV xs none (some k)=xs.take k.toNat:=by
 have e:k=(k.toNat:Int):=by omega
 rw[e]
 unfold cutV
 rw[HT.sIx_none,HT.sIx_nat,List.drop_zero,Nat.sub_zero,Int.toNat_natCast]
 by_cases z:k.toNat≤xs.length
 ·rw[Nat.min_eq_left z]
 ·rw[Nat.min_eq_right (by omega),List.take_of_length_le (Nat.le_refl _),List.take_of_length_le (by omega)]
def NoD (H H':Hp):Prop:=∀ b o,H b=some o→(∀ kvs,o≠HO.dK kvs)→H' b=some o
theorem _root_.L2.Same.nod {H H':Hp}(e:Same H H'):NoD H H':=λb o h _=>e b o h
theorem NoD.trans {H H1 H2:Hp}(a:NoD H H1) (b:NoD H1 H2):NoD H H2:=λc o h n=>b c o (a c o h n) n
theorem zep {H:Hp}{p:Addr}{o:HO}{kvs:List (Key × V)}(h:H p=some (.dK kvs)):NoD H (upd H p o):=λb u e n=>by
 rw[zak (λz=>by rw[z,h] at e;exact n kvs (Option.some.inj e).symm)]
 exact e
theorem NoD.sq {H H':Hp}(e:NoD H H'):Sq H H':=λb o h q=>e b o h λkvs z=>by rw[z] at q;cases q
theorem _root_.L2.Ls.nod {H H':Hp}{ka:Addr}{ls:List (List Int)}(e:NoD H H') (h:Ls H ka ls):Ls H' ka ls:=by
 obtain⟨as,h1,h2,h3⟩:=h
 exact⟨as,e _ _ h1 (λ_ z=>by cases z),h2,λi a l e1 e2=>e _ _ (h3 i a l e1 e2) (λ_ z=>by cases z)⟩
theorem zli {κ:Type} [DecidableEq κ] (kvs:List (κ × V)) (k:κ) (v:V):(putK kvs k v).map (·.1)=if k∈kvs.map (·.1) then kvs.map (·.1) else kvs.map (·.1)++[k]:=by
 cases h:valV kvs k with
 | some y=>
  rw[if_pos (zkP h)]
  unfold putK
  rw[zcu,h]
  rw[if_pos (show (some y).isSome=true from rfl),List.map_map]
  refine List.map_congr_left λp _=>?_
  show (if p.1=k then (p.1,v) else p).1=p.1
  split <;> rfl
 | none=>rw[if_neg (zl8 h),zl3 v h,List.map_append];rfl
theorem zin {ks:List Int}{m:Int} : (Sum.inl m:Key)∈ks.map (Sum.inl:Int→Key)↔m∈ks:=by
 constructor
 ·intro h
  obtain⟨x,hx,e⟩:=zmm.mp h
  injection e with e
  rw[←e];exact hx
 ·intro h;exact List.mem_map_of_mem h
theorem zjW {ks:List Int}{m:Int} : (ks.map (Sum.inl:Int→Key)).filter (λk=>decide (k≠Sum.inl m))=(ks.filter λk=>decide (k≠m)).map Sum.inl:=by
 rw[List.filter_map]
 congr 1
 refine List.filter_congr λx _=>?_
 show decide ((Sum.inl x:Key)≠Sum.inl m)=decide (x≠m)
 refine decide_eq_decide.mpr ⟨λh z=>h (by rw[z]),λh z=>h (by injection z)⟩
theorem zjX {kvs:List (Key × V)}{k:Key} : (zcr kvs k).map (·.1)=(kvs.map (·.1)).filter (λj=>decide (j≠k)):=by
 unfold zcr
 rw[List.filter_map]
 rfl
def KVs (P:Int→V→Prop) (kvs:List (Key × V)) (ks:List Int):Prop:=kvs.map (·.1)=ks.map Sum.inl∧ks.Nodup∧∀ m∈ks,∃ v,valV kvs (.inl m)=some v∧P m v
theorem KVs.nil {P:Int→V→Prop} : KVs P [] []:=⟨rfl,List.nodup_nil,λm hm=>by simp at hm⟩
theorem KVs.mono {P P':Int→V→Prop}{kvs:List (Key × V)}{ks:List Int}(h:KVs P kvs ks) (m:∀ k v,P k v→P' k v):KVs P' kvs ks:=⟨h.1,h.2.1,λk hk=>by
 obtain⟨v,h1,h2⟩:=h.2.2 k hk
 exact⟨v,h1,m k v h2⟩⟩
theorem KVs.len {P:Int→V→Prop}{kvs:List (Key × V)}{ks:List Int}(h:KVs P kvs ks):kvs.length=ks.length:=by
 have:=congrArg List.length h.1
 simpa using this
theorem KVs.no {P:Int→V→Prop}{kvs:List (Key × V)}{ks:List Int}{m:Int}(h:KVs P kvs ks) (n:m∉ks):valV kvs (.inl m)=none:=by
 cases e:valV kvs (.inl m) with
 | none=>rfl
 | some v=>
  have:=zkP e
  rw[h.1] at this
  exact absurd (zin.mp this) n
theorem KVs.put {P:Int→V→Prop}{kvs:List (Key × V)}{ks:List Int}{m:Int}{v:V}(h:KVs P kvs ks) (hv:P m v):KVs P (putK kvs (.inl m) v) (if m∈ks then ks else ks++[m]):=by
 refine⟨?_,?_,λk hk=>?_⟩
 ·rw[zli,h.1]
  by_cases z:m∈ks
  ·rw[if_pos (zin.mpr z),if_pos z]
  ·rw[if_neg (λw=>z (zin.mp w)),if_neg z,List.map_append];rfl
 ·by_cases z:m∈ks
  ·rw[if_pos z];exact h.2.1
  ·rw[if_neg z];exact zia h.2.1 z
 ·rw[ziZ]
  by_cases e:k=m
  ·subst e;exact⟨v,by rw[if_pos rfl],hv⟩
  ·rw[if_neg (λw=>e (by injection w))]
   refine h.2.2 k ?_
   by_cases z:m∈ks
   ·rw[if_pos z] at hk;exact hk
   ·rw[if_neg z] at hk
    rcases zma.mp hk with w | w
    ·exact w
    ·exact absurd (zms.mp w) e
theorem KVs.put' {P P':Int→V→Prop}{kvs:List (Key × V)}{ks:List Int}{m:Int}{v:V}(h:KVs P kvs ks) (hv:P' m v) (hP:∀ k v,k≠m→P k v→P' k v):KVs P' (putK kvs (.inl m) v) (if m∈ks then ks else ks++[m]):=by
 have h0:KVs (λk w=>k=m∧w=v∨P k w) (putK kvs (.inl m) v) (if m∈ks then ks else ks++[m]):=(h.mono λk w z=>.inr z).put (.inl ⟨rfl,rfl⟩)
 refine⟨h0.1,h0.2.1,λk hk=>?_⟩
 by_cases e:k=m
 ·subst e
  exact⟨v,by rw[ziZ,if_pos rfl],hv⟩
 ·obtain⟨w,e1,e2⟩:=h0.2.2 k hk
  rcases e2 with ⟨e2,_⟩ | e2
  ·exact absurd e2 e
  ·exact⟨w,e1,hP k w e e2⟩
theorem KVs.drop {P:Int→V→Prop}{kvs:List (Key × V)}{ks:List Int}{m:Int}(h:KVs P kvs ks):KVs P (zcr kvs (.inl m)) (ks.filter λk=>decide (k≠m)):=by
 refine⟨by rw[zjX,h.1];exact zjW,h.2.1.filter _,λk hk=>?_⟩
 obtain⟨h1,h2⟩:=List.mem_filter.mp hk
 have h2:k≠m:=of_decide_eq_true h2
 rw[zhy,if_neg (λw=>h2 (by injection w))]
 exact h.2.2 k h1
def Sm (l:List Int):Prop:=∀ n∈l,-(2 ^ 64)<n∧n<2 ^ 64
def zck:Dd→Option Int
 | .call m _ _ _ _=>some m
 | _=>none
def zcI (deeds:List Dd):List Int:=deeds.filterMap zck
theorem zjY {deeds:List Dd}{m:Int}(h:m∈zcI deeds):∃ d∈deeds,zck d=some m:=by
 unfold zcI at h
 exact List.mem_filterMap.mp h
def OffA (S:List Addr) (H H':Hp):Prop:=∀ b o,b∉S→H b=some o→H' b=some o
theorem _root_.L2.Same.offA {S:List Addr}{H H':Hp}(e:Same H H'):OffA S H H':=λb o _ h=>e b o h
theorem OffA.trans {S:List Addr}{H H1 H2:Hp}(a:OffA S H H1) (b:OffA S H1 H2):OffA S H H2:=λc o n h=>b c o n (a c o n h)
theorem zbv {S:List Addr}{H:Hp}{p:Addr}{o:HO}(h:p∈S):OffA S H (upd H p o):=λb u n e=>by
 rw[zak (λz=>n (by rw[z];exact h))];exact e
theorem OffA.nod {S:List Addr}{H H':Hp}(e:OffA S H H') (h:∀ a∈S,∃ kvs,H a=some (.dK kvs)):NoD H H':=λb o hb n=>e b o (λz=>by
 obtain⟨kvs,hk⟩:=h b z
 rw[hk] at hb
 exact n kvs (Option.some.inj hb).symm) hb
structure Cr where
 needs:List (List Int)
 leaves:List (List Int)
 deeds:List Dd
 notes:List (List (List Int))
def hfl (la va:Addr):List (Str × V):=putF "vouched" (.ref va) (putF "laid" (.ref la) [])
theorem zc3 (la va:Addr):(hfl la va).lookup ("laid" : Str)=some (.ref la):=by
 unfold hfl
 rw[zaK,if_neg (by decide +kernel),zaK,if_pos rfl]
theorem zgo (la va:Addr):(hfl la va).lookup ("vouched" : Str)=some (.ref va):=by
 unfold hfl
 rw[zaK,if_pos rfl]
theorem zeJ {la va:Addr}{m:Str}(h1:¬ m ="vouched") (h2:¬ m ="laid"):(hfl la va).lookup m=none:=by
 unfold hfl
 rw[zaK,if_neg h1,zaK,if_neg h2]
 rfl
theorem zjf {n:Int} : ∀ {l:List Int},inV (.int n) (l.map V.int)=decide (n∈l)
 | []=>by simp[inV]
 | a::l=>by
  have ih:=zjf (n:=n) (l:=l)
  unfold inV at ih ⊢
  rw[zmc,List.any_cons,ih]
  by_cases z:n=a
  ·subst z;simp[eqV]
  ·have:eqV (.int a) (.int n)=false:=by
    simp[eqV]
    intro w;exact z w.symm
   rw[this]
   simp[z]
theorem zjZ (zs:List Int):(zs.map V.int).all zdb=true:=by rw[List.all_map,List.all_eq_true];intro x _;rfl
end My

namespace My
open PySem L2 PyProof.Rows
theorem zeros8e:List.replicate 8 (0:Int)=[0,0,0,0,0,0,0,0]:=rfl
def e1:List Int:=[0,1,0,0,0,-1,0,0,0]
def zb9 (k:Int):List (List Int) × List (List Int):=if k=0 then ([zbK 4,zbK 5],[zbK 6,zbK 7]) else ([zbK 4],[[0,0,0,0,0,-1,0,1,0],zbK 6])
def za8 (c:Int):Int:=if c / 8 % 3=0 then 0 else if c / 8 % 3=1 then 1 else c / 48 % 1000000001
def zgL (c:Int):List Int:=((List.range 7).map λ(k:Nat)=>number c (5 * (0+(k:Int))))++[0,0]
def zd6 (c count:Int):Dd:=
 if c % 3=0 then .turn (zgL (c / 7)) (mix c 30 (count+1))
 else if c % 3=1 then .set (2+c / 3 % 2) (zgL (c / 7))
 else .draw (2+c / 3 % 2) (number (c / 5) 31) (if number (c / 7) 32>number (c / 5) 31 then number (c / 7) 32 else number (c / 5) 31)
def atN (c:Int) (numbers:List Int):Nat:=(c / 48 % (numbers.length:Int)).toNat
def zdI (c count:Int) (numbers kinds:List Int):Dd:=
 if c % 8=0 then .set (c / 24 % 2) [za8 c,1,1,0,0,0,0,0,0]
 else if c % 8=1 then .set (c / 24 % 2) [za8 c,c / 24 % 2,1 - c / 24 % 2,0,0,0,0,0,0]
 else if c % 8=2 then .part (c / 24 % 2) [za8 c,1,c / 48 % 2,0,0,0,0,0,0] (1+c / 96 % 4)
 else if c % 8=3 then .draw (c / 24 % 2) (c / 48 % 3) (if za8 c>2 then za8 c else 2)
 else if c % 8=4 then .hold [za8 c,1,c / 24 % 2,0,0,0,0,0,0]
 else if c % 8=5 then (if kinds.getD (atN c numbers) 0=0 then .call (numbers.getD (atN c numbers) 0) (c / 24 % 2) (c / 96 % 2) (c / 192 % 4) ((c / 192 % 4+1+c / 768 % 3) % 4) else .call (numbers.getD (atN c numbers) 0) (c / 24 % 2) (c / 96 % 4) (c / 384 % 2) (2+c / 768 % 2))
 else zd6 (c / 8) count
def zcJ (c count:Int) (numbers kinds:List Int):Dd:=
 if c % 8=0∨c % 8=1 then .set 0 [za8 c,1,0,0,0,0,0,0,0]
 else if c % 8=2 then .part 0 [za8 c,1,0,0,0,0,0,0,0] 1
 else if c % 8=3 then .hold [za8 c,1,0,0,0,-(c / 24 % 2),0,0,0]
 else if c % 8=4 then .set 1 (zgL (c / 24))
 else if c % 8=5 then (if kinds.getD (atN c numbers) 0=0 then .call (numbers.getD (atN c numbers) 0) 0 0 (2+c / 96 % 2) 1 else .call (numbers.getD (atN c numbers) 0) 0 (c / 96 % 4) (c / 384 % 2) (2+c / 768 % 2))
 else zd6 (c / 8) count
theorem zfm (c:Int):0≤za8 c∧za8 c≤1000000000:=by
 unfold za8
 split
 ·omega
 split <;> omega
theorem zgM (c:Int):(zgL c).length=9:=by simp[zgL]
section
variable {H H1 : Hp} {la t g u : Addr} {l : List Int}
theorem zfn {h:Int}(l0:H la=none) (l1:H1 la=some (.lst (l.map V.int))) (ht:H1 t=none):New H (upd H1 t (.tup [.str "set",.int h,.ref la])) (toD (.set h l)) (.ref t):=
 New.tup (fp:=[la]) (zaj.cstr (zaj.cint (zaj.cany (f:=[la]) (RepF.line (zah ht _ _ _ l1)) zaj.nil))) (by simp) (λb m=>by rw[zms.mp m];exact l0) zaf
theorem zjg {h b:Int}(l0:H la=none) (l1:H1 la=some (.lst (l.map V.int))) (ht:H1 t=none):New H (upd H1 t (.tup [.str "part",.int h,.ref la,.int b])) (toD (.part h l b)) (.ref t):=
 New.tup (fp:=[la]) (zaj.cstr (zaj.cint (zaj.cany (f:=[la]) (RepF.line (zah ht _ _ _ l1)) (zaj.cint zaj.nil)))) (by simp) (λb m=>by rw[zms.mp m];exact l0) zaf
theorem zjh {h lo hi:Int}(ht:H1 t=none):New H (upd H1 t (.tup [.str "draw",.int h,.int lo,.int hi])) (toD (.draw h lo hi)) (.ref t):=
 New.tup (fp:=[]) (zaj.cstr (zaj.cint (zaj.cint (zaj.cint zaj.nil)))) (by simp) (λb m=>by cases m) zaf
theorem zmA {p:Int}(l0:H la=none) (l1:H1 la=some (.lst (l.map V.int))) (ht:H1 t=none):New H (upd H1 t (.tup [.str "turn",.ref la,.int p])) (toD (.turn l p)) (.ref t):=
 New.tup (fp:=[la]) (zaj.cstr (zaj.cany (f:=[la]) (RepF.line (zah ht _ _ _ l1)) (zaj.cint zaj.nil))) (by simp) (λb m=>by rw[zms.mp m];exact l0) zaf
theorem zji (l0:H la=none) (l1:H1 la=some (.lst (l.map V.int))) (ht:H1 t=none):New H (upd H1 t (.tup [.str "hold",.ref la])) (toD (.hold l)) (.ref t):=
 New.tup (fp:=[la]) (zaj.cstr (zaj.cany (f:=[la]) (RepF.line (zah ht _ _ _ l1)) zaj.nil)) (by simp) (λb m=>by rw[zms.mp m];exact l0) zaf
theorem zeZ {m g0 g1 t0 t1:Int}(hg:H1 g=some (.tup [.int g0,.int g1])) (hu:H1 u=some (.tup [.int t0,.int t1])) (ht:H1 t=none):New H (upd H1 t (.tup [.str "call",.int m,.ref g,.ref u])) (toD (.call m g0 g1 t0 t1)) (.ref t):=
 New.tup (fp:=[]) (zaj.cstr (zaj.cint (zaj.cany (f:=[]) (RepF.pair (zah ht _ _ _ hg)) (zaj.cany (f:=[]) (RepF.pair (zah ht _ _ _ hu)) zaj.nil)))) (by simp) (λb m=>by cases m) zaf
end
theorem zfo {H H1 H2:Hp}{p:Addr}{va vb:V}{la lb:List Int}(s1:Same H H1) (n1:New H H1 (nums la) va) (s2:Same H1 H2) (n2:New H1 H2 (nums lb) vb) (hp:H2 p=none):New H (upd H2 p (.lst [va,vb])) (zaN [la,lb]) (.ref p):=
 ((News.nil.snoc (H1:=H) (Same.refl H) s1 n1).snoc s1 s2 n2).lst (s1.trans s2) hp
theorem zn7 {H H1:Hp}{p:Addr}{va:V}{la:List Int}(s1:Same H H1) (n1:New H H1 (nums la) va) (hp:H1 p=none):New H (upd H1 p (.lst [va])) (zaN [la]) (.ref p):=
 (News.nil.snoc (H1:=H) (Same.refl H) s1 n1).lst s1 hp
theorem zaj.out4 {H:Hp}{d1 d2 d3 d4:D}{v1 v2 v3 v4:V}{fp:List Addr}(h:zaj H [d1,d2,d3,d4] [v1,v2,v3,v4] fp):∃ f1 f2 f3 f4,fp=f1++(f2++(f3++f4))∧RepF H d1 v1 f1∧RepF H d2 v2 f2∧RepF H d3 v3 f3∧RepF H d4 v4 f4:=by
 unfold zaj at h
 obtain⟨_,_,f1,g1,e,rfl,h1,h⟩:=h
 cases e
 unfold zaj at h
 obtain⟨_,_,f2,g2,e,rfl,h2,h⟩:=h
 cases e
 unfold zaj at h
 obtain⟨_,_,f3,g3,e,rfl,h3,h⟩:=h
 cases e
 unfold zaj at h
 obtain⟨_,_,f4,g4,e,rfl,h4,h⟩:=h
 cases e
 unfold zaj at h
 obtain⟨_,rfl⟩:=h
 exact⟨f1,f2,f3,f4,by simp,h1,h2,h3,h4⟩
theorem zaj.in4 {H:Hp}{d1 d2 d3 d4:D}{v1 v2 v3 v4:V}{f1 f2 f3 f4:List Addr}(h1:RepF H d1 v1 f1) (h2:RepF H d2 v2 f2) (h3:RepF H d3 v3 f3) (h4:RepF H d4 v4 f4):zaj H [d1,d2,d3,d4] [v1,v2,v3,v4] (f1++(f2++(f3++f4))):=by
 have:=zaj.cany h1 (zaj.cany h2 (zaj.cany h3 (zaj.cany h4 (zaj.nil (H:=H)))))
 simpa using this
theorem News.perm4 {H H':Hp}{d1 d2 d3 d4:D}{v1 v2 v3 v4:V}(h:News H H' [d3,d1,d4,d2] [v3,v1,v4,v2]):News H H' [d1,d2,d3,d4] [v1,v2,v3,v4]:=by
 obtain⟨fp,h1,h2,h3⟩:=h
 obtain⟨f3,f1,f4,f2,rfl,k3,k1,k4,k2⟩:=zaj.out4 h1
 have pm:(f1++(f2++(f3++f4))).Perm (f3++(f1++(f4++f2))):=List.perm_iff_count.mpr λa=>by
  simp only[List.count_append];omega
 exact⟨_,zaj.in4 k1 k2 k3 k4,pm.nodup_iff.mpr h2,λa ha=>h3 a (pm.mem_iff.mp ha)⟩
theorem News.perm4' {H H':Hp}{d1 d2 d3 d4:D}{v1 v2 v3 v4:V}(h:News H H' [d3,d4,d1,d2] [v3,v4,v1,v2]):News H H' [d1,d2,d3,d4] [v1,v2,v3,v4]:=by
 obtain⟨fp,h1,h2,h3⟩:=h
 obtain⟨f3,f4,f1,f2,rfl,k3,k4,k1,k2⟩:=zaj.out4 h1
 have pm:(f1++(f2++(f3++f4))).Perm (f3++(f4++(f1++f2))):=List.perm_iff_count.mpr λa=>by
  simp only[List.count_append];omega
 exact⟨_,zaj.in4 k1 k2 k3 k4,pm.nodup_iff.mpr h2,λa ha=>h3 a (pm.mem_iff.mp ha)⟩
def zdJ (k:Int):List (List Int):=if k=0 then [zbK 0,zbK 1] else [e1,zbK 4]
def zgN (k c count:Int) (numbers kinds:List Int):Dd:=if k=0 then zdI c count numbers kinds else zcJ c count numbers kinds
def crK (k:Int) (cells numbers kinds:List Int):Cr:=⟨(zb9 k).1,(zb9 k).2,cells.map λc=>zgN k c cells.length numbers kinds,cells.map λ_=>zdJ k⟩
def crD (c:Cr):D:=.lst [zaN c.needs,zaN c.leaves,.lst (c.deeds.map toD),.lst (c.notes.map zaN)]
theorem zlj:∀ {l m:List Int},l.Nodup→(∀ x∈l,x∈m)→l.length≤m.length
 | [],m,_,_=>Nat.zero_le _
 | x::l,m,nd,h=>by
  obtain⟨n1,n2⟩:=List.nodup_cons.mp nd
  have hx:=h x List.mem_cons_self
  have ih:=zlj (l:=l) (m:=m.erase x) n2 λy hy=>(List.mem_erase_of_ne (λz=>n1 (by rw[←z];exact hy))).mpr (h y (List.mem_cons_of_mem _ hy))
  rw[List.length_erase_of_mem hx] at ih
  have:0<m.length:=List.length_pos_of_mem hx
  rw[List.length_cons]
  omega
def zcy (s:Int) (j:Nat):List Int:=(List.range j).map λ(i:Nat)=>(s+(i:Int)) % 100
theorem zio {s:Int}{j:Nat}(h:j≤100):(zcy s j).Nodup:=by
 unfold zcy List.Nodup
 rw[List.pairwise_map]
 refine List.Pairwise.imp_of_mem (λ{a b} ha hb hab=>?_) List.pairwise_lt_range
 have:=List.mem_range.mp hb
 omega
theorem zlk {s:Int}{j:Nat}{numbers:List Int}(h:j≤100) (hm:∀ x∈zcy s j,x∈numbers):j≤numbers.length:=by
 have:=zlj (zio h) hm
 simpa [zcy] using this
end My

namespace My
open PySem L2 PyProof.Rows
def flds (v1 v2 v3 v4:V):List (Str × V):=putF "notes" v4 (putF "deeds" v3 (putF "leaves" v2 (putF "needs" v1 [])))
theorem zcz (v1 v2 v3 v4:V):(flds v1 v2 v3 v4).lookup ("needs" : Str)=some v1:=by
 unfold flds
 rw[zaK,if_neg (by decide +kernel),zaK,if_neg (by decide +kernel),zaK,if_neg (by decide +kernel),zaK,if_pos rfl]
theorem zcl (v1 v2 v3 v4:V):(flds v1 v2 v3 v4).lookup ("leaves" : Str)=some v2:=by
 unfold flds
 rw[zaK,if_neg (by decide +kernel),zaK,if_neg (by decide +kernel),zaK,if_pos rfl]
theorem zca (v1 v2 v3 v4:V):(flds v1 v2 v3 v4).lookup ("deeds" : Str)=some v3:=by
 unfold flds
 rw[zaK,if_neg (by decide +kernel),zaK,if_pos rfl]
theorem zdy (v1 v2 v3 v4:V):(flds v1 v2 v3 v4).lookup ("notes" : Str)=some v4:=by
 unfold flds
 rw[zaK,if_pos rfl]
theorem za0 {f:Str}{v:V}{fs:List (Str × V)}{n:Nat}(h:fs.length<n):(putF f v fs).length<n+1:=Nat.lt_of_le_of_lt (zdN f v fs) (by omega)
def zll (needs leaves:List (List Int)) (deeds:List D) (notes:List (List (List Int))):List D:=[zaN needs,zaN leaves,.lst deeds,.lst (notes.map zaN)]
def zbL (K:Fg) (cC:Addr) (H:Hp) (p:Addr) (needs leaves:List (List Int)) (deeds:List D) (notes:List (List (List Int))):Prop:=
 ∃ dx w1 w2 w3 w4,H p=some (.ins cC dx (flds w1 w2 w3 w4))∧Rep K H (zaN needs) w1∧Rep K H (zaN leaves) w2∧Rep K H (.lst deeds) w3∧Rep K H (.lst (notes.map zaN)) w4
theorem reps4 {K:Fg}{H:Hp}{d1 d2 d3 d4:D}{w1 w2 w3 w4:V}(h:Reps K H [d1,d2,d3,d4] [w1,w2,w3,w4]):Rep K H d1 w1∧Rep K H d2 w2∧Rep K H d3 w3∧Rep K H d4 w4:=by
 unfold Reps at h
 obtain⟨_,_,e,h1,h⟩:=h
 cases e
 unfold Reps at h
 obtain⟨_,_,e,h2,h⟩:=h
 cases e
 unfold Reps at h
 obtain⟨_,_,e,h3,h⟩:=h
 cases e
 unfold Reps at h
 obtain⟨_,_,e,h4,h⟩:=h
 cases e
 exact⟨h1,h2,h3,h4⟩
theorem zbL.same {K:Fg}{cC:Addr}{H H':Hp}{p:Addr}{needs leaves:List (List Int)}{deeds:List D}{notes:List (List (List Int))}(e:Same H H') (h:zbL K cC H p needs leaves deeds notes):zbL K cC H' p needs leaves deeds notes:=by
 obtain⟨dx,w1,w2,w3,w4,h0,h1,h2,h3,h4⟩:=h
 exact⟨dx,w1,w2,w3,w4,e _ _ h0,Rep.same e _ h1,Rep.same e _ h2,Rep.same e _ h3,Rep.same e _ h4⟩
def zeD (K:Fg) (cC:Addr) (H:Hp) (p:Addr) (needs leaves:List (List Int)) (deeds:List Dd) (notes:List (List (List Int))):Prop:=
 zbL K cC H p needs leaves (deeds.map toD) notes∧∃ dx w1 w2 b3 w4 dvs,H p=some (.ins cC dx (flds w1 w2 (.ref b3) w4))∧H b3=some (.lst dvs)∧zdn H deeds dvs
theorem zeD.same {K:Fg}{cC:Addr}{H H':Hp}{p:Addr}{needs leaves:List (List Int)}{deeds:List Dd}{notes:List (List (List Int))}(e:Same H H') (h:zeD K cC H p needs leaves deeds notes):zeD K cC H' p needs leaves deeds notes:=by
 obtain⟨h0,dx,w1,w2,b3,w4,dvs,h1,h2,h3⟩:=h
 exact⟨h0.same e,dx,w1,w2,b3,w4,dvs,e _ _ h1,e _ _ h2,h3.same e⟩
theorem zbL.nod {K:Fg}{cC:Addr}{H H':Hp}{p:Addr}{needs leaves:List (List Int)}{deeds:List D}{notes:List (List (List Int))}(e:NoD H H') (h:zbL K cC H p needs leaves deeds notes):zbL K cC H' p needs leaves deeds notes:=by
 obtain⟨dx,w1,w2,w3,w4,h0,h1,h2,h3,h4⟩:=h
 exact⟨dx,w1,w2,w3,w4,e _ _ h0 (λ_ z=>by cases z),Rep.sq e.sq _ h1,Rep.sq e.sq _ h2,Rep.sq e.sq _ h3,Rep.sq e.sq _ h4⟩
end My

namespace My
open PySem L2 PyProof.Rows
theorem zcg {n:Nat}(h:n≤1000):n<sizeLine:=Nat.lt_of_le_of_lt h (by decide)
structure Cr.Nine (c:Cr):Prop where
 n9:∀ l∈c.needs,l.length=9
 l9:∀ l∈c.leaves,l.length=9
 d9:∀ d∈c.deeds,zcs d
 o9:∀ ls∈c.notes,ls.length≤100∧∀ l∈ls,l.length=9
 n:c.needs.length≤100
 l:c.leaves.length≤100
 d:c.deeds.length≤100
 o:c.notes.length≤100
def Cr.right (c:Cr):Bool:=zcV c.needs c.leaves c.deeds c.notes
structure Cr.Rt (c:Cr):Prop where
 nine:c.Nine
 r:c.right=true
theorem Cr.Rt.parts {c:Cr}(h:c.Rt):c.needs.length≤2∧c.leaves.length≤2∧(1≤c.deeds.length∧c.deeds.length≤8)∧c.notes.length=c.deeds.length∧(∀ ls∈c.notes,ls.length≤2)∧∀ d∈c.deeds,zaO (c.deeds.length:Int) d=true:=by
 have r:zcV c.needs c.leaves c.deeds c.notes=true:=h.r
 simp only[zcV,zgl,zdT,zdU,zc0,btw,Bool.and_eq_true,decide_eq_true_eq,List.all_map,List.all_eq_true,Function.comp_apply,id_eq] at r
 obtain⟨⟨⟨a1,_⟩,a2,_⟩,⟨⟨b1,b2⟩,b3⟩,c1,c2⟩:=r
 exact⟨by omega,by omega,⟨by omega,by omega⟩,by omega,λls hl=>by have:=(c2 ls hl).1;omega,b3⟩
theorem ziq {spots:List Nat}{l:List Int}(h:zbX spots l=true):Sm l:=λn hn=>by
 simp only[zbX,zcx,btw,Bool.and_eq_true,decide_eq_true_eq,List.all_map,List.all_eq_true,Function.comp_apply,id_eq] at h
 have:=h.1 n hn
 constructor <;> omega
def zbm (cC:Addr) (H:Hp) (p:Addr) (c:Cr) (fp:List Addr):Prop:=∃ dx w1 w2 w3 w4 f,fp=p::f∧H p=some (.ins cC dx (flds w1 w2 w3 w4))∧zaj H (zll c.needs c.leaves (c.deeds.map toD) c.notes) [w1,w2,w3,w4] f
theorem zbm.at {K:Fg}{cC:Addr}{H:Hp}{p:Addr}{c:Cr}{fp:List Addr}(h:zbm cC H p c fp):zbL K cC H p c.needs c.leaves (c.deeds.map toD) c.notes:=by
 obtain⟨dx,w1,w2,w3,w4,f,rfl,hp,r⟩:=h
 obtain⟨h1,h2,h3,h4⟩:=reps4 (zaj.reps (K:=K) _ r)
 exact⟨dx,w1,w2,w3,w4,hp,h1,h2,h3,h4⟩
theorem zbm.t {K:Fg}{cC:Addr}{H:Hp}{p:Addr}{c:Cr}{fp:List Addr}(h9:∀ d∈c.deeds,zcs d) (h:zbm cC H p c fp):zeD K cC H p c.needs c.leaves c.deeds c.notes:=by
 refine⟨h.at,?_⟩
 obtain⟨dx,w1,w2,w3,w4,f,rfl,hp,r⟩:=h
 obtain⟨x1,x2,x3,x4,f1,f2,f3,f4,e,g1,g2,g3,g4⟩:=zi9 r
 cases e
 obtain⟨b3,dvs',r3,rfl,h3',z3⟩:=RepF.lst_out g3
 refine⟨dx,w1,w2,b3,w4,dvs',hp,h3',by simpa using z3.length,λi d x q1 q2=>?_⟩
 obtain⟨f,hf⟩:=zaj.item z3 i (toD d) x (by rw[zgm,q1];rfl) q2
 exact zfk (zc2 (h9 d (zmg q1))) hf
theorem zbm.has {cC:Addr}{H:Hp}{p:Addr}{c:Cr}{fp:List Addr}(h:zbm cC H p c fp):∀ b∈fp,∃ o,H b=some o:=λb hb=>by
 obtain⟨dx,w1,w2,w3,w4,f,rfl,hp,r⟩:=h
 rcases List.mem_cons.mp hb with rfl | hb
 ·exact⟨_,hp⟩
 ·exact zaj.has _ r b hb
theorem zbm.hasN {cC:Addr}{H:Hp}{p:Addr}{c:Cr}{fp:List Addr}(h:zbm cC H p c fp):∀ b∈fp,∃ o,H b=some o∧∀ kvs,o≠HO.dK kvs:=λb hb=>by
 obtain⟨dx,w1,w2,w3,w4,f,rfl,hp,r⟩:=h
 rcases List.mem_cons.mp hb with rfl | hb
 ·exact⟨_,hp,λ_ z=>by cases z⟩
 ·obtain⟨xs,e⟩:=zaj.hasL _ r b hb
  exact⟨_,e,λ_ z=>by cases z⟩
theorem zbm.frame {cC:Addr}{H H':Hp}{p:Addr}{c:Cr}{fp:List Addr}(tk:Tups H H') (k:∀ b∈fp,∀ o,H b=some o→H' b=some o) (h:zbm cC H p c fp):zbm cC H' p c fp:=by
 obtain⟨dx,w1,w2,w3,w4,f,rfl,hp,r⟩:=h
 refine⟨dx,w1,w2,w3,w4,f,rfl,k p List.mem_cons_self _ hp,zaj.frame tk _ (λb hb=>?_) r⟩
 obtain⟨o,ho⟩:=zaj.has _ r b hb
 rw[ho]
 exact k b (List.mem_cons_of_mem _ hb) o ho
theorem zbm.same {cC:Addr}{H H':Hp}{p:Addr}{c:Cr}{fp:List Addr}(e:Same H H') (h:zbm cC H p c fp):zbm cC H' p c fp:=h.frame e.tups λb _ o ho=>e b o ho
theorem zbm.nod {cC:Addr}{H H':Hp}{p:Addr}{c:Cr}{fp:List Addr}(e:NoD H H') (h:zbm cC H p c fp):zbm cC H' p c fp:=by
 obtain⟨dx,w1,w2,w3,w4,f,rfl,hp,r⟩:=h
 exact⟨dx,w1,w2,w3,w4,f,rfl,e _ _ hp (λ_ z=>by cases z),zaj.sq e.sq _ r⟩
def CrIn (cC:Addr) (H:Hp) (cr:Int→Cr) (fp:List Addr) (m:Int) (v:V):Prop:=∃ p f,v=.ref p∧zbm cC H p (cr m) f∧∀ b∈f,b∈fp
structure HallAt (cH cC:Addr) (H:Hp) (h la va:Addr) (ks:List Int) (cr:Int→Cr) (vs:List Int) (fp:List Addr):Prop where
 ins:∃ dx,H h=some (.ins cH dx (hfl la va))
 laid:∃ kvs,H la=some (.dK kvs)∧KVs (CrIn cC H cr fp) kvs ks
 vou:∃ kvs,H va=some (.dK kvs)∧KVs (λ_ v=>v=.bl true) kvs vs
 ne:la≠va
 rt:∀ m∈ks,(cr m).Rt
 few:ks.length≤60
 sub:∀ m∈vs,m∈ks
 has:∀ b∈fp,∃ o,H b=some o∧∀ kvs,o≠HO.dK kvs
section
variable {cH cC : Addr} {H H' : Hp} {h la va : Addr} {ks vs : List Int} {cr : Int → Cr} {fp : List Addr}
theorem HallAt.frame (A:HallAt cH cC H h la va ks cr vs fp) (tk:Tups H H') (k:∀ b,b∈h::la::va::fp→∀ o,H b=some o→H' b=some o):HallAt cH cC H' h la va ks cr vs fp where
 ins:=by obtain⟨dx,e⟩:=A.ins;exact⟨dx,k _ (by simp) _ e⟩
 laid:=by
  obtain⟨kvs,e,q⟩:=A.laid
  exact⟨kvs,k _ (by simp) _ e,q.mono λm v ⟨p,f,e1,e2,e3⟩=>⟨p,f,e1,e2.frame tk λb hb o ho=>k b (by simp[e3 b hb]) o ho,e3⟩⟩
 vou:=by obtain⟨kvs,e,q⟩:=A.vou;exact⟨kvs,k _ (by simp) _ e,q⟩
 ne:=A.ne
 rt:=A.rt
 few:=A.few
 sub:=A.sub
 has:=λb hb=>by obtain⟨o,e,n⟩:=A.has b hb;exact⟨o,k b (by simp[hb]) o e,n⟩
theorem HallAt.same (A:HallAt cH cC H h la va ks cr vs fp) (e:Same H H'):HallAt cH cC H' h la va ks cr vs fp:=A.frame e.tups λb _ o ho=>e b o ho
theorem HallAt.putV {kvs:List (Key × V)}{vs':List Int}(A:HallAt cH cC H h la va ks cr vs fp) (q:KVs (λ_ v=>v=.bl true) kvs vs') (s:∀ m∈vs',m∈ks):HallAt cH cC (upd H va (.dK kvs)) h la va ks cr vs' fp where
 ins:=by
  obtain⟨dx,z⟩:=A.ins
  obtain⟨kv0,hv,_⟩:=A.vou
  exact⟨dx,by rw[zak (zjs z hv (by intro w;cases w))];exact z⟩
 laid:=by
  obtain⟨kv0,hv,_⟩:=A.vou
  obtain⟨kl,z,q⟩:=A.laid
  exact⟨kl,by rw[zak A.ne];exact z,q.mono λm v ⟨p,f,e1,e2,e3⟩=>⟨p,f,e1,e2.nod (zep hv),e3⟩⟩
 vou:=⟨kvs,zaf,q⟩
 ne:=A.ne
 rt:=A.rt
 few:=A.few
 sub:=s
 has:=λb hb=>by
  obtain⟨kv0,hv,_⟩:=A.vou
  obtain⟨o,z,n⟩:=A.has b hb
  exact⟨o,zep hv b o z n,n⟩
theorem HallAt.dom (A:HallAt cH cC H h la va ks cr vs fp):∀ b,b∈h::la::va::fp→∃ o,H b=some o:=λb hb=>by
 simp only[List.mem_cons] at hb
 rcases hb with rfl | rfl | rfl | hb
 ·obtain⟨dx,e⟩:=A.ins;exact⟨_,e⟩
 ·obtain⟨kvs,e,_⟩:=A.laid;exact⟨_,e⟩
 ·obtain⟨kvs,e,_⟩:=A.vou;exact⟨_,e⟩
 ·obtain⟨o,e,_⟩:=A.has b hb;exact⟨o,e⟩
theorem HallAt.nd (A:HallAt cH cC H h la va ks cr vs fp):ks.Nodup:=by obtain⟨_,_,q⟩:=A.laid;exact q.2.1
end
theorem OffA.putDict {H:Hp}{S:List Addr}{H':Hp}(e:OffA S H H') {T:List Addr}(h:∀ b∈S,b∈T):OffA T H H':=λb o n z=>e b o (λw=>n (h b w)) z
theorem HallAt.start {cH cC:Addr}{H:Hp}{h la va dx:Addr}{cr:Int→Cr}(h1:H h=some (.ins cH dx (hfl la va))) (h2:H la=some (.dK [])) (h3:H va=some (.dK [])) (ne:la≠va):HallAt cH cC H h la va [] cr [] [] where
 ins:=⟨dx,h1⟩
 laid:=⟨[],h2,KVs.nil⟩
 vou:=⟨[],h3,KVs.nil⟩
 ne:=ne
 rt:=λm hm=>by cases hm
 few:=Nat.zero_le _
 sub:=λm hm=>by cases hm
 has:=λm hm=>by cases hm
theorem zln {H H1:Hp}{ha dx:Addr}{u x:HO}(ha0:H ha=none) (dx0:H dx=none) (o1:OffA [ha] (upd (upd H dx u) ha x) H1):Same H H1:=λb o e=>o1 b o (by simp[zam e ha0]) (by rw[zak (zam e ha0),zak (zam e dx0)];exact e)
theorem HallAt.congr {cH cC:Addr}{H:Hp}{h la va:Addr}{ks vs:List Int}{cr cr':Int→Cr}{fp:List Addr}(A:HallAt cH cC H h la va ks cr vs fp) (e:∀ m∈ks,cr m=cr' m):HallAt cH cC H h la va ks cr' vs fp where
 ins:=A.ins
 laid:=by
  obtain⟨kvs,h1,q⟩:=A.laid
  refine⟨kvs,h1,q.1,q.2.1,λm hm=>?_⟩
  obtain⟨v,e1,p,f,e2,e3,e4⟩:=q.2.2 m hm
  exact⟨v,e1,p,f,e2,by rw[←e m hm];exact e3,e4⟩
 vou:=A.vou
 ne:=A.ne
 rt:=λm hm=>by rw[←e m hm];exact A.rt m hm
 few:=A.few
 sub:=A.sub
 has:=A.has
def zdo (ks:List Int) (cr:Int→Cr) (n:Int):List Int:=if n∈ks then zcI (cr n).deeds else []
def setC (cr:Int→Cr) (n:Int) (c:Cr):Int→Cr:=λm=>if m=n then c else cr m
theorem zfp:∀ {a b:List (List Int)},zbF (a.map nums) (b.map nums)=decide (a=b)
 | [],[]=>by unfold List.map zbF;rfl
 | [],_::_=>by rw[zmc];unfold List.map zbF;simp
 | _::_,[]=>by rw[zmc];unfold List.map zbF;simp
 | m::ms,n::ns=>by
  rw[zmc,zmc]
  unfold zbF nums pyEq
  rw[zfp,zgi,Bool.eq_iff_iff]
  simp
theorem zgp {a b:List (List Int)} : pyEq (zaN a) (zaN b)=decide (a=b):=by
 unfold zaN pyEq
 exact zfp
end My

namespace My
open PySem L2 PyProof.Rows
theorem zpM {K:Fg}{H:Hp}{Q:VK}{n:Int}{a:Addr}{l:List Int}(h:SqL K H a (l.map V.int)) (q:Q (.bl (decide (n∈l))) H):rIn K false (.int n) (.ref a) H Q:=i_in (.inl h) rfl (zjZ _) (by rw[zjf];exact q)
theorem zfq {l:List Int}{i:Nat}{m:Int}(nd:l.Nodup) (e:l[i]?=some m):m∉l.take i:=by
 obtain⟨hi,rfl⟩:=zge.mp e
 intro z
 rw[←List.take_append_drop i l,List.drop_eq_getElem_cons hi] at nd
 exact (List.nodup_append.mp nd).2.2 _ z _ List.mem_cons_self rfl
theorem zir {a b c d e f g:Int}(h:∀ x∈[a,b,c,d,e,f,g],-1000000000≤x∧x≤1000000000):zbX [7,8] [a,b,c,d,e,f,g,0,0]=true:=by
 simp only[List.mem_cons,List.not_mem_nil,or_false,forall_eq_or_imp,forall_eq] at h
 simp[zbX,zcx,btw]
 omega
theorem zis (c:Int):zbX [7,8] (zgL c)=true:=by
 refine zir (a:=number c (5 * (0+((0:Nat):Int)))) (b:=number c (5 * (0+((1:Nat):Int)))) (c:=number c (5 * (0+((2:Nat):Int)))) (d:=number c (5 * (0+((3:Nat):Int)))) (e:=number c (5 * (0+((4:Nat):Int)))) (f:=number c (5 * (0+((5:Nat):Int)))) (g:=number c (5 * (0+((6:Nat):Int)))) λx hx=>?_
 simp only[List.mem_cons,List.not_mem_nil,or_false] at hx
 rcases hx with rfl | rfl | rfl | rfl | rfl | rfl | rfl <;> exact zcU _ _
theorem ze0 {c n:Int}(hn:0≤n):zaO n (zd6 c n)=true∧zcs (zd6 c n):=by
 unfold zd6
 split
 ·have k1:=za3 (c:=c) (k:=30) (m:=n+1) (by omega)
  have k2:=zcw (c:=c) (k:=30) (m:=n+1) (by omega)
  refine⟨?_,zgM _⟩
  simp only[zaO,zis,btw,Bool.true_and,Bool.and_eq_true,decide_eq_true_eq]
  omega
 split
 ·refine⟨?_,zgM _⟩
  simp only[zaO,zbh,zis,btw,Bool.and_true,Bool.and_eq_true,decide_eq_true_eq]
  omega
 ·have k1:=zcU (c / 5) 31
  have k2:=zcU (c / 7) 32
  refine⟨?_,trivial⟩
  simp only[zaO,zbh,zcx,btw,Bool.and_eq_true,decide_eq_true_eq]
  split <;> omega
theorem zlo {l:List Int}{i:Nat}(h:i<l.length):l.getD i 0∈l:=by
 rw[List.getD_eq_getElem?_getD,List.getElem?_eq_getElem h]
 exact List.getElem_mem h
theorem znh {c:Int}{numbers:List Int}(h:0<numbers.length):atN c numbers<numbers.length:=by
 have a1:=Int.emod_nonneg (c / 48) (show ((numbers.length:Nat):Int)≠0 by omega)
 have a2:=Int.emod_lt_of_pos (c / 48) (show (0:Int)<(numbers.length:Int) by omega)
 unfold atN
 omega
theorem zit {c n:Int}{numbers kinds:List Int}(hn:0≤n) (h0:0<numbers.length) (nb:∀ m∈numbers,0≤m∧m<100):zaO n (zdI c n numbers kinds)=true∧zcs (zdI c n numbers kinds)∧∀ m,zck (zdI c n numbers kinds)=some m→m∈numbers:=by
 have hm:=zfm c
 have hl:∀ {x y:Int},0≤x∧x≤1→0≤y∧y≤1→zbX [7,8] [za8 c,x,y,0,0,0,0,0,0]=true:=λ{x y} hx hy=>zir λz hz=>by
  simp only[List.mem_cons,List.not_mem_nil,or_false] at hz
  rcases hz with rfl | rfl | rfl | rfl | rfl | rfl | rfl <;> omega
 have mm:=zlo (znh (c:=c) h0)
 have mb:=nb _ mm
 unfold zdI
 split
 ·refine⟨?_,rfl,λm e=>by cases e⟩
  simp only[zaO,zbh,btw,hl (x:=1) (y:=1) (by omega) (by omega),Bool.and_true,Bool.and_eq_true,decide_eq_true_eq]
  omega
 split
 ·refine⟨?_,rfl,λm e=>by cases e⟩
  simp only[zaO,zbh,btw,hl (x:=c / 24 % 2) (y:=1 - c / 24 % 2) (by omega) (by omega),Bool.and_true,Bool.and_eq_true,decide_eq_true_eq]
  omega
 split
 ·refine⟨?_,rfl,λm e=>by cases e⟩
  simp only[zaO,zbh,btw,hl (x:=1) (y:=c / 48 % 2) (by omega) (by omega),Bool.true_and,Bool.and_eq_true,decide_eq_true_eq]
  omega
 split
 ·refine⟨?_,trivial,λm e=>by cases e⟩
  simp only[zaO,zbh,zcx,btw,Bool.and_eq_true,decide_eq_true_eq]
  split <;> omega
 split
 ·refine⟨?_,rfl,λm e=>by cases e⟩
  simp only[zaO,hl (x:=1) (y:=c / 24 % 2) (by omega) (by omega)]
 split
 ·split
  ·refine⟨?_,trivial,λm e=>by injection e with e;rw[←e];exact mm⟩
   simp only[zaO,zbh,btw,List.all_cons,List.all_nil,id,Bool.and_true,Bool.and_eq_true,Bool.not_eq_true',decide_eq_true_eq,decide_eq_false_iff_not]
   omega
  ·refine⟨?_,trivial,λm e=>by injection e with e;rw[←e];exact mm⟩
   simp only[zaO,zbh,btw,List.all_cons,List.all_nil,id,Bool.and_true,Bool.and_eq_true,Bool.not_eq_true',decide_eq_true_eq,decide_eq_false_iff_not]
   omega
 ·refine⟨(ze0 hn).1,(ze0 hn).2,λm e=>?_⟩
  unfold zd6 at e
  split at e
  ·cases e
  split at e <;> cases e
theorem zhE {c n:Int}{numbers kinds:List Int}(hn:0≤n) (h0:0<numbers.length) (nb:∀ m∈numbers,0≤m∧m<100):zaO n (zcJ c n numbers kinds)=true∧zcs (zcJ c n numbers kinds)∧∀ m,zck (zcJ c n numbers kinds)=some m→m∈numbers:=by
 have hm:=zfm c
 have hl:∀ {x:Int},-1≤x∧x≤1→zbX [7,8] [za8 c,1,0,0,0,x,0,0,0]=true:=λ{x} hx=>zir λz hz=>by
  simp only[List.mem_cons,List.not_mem_nil,or_false] at hz
  rcases hz with rfl | rfl | rfl | rfl | rfl | rfl | rfl <;> omega
 have mm:=zlo (znh (c:=c) h0)
 have mb:=nb _ mm
 unfold zcJ
 split
 ·refine⟨?_,rfl,λm e=>by cases e⟩
  simp only[zaO,zbh,btw,hl (x:=0) (by omega),Bool.and_true,Bool.and_eq_true,decide_eq_true_eq]
  omega
 split
 ·refine⟨?_,rfl,λm e=>by cases e⟩
  simp only[zaO,zbh,btw,hl (x:=0) (by omega),Bool.true_and,Bool.and_eq_true,decide_eq_true_eq]
  omega
 split
 ·refine⟨?_,rfl,λm e=>by cases e⟩
  simp only[zaO,hl (x:=-(c / 24 % 2)) (by omega)]
 split
 ·refine⟨?_,zgM _,λm e=>by cases e⟩
  simp only[zaO,zbh,btw,zis,Bool.and_true,Bool.and_eq_true,decide_eq_true_eq]
  omega
 split
 ·split
  ·refine⟨?_,trivial,λm e=>by injection e with e;rw[←e];exact mm⟩
   simp only[zaO,zbh,btw,List.all_cons,List.all_nil,id,Bool.and_true,Bool.and_eq_true,Bool.not_eq_true',decide_eq_true_eq,decide_eq_false_iff_not]
   omega
  ·refine⟨?_,trivial,λm e=>by injection e with e;rw[←e];exact mm⟩
   simp only[zaO,zbh,btw,List.all_cons,List.all_nil,id,Bool.and_true,Bool.and_eq_true,Bool.not_eq_true',decide_eq_true_eq,decide_eq_false_iff_not]
   omega
 ·refine⟨(ze0 hn).1,(ze0 hn).2,λm e=>?_⟩
  unfold zd6 at e
  split at e
  ·cases e
  split at e <;> cases e
theorem zfr {k c n:Int}{numbers kinds:List Int}(hn:0≤n) (h0:0<numbers.length) (nb:∀ m∈numbers,0≤m∧m<100):zaO n (zgN k c n numbers kinds)=true∧zcs (zgN k c n numbers kinds)∧∀ m,zck (zgN k c n numbers kinds)=some m→m∈numbers:=by
 unfold zgN
 split
 ·exact zit hn h0 nb
 ·exact zhE hn h0 nb
structure HallParts (many size:Int) (numbers kinds:List Int) (cells:Nat→List Int):Prop where
 n:numbers.length=many.toNat
 k:kinds.length=many.toNat
 nd:numbers.Nodup
 nb:∀ n∈numbers,0≤n∧n<100
 kb:∀ k∈kinds,k=0∨k=1
 c:∀ i,1≤(cells i).length∧(cells i).length≤size.toNat
def crOf (numbers kinds:List Int) (cells:Nat→List Int) (k:Nat):Cr:=crK (kinds.getD k 0) (cells k) numbers kinds
theorem zfs (k:Int):zgl (zb9 k).1 (zb9 k).2=true∧(∀ l∈(zb9 k).1,l.length=9)∧(∀ l∈(zb9 k).2,l.length=9)∧(zb9 k).1.length≤2∧(zb9 k).2.length≤2:=by
 unfold zb9
 split <;> decide
theorem zft (k:Int):zc0 [7,8] (zdJ k)=true∧(∀ l∈zdJ k,l.length=9)∧(zdJ k).length≤2:=by
 unfold zdJ
 split <;> decide
theorem rt_of {k:Int}{ds:List Dd}{no:List (List (List Int))}(h1:1≤ds.length) (h8:ds.length≤8) (hd:∀ d∈ds,zaO (ds.length:Int) d=true∧zcs d) (hn:no.length=ds.length) (ho:∀ ls∈no,ls=zdJ k):Cr.Rt ⟨(zb9 k).1,(zb9 k).2,ds,no⟩ where
 nine:=⟨(zfs k).2.1,(zfs k).2.2.1,λd m=>(hd d m).2,λls m=>by rw[ho ls m];exact⟨by have:=(zft k).2.2;omega,(zft k).2.1⟩,by have:=(zfs k).2.2.2.1;show (zb9 k).1.length≤100;omega,by have:=(zfs k).2.2.2.2;show (zb9 k).2.length≤100;omega,by show ds.length≤100;omega,by show no.length≤100;omega⟩
 r:=by
  show zcV (zb9 k).1 (zb9 k).2 ds no=true
  unfold zcV
  rw[(zfs k).1,Bool.true_and]
  unfold zdT zdU btw
  simp only[Bool.and_eq_true,decide_eq_true_eq,List.all_map,List.all_eq_true,Function.comp_apply,id_eq]
  refine⟨⟨⟨by omega,by omega⟩,λd m=>(hd d m).1⟩,by omega,λls m=>?_⟩
  rw[ho ls m]
  exact (zft k).1
theorem HallParts.rt {many size:Int}{numbers kinds:List Int}{cells:Nat→List Int}(h:HallParts many size numbers kinds cells) (hm:1≤many) (hs:size≤8) (k:Nat):(crOf numbers kinds cells k).Rt:=by
 have hc:=h.c k
 have hn:=h.n
 refine rt_of (by simp[hc.1]) (by simp;omega) (λd m=>?_) (by simp) (λls m=>?_)
 ·obtain⟨c,_,rfl⟩:=zmm.mp m
  rw[zlm]
  have:=zfr (k:=kinds.getD k 0) (c:=c) (n:=(cells k).length) (kinds:=kinds) (by omega) (show 0<numbers.length by omega) h.nb
  exact⟨this.1,this.2.1⟩
 ·obtain⟨c,_,rfl⟩:=zmm.mp m
  rfl
theorem HallParts.calls {many size:Int}{numbers kinds:List Int}{cells:Nat→List Int}(h:HallParts many size numbers kinds cells) (hm:1≤many) (k:Nat):∀ m∈zcI (crOf numbers kinds cells k).deeds,m∈numbers:=λm mm=>by
 have hn:=h.n
 obtain⟨d,hd,e⟩:=zjY mm
 obtain⟨c,_,rfl⟩:=zmm.mp hd
 exact (zfr (k:=kinds.getD k 0) (c:=c) (n:=(cells k).length) (kinds:=kinds) (by omega) (show 0<numbers.length by omega) h.nb).2.2 m e
theorem zhD.nod {H H':Hp}{v:V}{needs leaves:List (List Int)}{deeds:List Dd}{notes:List (List (List Int))}(e:NoD H H') (h:zhD H v needs leaves deeds notes):zhD H' v needs leaves deeds notes:=by
 obtain⟨pa,y1,y2,a3,a4,dvs,nvs,rfl,h1,h2,h3,h4,h5,h6,h7⟩:=h
 have el:∀ {b xs},H b=some (.lst xs)→H' b=some (.lst xs):=λz=>e _ _ z (λ_ w=>by cases w)
 exact⟨pa,y1,y2,a3,a4,dvs,nvs,rfl,el h1,h2.nod e,h3.nod e,el h4,el h5,R2.mono h6 λ_ _ z=>z.sq e.sq,h7.mono λ_ _ ⟨b,e1,e2⟩=>⟨b,e1,e2.nod e⟩⟩
def Cr.at (c:Cr) (H:Hp) (v:V):Prop:=zhD H v c.needs c.leaves c.deeds c.notes
def zcA (H:Hp) (pl:Addr) (ps:List (Int × Cr)):Prop:=∃ vs,H pl=some (.lst vs)∧R2 (λp v=>∃ T w,v=.ref T∧H T=some (.tup [.int p.1,w])∧p.2.at H w) ps vs
theorem zcA.nod {H H':Hp}{pl:Addr}{ps:List (Int × Cr)}(e:NoD H H') (h:zcA H pl ps):zcA H' pl ps:=by
 obtain⟨vs,h1,h2⟩:=h
 exact⟨vs,e _ _ h1 (λ_ w=>by cases w),h2.mono λp v ⟨T,w,e1,e2,e3⟩=>⟨T,w,e1,e _ _ e2 (λ_ w=>by cases w),e3.nod e⟩⟩
theorem zlp {H:Hp}{c:Cr}{v:V}{f:List Addr}(h9:∀ d∈c.deeds,zcs d) (h:RepF H (crD c) v f):c.at H v:=by
 unfold crD RepF at h
 obtain⟨pa,pvs,fp,rfl,rfl,pa1,pr⟩:=h
 obtain⟨x1,x2,x3,x4,f1,f2,f3,f4,rfl,g1,g2,g3,g4⟩:=zi9 pr
 obtain⟨y1,rfl,hy1⟩:=RepF.ls g1
 obtain⟨y2,rfl,hy2⟩:=RepF.ls g2
 obtain⟨b3,dvs,r3,rfl,h3,z3⟩:=RepF.lst_out g3
 obtain⟨b4,nvs,r4,rfl,h4,z4⟩:=RepF.lst_out g4
 refine⟨pa,y1,y2,b3,b4,dvs,nvs,rfl,pa1,hy1,hy2,h3,h4,⟨by simpa using z3.length,λi d x e1 e2=>?_⟩,⟨by simpa using z4.length,λi ls x e1 e2=>?_⟩⟩
 ·obtain⟨f,hf⟩:=zaj.item z3 i (toD d) x (by rw[zgm,e1];rfl) e2
  exact zfk (zc2 (h9 d (zmg e1))) hf
 ·obtain⟨f,hf⟩:=zaj.item z4 i (zaN ls) x (by rw[zgm,e1];rfl) e2
  exact RepF.ls hf
def zeE (p:Int × Cr):D:=.tup [.int p.1,crD p.2]
theorem zjj {H:Hp}{p:Int × Cr}{v:V}{f:List Addr}(h:RepF H (zeE p) v f):∃ T w,v=.ref T∧H T=some (.tup [.int p.1,w])∧RepF H (crD p.2) w f:=by
 unfold zeE RepF at h
 obtain⟨T,xs,rfl,hT,hx⟩:=h
 unfold zaj at hx
 obtain⟨x1,r1,f1,g1,rfl,rfl,h1,hx⟩:=hx
 unfold zaj at hx
 obtain⟨x2,r2,f2,g2,rfl,rfl,h2,hx⟩:=hx
 unfold zaj at hx
 obtain⟨rfl,rfl⟩:=hx
 unfold RepF at h1
 obtain⟨rfl,rfl⟩:=h1
 exact⟨T,x2,rfl,hT,by simpa using h2⟩
theorem zfu {H:Hp}{ps:List (Int × Cr)}{vs:List V}{fp:List Addr}(h9:∀ p∈ps,∀ d∈p.2.deeds,zcs d) (h:zaj H (ps.map zeE) vs fp):R2 (λp v=>∃ T w,v=.ref T∧H T=some (.tup [.int p.1,w])∧p.2.at H w) ps vs:=⟨by simpa using h.length,λi p v e1 e2=>by
 obtain⟨f,hf⟩:=zaj.item h i (zeE p) v (by rw[zgm,e1];rfl) e2
 obtain⟨T,w,a1,a2,a3⟩:=zjj hf
 exact⟨T,w,a1,a2,zlp (h9 p (zmg e1)) a3⟩⟩
theorem zlq {H H0:Hp}{v:V}{ps:List (Int × Cr)}(h9:∀ p∈ps,∀ d∈p.2.deeds,zcs d) (n:New H0 H (.lst (ps.map zeE)) v):∃ pl,v=.ref pl∧H0 pl=none∧zcA H pl ps:=by
 obtain⟨pl,vs,fp,rfl,p0,p1,pr,_⟩:=New.lst_out n
 exact⟨pl,rfl,p0,vs,p1,zfu h9 pr⟩
theorem R2.set {α:Type}{P:α→V→Prop}{as:List α}{xs:List V}(h:R2 P as xs) (i:Nat) {a:α}{x:V}(p:P a x):R2 P (as.set i a) (xs.set i x):=⟨by simp[h.1],λj b y e1 e2=>by
 rw[List.getElem?_set] at e1 e2
 by_cases z:i=j
 ·rw[if_pos z] at e1 e2
  split at e1
  ·split at e2
   ·cases e1;cases e2;exact p
   ·cases e2
  ·cases e1
 ·rw[if_neg z] at e1 e2
  exact h.2 j b y e1 e2⟩
theorem zbC.updL {H:Hp}{a:Addr}{o:HO}{ys:List V}{d:Dd}{x:V}(h:zbC H (toD d) x) (l9:zcs d) (ha:H a=some (.lst ys)) (hy:∀ y∈ys,∀ i,y≠V.int i):zbC (upd H a o) (toD d) x:=by
 obtain⟨t,xs,ds,ed,rfl,ht,l1,l2,hp⟩:=h
 obtain⟨ds',ed',_,sim⟩:=zc2 l9
 rw[ed] at ed'
 injection ed' with ed'
 subst ed'
 refine⟨t,xs,ds,ed,rfl,by rw[zak (zjs ht ha (by intro z;cases z))];exact ht,l1,l2,λi dd y e1 e2=>?_⟩
 rcases hp i dd y e1 e2 with z | z | ⟨b,l,e3,e4,hb⟩ | ⟨b,u,w,e3,e4,hb⟩
 ·exact .inl z
 ·exact .inr (.inl z)
 ·refine .inr (.inr (.inl ⟨b,l,e3,e4,?_⟩))
  rw[zak]
  ·exact hb
  ·rintro rfl
   rw[ha] at hb
   have eb:ys=l.map V.int:=by injection hb with hb;injection hb
   rcases sim dd (zmg e1) with ⟨_,e5⟩ | ⟨_,e5⟩ | ⟨l',h9,e5⟩ | ⟨_,_,e5⟩
   ·rw[e3] at e5;cases e5
   ·rw[e3] at e5;cases e5
   ·rw[e3] at e5
    injection e5 with e5
    have:=zeY e5
    subst this
    cases l with
    | nil=>simp at h9
    | cons k r=>exact hy (.int k) (by rw[eb];simp) k rfl
   ·rw[e3] at e5;cases e5
 ·refine .inr (.inr (.inr ⟨b,u,w,e3,e4,?_⟩))
  rw[zak (zjs hb ha (by intro z;cases z))]
  exact hb
theorem zj0 {H:Hp}{ds:List Dd}{vs:List V}{f:List Addr}(h:zaj H (ds.map toD) vs f):∀ y∈vs,∀ i,y≠V.int i:=λy hy i z=>by
 obtain⟨d,hd,f',hf⟩:=zaj.mem h y hy
 obtain⟨d',_,rfl⟩:=zmm.mp hd
 subst z
 cases d' <;> (unfold toD RepF at hf;obtain⟨_,_,e,_⟩:=hf;cases e)
theorem zj1 {H0 H:Hp}{pl:Addr}{n:Int}{c:Cr}{ps:List (Int × Cr)}(h9:∀ p∈(n,c)::ps,∀ d∈p.2.deeds,zcs d) (nw:New H0 H (.lst (((n,c)::ps).map zeE)) (.ref pl)) :
  ∃ (T pa y1 y2 a3 a4:Addr) (vs dvs:List V),H pl=some (.lst (.ref T::vs))∧H T=some (.tup [.int n,.ref pa])∧H pa=some (.lst [.ref y1,.ref y2,.ref a3,.ref a4])∧H a3=some (.lst dvs)∧dvs.length=c.deeds.length∧H0 a3=none∧
   ∀ (H':Hp) (i:Nat) (d:Dd) (x:V),Same H H'→zbC H' (toD d) x→zcs d→zcA (upd H' a3 (.lst (dvs.set i x))) pl ((n,{c with deeds:=c.deeds.set i d})::ps):=by
 obtain⟨pl',vs0,fp,e,p0,p1,pr,nd,npl,ff⟩:=New.lst_out nw
 cases e
 rw[zmc] at pr
 unfold zaj at pr
 obtain⟨v,vs,f,g,rfl,rfl,hr,hrest⟩:=pr
 obtain⟨T,w,rfl,hT,hc⟩:=zjj hr
 have hc0:=hc
 unfold crD RepF at hc
 obtain⟨pa,pvs,fq,rfl,rfl,pa1,pq⟩:=hc
 obtain⟨x1,x2,x3,x4,_,_,_,_,rfl,_,_,_,_⟩:=zi9 pq
 obtain⟨f1,f2,f3,f4,rfl,g1,g2,g3,g4⟩:=zaj.out4 pq
 obtain⟨y1,rfl,_⟩:=RepF.ls g1
 obtain⟨y2,rfl,_⟩:=RepF.ls g2
 have g3':=g3
 unfold RepF at g3'
 obtain⟨a3,dvs,r3,rfl,rfl,h3,z3⟩:=g3'
 obtain⟨a4,nvs,r4,rfl,h4,z4⟩:=RepF.lst_out g4
 have lz:=z3.length
 rw[zlm] at lz
 refine⟨T,pa,y1,y2,a3,a4,vs,dvs,p1,hT,pa1,h3,lz.symm,ff a3 (by simp),λH' i d x s hx h9d=>?_⟩
 -- a3 is in no other part
 have nd1:=(List.nodup_append.mp nd).1
 have off:a3∉g:=λz=>(List.nodup_append.mp nd).2.2 a3 (by simp) a3 z rfl
 obtain⟨n1,nd2⟩:=List.nodup_cons.mp nd1
 have npa:a3≠pa:=λz=>n1 (by rw[←z];simp)
 have o1:a3∉f1:=λz=>(List.nodup_append.mp nd2).2.2 a3 z a3 (by simp) rfl
 have nd3:=(List.nodup_append.mp nd2).2.1
 have o2:a3∉f2:=λz=>(List.nodup_append.mp nd3).2.2 a3 z a3 (by simp) rfl
 have nd4:=(List.nodup_append.mp nd3).2.1
 have o3:a3∉r3:=λz=>(List.nodup_cons.mp (List.nodup_append.mp nd4).1).1 z
 have o4:a3∉f4:=λz=>(List.nodup_append.mp nd4).2.2 a3 (by simp) a3 z rfl
 have tk:Tups H (upd H' a3 (.lst (dvs.set i x))):=s.tups.trans (zb3 (s _ _ h3))
 have kp:∀ (F:List Addr) (ds:List D) (us:List V),a3∉F→zaj H ds us F→zaj (upd H' a3 (.lst (dvs.set i x))) ds us F:=λF ds us nF hF=>zaj.frame tk _ (λb hb=>by
  obtain⟨o,ho⟩:=zaj.has _ hF b hb
  rw[zak (λz=>nF (by rw[←z];exact hb)),ho]
  exact s _ _ ho) hF
 have kp1:∀ (F:List Addr) (dd:D) (u:V),a3∉F→RepF H dd u F→RepF (upd H' a3 (.lst (dvs.set i x))) dd u F:=λF dd u nF hF=>RepF.frame tk _ (λb hb=>by
  obtain⟨o,ho⟩:=RepF.has _ hF b hb
  rw[zak (λz=>nF (by rw[←z];exact hb)),ho]
  exact s _ _ ho) hF
 have lst:∀ {b us},H b=some (.lst us)→b≠a3→(upd H' a3 (.lst (dvs.set i x))) b=some (.lst us):=λe nb=>by rw[zak nb];exact s _ _ e
 have npl':pl≠a3:=λz=>npl (by rw[z];simp)
 obtain⟨y1',e1,k1⟩:=RepF.ls (kp1 f1 _ _ o1 g1)
 cases e1
 obtain⟨y2',e2,k2⟩:=RepF.ls (kp1 f2 _ _ o2 g2)
 cases e2
 obtain⟨a4',nvs',r4',e4,k4,z4'⟩:=RepF.lst_out (kp1 f4 _ _ o4 g4)
 cases e4
 have k3:=kp r3 _ _ o3 z3
 refine⟨.ref T::vs,lst p1 npl',R2.cons ⟨T,.ref pa,rfl,tk _ _ hT,pa,y1,y2,a3,a4,dvs.set i x,nvs',rfl,lst pa1 npa.symm,k1,k2,zaf,k4,?_,⟨by simpa using z4'.length,λj ls y q1 q2=>?_⟩⟩ (zfu (λp hp=>h9 p (List.mem_cons_of_mem _ hp)) (kp g _ _ off hrest))⟩
 ·refine R2.set ⟨lz,λj d' y q1 q2=>?_⟩ i ?_
  ·obtain⟨f',hf'⟩:=zaj.item k3 j (toD d') y (by rw[zgm,q1];rfl) q2
   exact zfk (zc2 (h9 (n,c) List.mem_cons_self d' (zmg q1))) hf'
  ·exact zbC.updL hx h9d (s _ _ h3) (zj0 z3)
 ·obtain⟨f',hf'⟩:=zaj.item z4' j (zaN ls) y (by rw[zgm,q1];rfl) q2
  exact RepF.ls hf'
def crBy (ps:List (Int × Cr)) (m:Int):Cr:=(ps.lookup m).getD ⟨[],[],[],[]⟩
theorem zlr:∀ {ps:List (Int × Cr)}{i:Nat}{n:Int}{c:Cr},(ps.map (·.1)).Nodup→ps[i]?=some (n,c)→crBy ps n=c
 | [],i,n,c,_,e=>by simp at e
 | (m,d)::ps,0,n,c,_,e=>by
  simp only[List.getElem?_cons_zero,Option.some.injEq,Prod.mk.injEq] at e
  obtain⟨rfl,rfl⟩:=e
  simp[crBy,List.lookup]
 | (m,d)::ps,i+1,n,c,nd,e=>by
  have e':ps[i]?=some (n,c):=by simpa using e
  have nd':=List.nodup_cons.mp (show (m::ps.map (·.1)).Nodup from nd)
  have ne:¬ n=m:=λz=>nd'.1 (by rw[←z];exact zmm.mpr ⟨(n,c),zmg e',rfl⟩)
  have ih:=zlr nd'.2 e'
  unfold crBy at ih ⊢
  rw[List.lookup_cons,show (n == m)=false by simpa using ne]
  exact ih
def zcb (numbers kinds:List Int) (cells:Nat→List Int) (many:Nat):List (Int × Cr):=(List.range many).map λk=>(numbers.getD k 0,crOf numbers kinds cells k)
theorem zhF (numbers kinds:List Int) (cells:Nat→List Int) (many:Nat):(zcb numbers kinds cells many).map zeE=(List.range many).map λk=>D.tup [.int (numbers.getD k 0),crD (crOf numbers kinds cells k)]:=by
 unfold zcb
 rw[List.map_map]
 rfl
theorem zj2 {l:List Int} : (List.range l.length).map (λk=>l.getD k 0)=l:=by
 refine List.ext_getElem (by simp) λi h1 h2=>?_
 simp[List.getD,h2]
structure PsOk (numbers kinds:List Int) (ps:List (Int × Cr)):Prop where
 nums:ps.map (·.1)=numbers
 nd:numbers.Nodup
 nb:∀ n∈numbers,0≤n∧n<100
 rt:∀ p∈ps,p.2.Rt
 calls:∀ p∈ps,∀ m∈zcI p.2.deeds,m∈numbers
 kl:kinds.length=numbers.length
 oath:∀ (i:Nat) p,ps[i]?=some p→p.2.needs=(zb9 (kinds.getD i 0)).1∧p.2.leaves=(zb9 (kinds.getD i 0)).2
theorem HallParts.ps {many size:Int}{numbers kinds:List Int}{cells:Nat→List Int}(h:HallParts many size numbers kinds cells) (hm:1≤many) (hs:size≤8):PsOk numbers kinds (zcb numbers kinds cells many.toNat) where
 nums:=by
  unfold zcb
  rw[List.map_map,←h.n]
  exact zj2
 nd:=h.nd
 nb:=h.nb
 rt:=λp hp=>by
  obtain⟨k,_,rfl⟩:=zmm.mp hp
  exact h.rt hm hs k
 calls:=λp hp=>by
  obtain⟨k,_,rfl⟩:=zmm.mp hp
  exact h.calls hm k
 kl:=by rw[h.k,h.n]
 oath:=λi p e=>by
  unfold zcb at e
  rw[zgm] at e
  obtain⟨k,hk,rfl⟩:=zme.mp e
  have:k=i:=by
   rw[List.getElem?_range (by have:=(zge.mp hk).1;simpa using this)] at hk
   exact (Option.some.inj hk).symm
  subst this
  exact⟨rfl,rfl⟩
end My

namespace My
open PySem L2 PyProof.Rows
structure Fm where
 n:Int
 p:Int
 hands:List Int
 asked:List Int
def zcc (f:Fm):List Int:=f.hands++f.asked++f.hands.take 2
def zaH (ls:List (List Int)) (ns:List Int):Option Nat:=ls.findIdx? λl=>decide (zcj l ns<0)
abbrev End:=Option (List V)
def brk (w:Str) (f:Fm) (i:Nat):List V:=[.str "broken",.str w,.int f.n,.int f.p,.int (i:Int)]
def zd7 (c:Cr) (p:Int):Option Dd:=c.deeds[p.toNat]?
def ziu:Option Dd→Int × Int
 | some (.call _ _ _ t0 t1)=>(t0,t1)
 | _=>(0,1)
def zhG (cr:Int→Cr) (g:Fm) (l0 l1:Int):Fm:={g with hands:=(g.hands.set (ziu (zd7 (cr g.n) g.p)).1.toNat l0).set (ziu (zd7 (cr g.n) g.p)).2.toNat l1,p:=g.p+1}
def zj3 (f:Fm):List V:=[.str "done",.int (f.hands.getD 0 0),.int (f.hands.getD 1 0)]
def zcB (cr:Int→Cr) (f:Fm):End:=(zaH ((cr f.n).notes.getD f.p.toNat []) (zcc f)).map (brk "notes" f)
def come (cr:Int→Cr):Fm→List Fm→List Fm × End
 | f,[]=>if f.p=((cr f.n).deeds.length:Int) then (match zaH (cr f.n).leaves (zcc f) with
   | some i=>([f],some (brk "leaves" f i))
   | none=>([],some (zj3 f))) else ([f],zcB cr f)
 | f,g::st=>if f.p=((cr f.n).deeds.length:Int) then (match zaH (cr f.n).leaves (zcc f) with
   | some i=>(f::g::st,some (brk "leaves" f i))
   | none=>come cr (zhG cr g (f.hands.getD 0 0) (f.hands.getD 1 0)) st) else (f::g::st,zcB cr f)
structure Rs where
 st:List Fm
 ins:List Int
 k:Int
 en:End
def zcK (cr:Int→Cr) (s:Rs) (f:Fm) (st:List Fm):Rs:={s with st:=(come cr f st).1,en:=(come cr f st).2}
def putR (cr:Int→Cr) (s:Rs) (f:Fm) (st:List Fm) (h x:Int):Rs:=zcK cr s {f with hands:=f.hands.set h.toNat x,p:=f.p+1} st
def zcC (a0 a1:Int):List Int:=[0,0,0,0,a0,a1,0,0]
def zcD (n a0 a1:Int):Fm:=⟨n,0,[a0,a1,0,0],[a0,a1]⟩
def zc4 (cr:Int→Cr) (ks:List Int) (s:Rs) (f:Fm) (st:List Fm):Dd→Rs
 | .set h l=>putR cr s f st h (zcj l (zcc f))
 | .part h l b=>putR cr s f st h (zcj l (zcc f) / b)
 | .draw h lo hi=>match s.ins with
  | []=>{s with en:=some [.str "dry"]}
  | x::r=>if lo≤x∧x≤hi then putR cr {s with ins:=r} f st h x else {s with ins:=r,en:=some [.str "stray"]}
 | .turn l q=>zcK cr s {f with p:=if 0≤zcj l (zcc f) then q else f.p+1} st
 | .hold l=>match zaH [l] (zcc f) with
  | some i=>{s with en:=some (brk "hold" f i)}
  | none=>zcK cr s {f with p:=f.p+1} st
 | .call m g0 g1 _ _=>if m∉ks then {s with en:=some [.str "lost"]} else if 20≤(f::st).length then {s with en:=some [.str "deep"]} else
   match zaH (cr m).needs (zcC (f.hands.getD g0.toNat 0) (f.hands.getD g1.toNat 0)) with
   | some i=>{s with en:=some (brk "needs" f i)}
   | none=>zcK cr s (zcD m (f.hands.getD g0.toNat 0) (f.hands.getD g1.toNat 0)) (f::st)
def zcL (cr:Int→Cr) (ks:List Int) (s:Rs):Rs:=match s.st with
 | []=>s
 | f::st=>match zd7 (cr f.n) f.p with
  | none=>s
  | some d=>zc4 cr ks {s with k:=s.k+1} f st d
def goR (cr:Int→Cr) (ks:List Int):Nat→Rs→Rs
 | 0,s=>s
 | n+1,s=>if s.en=none then goR cr ks n (zcL cr ks s) else s
structure WfF (ks:List Int) (cr:Int→Cr) (f:Fm):Prop where
 m:f.n∈ks
 p0:0≤f.p
 pn:f.p≤((cr f.n).deeds.length:Int)
 h4:f.hands.length=4
 a2:f.asked.length=2
def zgq (cr:Int→Cr) (f:Fm):Prop:=∃ m g0 g1 t0 t1,zd7 (cr f.n) f.p=some (.call m g0 g1 t0 t1)
def Wf (ks:List Int) (cr:Int→Cr) (st:List Fm):Prop:=(∀ f∈st,WfF ks cr f)∧∀ f∈st.tail,zgq cr f
theorem Wf.tail {ks:List Int}{cr:Int→Cr}{f:Fm}{st:List Fm}(h:Wf ks cr (f::st)):Wf ks cr st:=⟨λg hg=>h.1 g (List.mem_cons_of_mem _ hg),λg hg=>h.2 g (List.mem_of_mem_tail hg)⟩
theorem zgq.lt {cr:Int→Cr}{f:Fm}(h:zgq cr f):f.p.toNat<(cr f.n).deeds.length:=by
 obtain⟨m,g0,g1,t0,t1,e⟩:=h
 exact (zge.mp e).1
theorem zjk {ks:List Int}{cr:Int→Cr}{g:Fm}{l0 l1:Int}(h:WfF ks cr g) (c:zgq cr g):WfF ks cr (zhG cr g l0 l1) where
 m:=h.m
 p0:=by have:=h.p0;show 0≤g.p+1;omega
 pn:=by have:=c.lt;have:=h.p0;show g.p+1≤((cr g.n).deeds.length:Int);omega
 h4:=by unfold zhG;simp[h.h4]
 a2:=h.a2
theorem ziv {ks:List Int}{cr:Int→Cr} : ∀ {f:Fm}{st:List Fm},Wf ks cr (f::st)→Wf ks cr (come cr f st).1∧((come cr f st).2=none→∃ g r,(come cr f st).1=g::r∧g.p<((cr g.n).deeds.length:Int))
 | f,[],h=>by
  unfold come
  split
  ·split
   ·exact⟨h,λz=>by cases z⟩
   ·exact⟨⟨λg hg=>(by cases hg),λg hg=>(by cases hg)⟩,λz=>(by cases z)⟩
  ·rename_i ne
   exact⟨h,λ_=>⟨f,[],rfl,by have:=(h.1 f List.mem_cons_self).pn;omega⟩⟩
 | f,g::st,h=>by
  unfold come
  split
  ·split
   ·exact⟨h,λz=>by cases z⟩
   ·refine ziv ⟨λk hk=>?_,λk hk=>h.tail.2 k hk⟩
    rcases List.mem_cons.mp hk with rfl | hk
    ·exact zjk (h.tail.1 g List.mem_cons_self) (h.2 g List.mem_cons_self)
    ·exact h.tail.1 k (List.mem_cons_of_mem _ hk)
  ·rename_i ne
   exact⟨h,λ_=>⟨f,g::st,rfl,by have:=(h.1 f List.mem_cons_self).pn;omega⟩⟩
structure WfR (ks:List Int) (cr:Int→Cr) (s:Rs):Prop where
 w:Wf ks cr s.st
 on:s.en=none→∃ f st,s.st=f::st∧f.p<((cr f.n).deeds.length:Int)
theorem zcE {ks:List Int}{cr:Int→Cr}{s:Rs}{f:Fm}{st:List Fm}(h:Wf ks cr (f::st)):WfR ks cr (zcK cr s f st):=⟨(ziv h).1,(ziv h).2⟩
theorem Wf.top {ks:List Int}{cr:Int→Cr}{f g:Fm}{st:List Fm}(h:Wf ks cr (f::st)) (w:WfF ks cr g):Wf ks cr (g::st):=⟨λk hk=>by
 rcases List.mem_cons.mp hk with rfl | hk
 ·exact w
 ·exact h.1 k (List.mem_cons_of_mem _ hk),h.2⟩
theorem zgr {n:Int}{m g0 g1 t0 t1:Int}(h:zaO n (.call m g0 g1 t0 t1)=true):(0≤g0∧g0≤3)∧(0≤g1∧g1≤3)∧(0≤t0∧t0≤3)∧(0≤t1∧t1≤3)∧0≤m∧m≤99:=by
 simp only[zaO,zbh,btw,List.all_cons,List.all_nil,id,Bool.and_true,Bool.and_eq_true,decide_eq_true_eq] at h
 omega
theorem zgO {ks:List Int}{cr:Int→Cr}{s:Rs}(hrt:∀ m∈ks,(cr m).Rt) (h:WfR ks cr s) (he:s.en=none):WfR ks cr (zcL cr ks s):=by
 obtain⟨f,st,e,hp⟩:=h.on he
 have hw:=h.w
 rw[e] at hw
 have wf:=hw.1 f List.mem_cons_self
 have hlt:f.p.toNat<(cr f.n).deeds.length:=by have:=wf.p0;omega
 have ok:=(hrt f.n wf.m).parts.2.2.2.2.2
 unfold zcL
 rw[e]
 dsimp only
 unfold zd7
 rw[List.getElem?_eq_getElem hlt]
 dsimp only
 have hok:=ok _ (List.getElem_mem hlt)
 have hd:zd7 (cr f.n) f.p=some (cr f.n).deeds[f.p.toNat]:=List.getElem?_eq_getElem hlt
 generalize (cr f.n).deeds[f.p.toNat]=d at *
 have up:∀ x,WfF ks cr {f with hands:=x,p:=f.p+1}↔x.length=4:=λx=>⟨λz=>z.h4,λz=>⟨wf.m,by have:=wf.p0;show 0≤f.p+1;omega,by show f.p+1≤((cr f.n).deeds.length:Int);omega,z,wf.a2⟩⟩
 have same:∀ (x:List Int) (y:Int) (z:List V),WfR ks cr ({st:=f::st,ins:=x,k:=y,en:=some z} : Rs):=λx y z=>⟨hw,λw=>by cases w⟩
 cases d with
 | set hd l=>exact zcE (hw.top ((up _).mpr (by simp[wf.h4])))
 | part hd l b=>exact zcE (hw.top ((up _).mpr (by simp[wf.h4])))
 | draw hd lo hi=>
  unfold zc4
  dsimp only
  split
  ·exact same _ _ _
  ·split
   ·exact zcE (hw.top ((up _).mpr (by simp[wf.h4])))
   ·exact same _ _ _
 | turn l q=>
  simp only[zaO,btw,Bool.and_eq_true,decide_eq_true_eq] at hok
  refine zcE (hw.top ⟨wf.m,?_,?_,wf.h4,wf.a2⟩)
  ·dsimp only;have:=wf.p0;split <;> omega
  ·dsimp only;split <;> omega
 | hold l=>
  unfold zc4
  dsimp only
  split
  ·exact same _ _ _
  ·exact zcE (hw.top ((up f.hands).mpr wf.h4))
 | call m g0 g1 t0 t1=>
  unfold zc4
  dsimp only
  split
  ·exact same _ _ _
  ·rename_i mk
   split
   ·exact same _ _ _
   ·split
    ·exact same _ _ _
    ·refine zcE ⟨λk hk=>?_,λk hk=>?_⟩
     ·rcases List.mem_cons.mp hk with rfl | hk
      ·exact⟨Classical.byContradiction λz=>mk z,by show (0:Int)≤0;omega,by show (0:Int)≤_;omega,rfl,rfl⟩
      ·exact hw.1 k hk
     ·rcases List.mem_cons.mp (show k∈f::st from hk) with rfl | hk
      ·exact⟨m,g0,g1,t0,t1,hd⟩
      ·exact hw.2 k hk
theorem zls {ks:List Int}{cr:Int→Cr}(hrt:∀ m∈ks,(cr m).Rt):∀ (n:Nat) {s:Rs},WfR ks cr s→WfR ks cr (goR cr ks n s)
 | 0,s,h=>h
 | n+1,s,h=>by
  unfold goR
  split
  ·rename_i he;exact zls hrt n (zgO hrt h he)
  ·exact h
theorem zfv {ks:List Int}{cr:Int→Cr}{s:Rs}(h:s.en≠none):∀ n,goR cr ks n s=s
 | 0=>rfl
 | n+1=>by unfold goR;rw[if_neg h]
theorem zlt {ks:List Int}{cr:Int→Cr} : ∀ (a b:Nat) (s:Rs),goR cr ks (a+b) s=goR cr ks b (goR cr ks a s)
 | 0,b,s=>by rw[Nat.zero_add];rfl
 | a+1,b,s=>by
  rw[Nat.add_right_comm]
  have e1:goR cr ks (a+b+1) s=if s.en=none then goR cr ks (a+b) (zcL cr ks s) else s:=rfl
  have e2:goR cr ks (a+1) s=if s.en=none then goR cr ks a (zcL cr ks s) else s:=rfl
  rw[e1,e2]
  by_cases h:s.en=none
  ·rw[if_pos h,if_pos h];exact zlt a b _
  ·rw[if_neg h,if_neg h,zfv h]
end My

namespace My
open PySem L2 PyProof.Rows
theorem zb0 {k x:Str}{v:V}{r:List (Str × V)}(h:(k == x)=false):List.lookup k ((x,v)::r)=List.lookup k r:=by simp[List.lookup,h]
theorem zgP {k:Str}{v:V}{r:List (Str × V)} : List.lookup k ((k,v)::r)=some v:=by simp[List.lookup]
theorem zfV {k x:Str}{v w:V}{r:List (Str × V)}(h:¬ x=k):putF k v ((x,w)::r)=(x,w)::putF k v r:=by
 show (if x=k then _ else _)=_
 rw[if_neg h]
theorem zn8 {k:Str}{v w:V}{r:List (Str × V)} : putF k v ((k,w)::r)=(k,v)::r:=by
 show (if k=k then _ else _)=_
 rw[if_pos rfl]
theorem zni {k:Str}{v:V} : putF k v []=[(k,v)]:=rfl
def ffl (n p:Int) (ha aa:Addr):List (Str × V):=[("number",.int n),("place",.int p),("hands",.ref ha),("asked",.ref aa)]
theorem zfw (n p:Int) (ha aa:Addr):(ffl n p ha aa).lookup ("number" : Str)=some (.int n):=zgP
theorem zbT (n p:Int) (ha aa:Addr):(ffl n p ha aa).lookup ("place" : Str)=some (.int p):=by
 unfold ffl;rw[zb0 (by decide +kernel)];exact zgP
theorem zbP (n p:Int) (ha aa:Addr):(ffl n p ha aa).lookup ("hands" : Str)=some (.ref ha):=by
 unfold ffl;rw[zb0 (by decide +kernel),zb0 (by decide +kernel)];exact zgP
theorem zmB (n p:Int) (ha aa:Addr):(ffl n p ha aa).lookup ("asked" : Str)=some (.ref aa):=by
 unfold ffl;rw[zb0 (by decide +kernel),zb0 (by decide +kernel),zb0 (by decide +kernel)];exact zgP
theorem zj4 {n p:Int}{ha aa:Addr}{m:Str}(h1:(m =="number")=false) (h2:(m =="place")=false) (h3:(m =="hands")=false) (h4:(m =="asked")=false):(ffl n p ha aa).lookup m=none:=by
 unfold ffl;rw[zb0 h1,zb0 h2,zb0 h3,zb0 h4];rfl
theorem znj {n p q:Int}{ha aa:Addr} : putF "place" (.int q) (ffl n p ha aa)=ffl n q ha aa:=by
 unfold ffl;rw[zfV (by decide +kernel),zn8]
theorem zn9 {n p:Int}{ha aa:Addr} : putF "asked" (.ref aa) (putF "hands" (.ref ha) (putF "place" (.int p) (putF "number" (.int n) [])))=ffl n p ha aa:=by
 repeat (first | rw[zni] | rw[zfV (by decide +kernel)])
 rfl
def rfls (ka ia sa:Addr) (k:Int) (ev:V):List (Str × V):=[("known",.ref ka),("inputs_left",.ref ia),("stack",.ref sa),("steps_done",.int k),("ending",ev)]
section
variable {ka ia sa : Addr} {k j : Int} {ev ew : V}
theorem zd8:(rfls ka ia sa k ev).lookup ("known" : Str)=some (.ref ka):=zgP
theorem zhH:(rfls ka ia sa k ev).lookup ("inputs_left" : Str)=some (.ref ia):=by
 unfold rfls;rw[zb0 (by decide +kernel)];exact zgP
theorem zbs:(rfls ka ia sa k ev).lookup ("stack" : Str)=some (.ref sa):=by
 unfold rfls;rw[zb0 (by decide +kernel),zb0 (by decide +kernel)];exact zgP
theorem zjl:(rfls ka ia sa k ev).lookup ("steps_done" : Str)=some (.int k):=by
 unfold rfls;rw[zb0 (by decide +kernel),zb0 (by decide +kernel),zb0 (by decide +kernel)];exact zgP
theorem zdp:(rfls ka ia sa k ev).lookup ("ending" : Str)=some ev:=by
 unfold rfls;rw[zb0 (by decide +kernel),zb0 (by decide +kernel),zb0 (by decide +kernel),zb0 (by decide +kernel)];exact zgP
theorem zbn {m:Str}(h1:(m =="known")=false) (h2:(m =="inputs_left")=false) (h3:(m =="stack")=false) (h4:(m =="steps_done")=false) (h5:(m =="ending")=false):(rfls ka ia sa k ev).lookup m=none:=by
 unfold rfls;rw[zb0 h1,zb0 h2,zb0 h3,zb0 h4,zb0 h5];rfl
theorem zmC:putF "steps_done" (.int j) (rfls ka ia sa k ev)=rfls ka ia sa j ev:=by
 unfold rfls;rw[zfV (by decide +kernel),zfV (by decide +kernel),zfV (by decide +kernel),zn8]
theorem zcm:putF "ending" ew (rfls ka ia sa k ev)=rfls ka ia sa k ew:=by
 unfold rfls;rw[zfV (by decide +kernel),zfV (by decide +kernel),zfV (by decide +kernel),zfV (by decide +kernel),zn8]
theorem zoa:putF "ending" ev (putF "steps_done" (.int k) (putF "stack" (.ref sa) (putF "inputs_left" (.ref ia) (putF "known" (.ref ka) []))))=rfls ka ia sa k ev:=by
 repeat (first | rw[zni] | rw[zfV (by decide +kernel)])
 rfl
end
def ziw (H:Hp):End→V→Prop
 | none,v=>v=.non
 | some xs,v=>∃ T,v=.ref T∧H T=some (.tup xs)
theorem ziw.tups {H H':Hp}{en:End}{v:V}(t:Tups H H') (h:ziw H en v):ziw H' en v:=by
 cases en with
 | none=>exact h
 | some xs=>obtain⟨T,e,z⟩:=h;exact⟨T,e,t _ _ z⟩
theorem ziw.none_iff {H:Hp}{en:End}{v:V}(h:ziw H en v):decide (v=V.non)=en.isNone:=by
 cases en with
 | none=>rw[show v=.non from h];rfl
 | some xs=>obtain⟨T,e,z⟩:=h;rw[e,znZ];rfl
structure KnownAt (cC:Addr) (H:Hp) (ka:Addr) (ks:List Int) (cr:Int→Cr) (kfp:List Addr):Prop where
 d:∃ kvs,H ka=some (.dK kvs)∧KVs (CrIn cC H cr kfp) kvs ks
 rt:∀ m∈ks,(cr m).Rt
 has:∀ b∈kfp,∃ o,H b=some o
section
variable {cC : Addr} {H H' : Hp} {ka : Addr} {ks : List Int} {cr : Int → Cr} {kfp : List Addr}
theorem KnownAt.frame (A:KnownAt cC H ka ks cr kfp) (tk:Tups H H') (k:∀ b∈kfp,∀ o,H b=some o→H' b=some o) (k2:∀ kvs,H ka=some (.dK kvs)→H' ka=some (.dK kvs)):KnownAt cC H' ka ks cr kfp where
 d:=by
  obtain⟨kvs,e,q⟩:=A.d
  exact⟨kvs,k2 _ e,q.mono λm v ⟨p,f,e1,e2,e3⟩=>⟨p,f,e1,e2.frame tk λb hb o ho=>k b (e3 b hb) o ho,e3⟩⟩
 rt:=A.rt
 has:=λb hb=>by obtain⟨o,e⟩:=A.has b hb;exact⟨o,k b hb o e⟩
theorem KnownAt.upd {b:Addr}{o u:HO}(A:KnownAt cC H ka ks cr kfp) (hb:b∉kfp) (h:H b=some u) (n1:∀ xs,u≠.tup xs) (n2:∀ kvs,u≠.dK kvs):KnownAt cC (L2.upd H b o) ka ks cr kfp:=
 A.frame (zeU λxs z=>n1 xs (by rw[h] at z;exact Option.some.inj z)) (λc hc o' ho=>by rw[zak (λz=>hb (by rw[←z];exact hc))];exact ho) λkvs z=>by rw[zak (zjs z h (λw=>n2 kvs w.symm))];exact z
end
abbrev Fa:=Addr × Addr × Addr
def zcn (cF:Addr) (H:Hp):List Fm→List Fa→Prop
 | [],[]=>True
 | f::st,(p,ha,aa)::r=>(∃ dx,H p=some (.ins cF dx (ffl f.n f.p ha aa)))∧H ha=some (.lst (f.hands.map V.int))∧H aa=some (.lst (f.asked.map V.int))∧zcn cF H st r
 | _,_=>False
def fasL (fas:List Fa):List Addr:=fas.flatMap λt=>[t.1,t.2.1,t.2.2]
theorem za4 (t:Fa) (fas:List Fa):fasL (t::fas)=t.1::t.2.1::t.2.2::fasL fas:=by unfold fasL;simp
theorem zcn.frame {cF:Addr}{H H':Hp} : ∀ {st:List Fm}{fas:List Fa},(∀ b∈fasL fas,∀ o,H b=some o→H' b=some o)→zcn cF H st fas→zcn cF H' st fas
 | [],[],_,_=>trivial
 | f::st,(p,ha,aa)::r,k,h=>by
  obtain⟨⟨dx,h1⟩,h2,h3,h4⟩:=h
  rw[za4] at k
  exact⟨⟨dx,k _ (by simp) _ h1⟩,k _ (by simp) _ h2,k _ (by simp) _ h3,zcn.frame (λb hb=>k b (by simp[hb])) h4⟩
 | [],_::_,_,h=>h.elim
 | _::_,[],_,h=>h.elim
theorem zcn.len {cF:Addr}{H:Hp} : ∀ {st:List Fm}{fas:List Fa},zcn cF H st fas→st.length=fas.length
 | [],[],_=>rfl
 | f::st,t::r,h=>by rw[List.length_cons,List.length_cons,zcn.len h.2.2.2]
 | [],_::_,h=>h.elim
 | _::_,[],h=>h.elim
theorem zcn.has {cF:Addr}{H:Hp} : ∀ {st:List Fm}{fas:List Fa},zcn cF H st fas→∀ b∈fasL fas,∃ o,H b=some o∧(∀ xs,o≠.tup xs)∧∀ kvs,o≠.dK kvs
 | [],[],_,b,hb=>by simp[fasL] at hb
 | f::st,(p,ha,aa)::r,h,b,hb=>by
  obtain⟨⟨dx,h1⟩,h2,h3,h4⟩:=h
  rw[za4] at hb
  simp only[List.mem_cons] at hb
  rcases hb with rfl | rfl | rfl | hb
  ·exact⟨_,h1,λ_ z=>(by cases z),λ_ z=>(by cases z)⟩
  ·exact⟨_,h2,λ_ z=>(by cases z),λ_ z=>(by cases z)⟩
  ·exact⟨_,h3,λ_ z=>(by cases z),λ_ z=>(by cases z)⟩
  ·exact zcn.has h4 b hb
 | [],_::_,h,_,_=>h.elim
 | _::_,[],h,_,_=>h.elim
def zap (r ia sa:Addr) (fas:List Fa):List Addr:=r::ia::sa::fasL fas
structure RunX (cR cF cC:Addr) (H:Hp) (r ka ia sa:Addr) (ks:List Int) (cr:Int→Cr) (fas:List Fa) (s:Rs) (kfp:List Addr):Prop where
 ins:∃ dx ev,H r=some (.ins cR dx (rfls ka ia sa s.k ev))∧ziw H s.en ev
 kn:KnownAt cC H ka ks cr kfp
 inp:H ia=some (.lst (s.ins.map V.int))
 sta:H sa=some (.lst (fas.reverse.map λt=>V.ref t.1))
 fr:zcn cF H s.st fas
 nd:(zap r ia sa fas).Nodup
 off:∀ b∈zap r ia sa fas,b∉kfp
section
variable {cR cF cC : Addr} {H H' : Hp} {r ka ia sa : Addr} {ks : List Int} {cr : Int → Cr} {fas : List Fa} {s : Rs} {kfp : List Addr}
theorem RunX.has (A:RunX cR cF cC H r ka ia sa ks cr fas s kfp):∀ b∈zap r ia sa fas,∃ o,H b=some o∧(∀ xs,o≠.tup xs)∧∀ kvs,o≠.dK kvs:=λb hb=>by
 unfold zap at hb
 simp only[List.mem_cons] at hb
 rcases hb with rfl | rfl | rfl | hb
 ·obtain⟨dx,ev,e,_⟩:=A.ins;exact⟨_,e,λ_ z=>(by cases z),λ_ z=>(by cases z)⟩
 ·exact⟨_,A.inp,λ_ z=>(by cases z),λ_ z=>(by cases z)⟩
 ·exact⟨_,A.sta,λ_ z=>(by cases z),λ_ z=>(by cases z)⟩
 ·exact A.fr.has b hb
theorem RunX.frame (A:RunX cR cF cC H r ka ia sa ks cr fas s kfp) (tk:Tups H H') (k:∀ b,b∈zap r ia sa fas∨b∈kfp→∀ o,H b=some o→H' b=some o) (k2:∀ kvs,H ka=some (.dK kvs)→H' ka=some (.dK kvs)):RunX cR cF cC H' r ka ia sa ks cr fas s kfp where
 ins:=by obtain⟨dx,ev,e,z⟩:=A.ins;exact⟨dx,ev,k _ (.inl (by simp[zap])) _ e,z.tups tk⟩
 kn:=A.kn.frame tk (λb hb=>k b (.inr hb)) k2
 inp:=k _ (.inl (by simp[zap])) _ A.inp
 sta:=k _ (.inl (by simp[zap])) _ A.sta
 fr:=A.fr.frame λb hb=>k b (.inl (by simp[zap,hb]))
 nd:=A.nd
 off:=A.off
theorem RunX.same (A:RunX cR cF cC H r ka ia sa ks cr fas s kfp) (e:Same H H'):RunX cR cF cC H' r ka ia sa ks cr fas s kfp:=A.frame e.tups (λb _ o ho=>e b o ho) λkvs z=>e _ _ z
theorem RunX.ndr (A:RunX cR cF cC H r ka ia sa ks cr fas s kfp):r≠ia∧r≠sa∧r∉fasL fas∧ia≠sa∧ia∉fasL fas∧sa∉fasL fas∧(fasL fas).Nodup:=by
 have h:=A.nd
 unfold zap at h
 simp only[List.nodup_cons,List.mem_cons,not_or] at h
 obtain⟨⟨a1,a2,a3⟩,⟨b1,b2⟩,c1,d1⟩:=h
 exact⟨a1,a2,a3,b1,b2,c1,d1⟩
theorem RunX.setR {dx:Addr}{k':Int}{ev ew:V}{en':End}(A:RunX cR cF cC H r ka ia sa ks cr fas s kfp) (h:H r=some (.ins cR dx (rfls ka ia sa s.k ev))) (he:ziw H en' ew):RunX cR cF cC (upd H r (.ins cR dx (rfls ka ia sa k' ew))) r ka ia sa ks cr fas {s with k:=k',en:=en'} kfp where
 ins:=⟨dx,ew,zaf,he.tups (zeU λxs z=>by rw[h] at z;cases z)⟩
 kn:=A.kn.upd (A.off r (by simp[zap])) h (λ_ z=>by cases z) (λ_ z=>by cases z)
 inp:=by rw[zak A.ndr.1.symm];exact A.inp
 sta:=by rw[zak A.ndr.2.1.symm];exact A.sta
 fr:=A.fr.frame λb hb o ho=>by rw[zak (λz=>A.ndr.2.2.1 (by rw[←z];exact hb))];exact ho
 nd:=A.nd
 off:=A.off
theorem RunX.setIn {xs:List Int}(A:RunX cR cF cC H r ka ia sa ks cr fas s kfp):RunX cR cF cC (upd H ia (.lst (xs.map V.int))) r ka ia sa ks cr fas {s with ins:=xs} kfp where
 ins:=by obtain⟨dx,ev,e,z⟩:=A.ins;exact⟨dx,ev,by rw[zak A.ndr.1];exact e,z.tups (zb3 A.inp)⟩
 kn:=A.kn.upd (A.off ia (by simp[zap])) A.inp (λ_ z=>by cases z) (λ_ z=>by cases z)
 inp:=zaf
 sta:=by rw[zak A.ndr.2.2.2.1.symm];exact A.sta
 fr:=A.fr.frame λb hb o ho=>by rw[zak (λz=>A.ndr.2.2.2.2.1 (by rw[←z];exact hb))];exact ho
 nd:=A.nd
 off:=A.off
variable {p ha aa : Addr} {f : Fm} {st : List Fm}
theorem znk {t:Fa}{fas:List Fa}(h:(fasL (t::fas)).Nodup):t.1≠t.2.1∧t.1≠t.2.2∧t.1∉fasL fas∧t.2.1≠t.2.2∧t.2.1∉fasL fas∧t.2.2∉fasL fas:=by
 rw[za4] at h
 simp only[List.nodup_cons,List.mem_cons,not_or] at h
 obtain⟨⟨a1,a2,a3⟩,⟨b1,b2⟩,c1,d1⟩:=h
 exact⟨a1,a2,a3,b1,b2,c1⟩
theorem RunX.setP {dx:Addr}{q:Int}(A:RunX cR cF cC H r ka ia sa ks cr ((p,ha,aa)::fas) s kfp) (hs:s.st=f::st) (h:H p=some (.ins cF dx (ffl f.n f.p ha aa))):RunX cR cF cC (upd H p (.ins cF dx (ffl f.n q ha aa))) r ka ia sa ks cr ((p,ha,aa)::fas) {s with st:={f with p:=q}::st} kfp:=by
 obtain⟨r1,r2,r3,i1,i2,s1,fn⟩:=A.ndr
 obtain⟨n1,n2,n3,n4,n5,n6⟩:=znk fn
 rw[za4] at r3 i2 s1
 simp only[List.mem_cons,not_or] at r3 i2 s1
 have fr:=A.fr
 rw[hs] at fr
 obtain⟨⟨dx',f1⟩,f2,f3,f4⟩:=fr
 have nt:Tups H (upd H p (.ins cF dx (ffl f.n q ha aa))):=zeU λxs z=>by rw[h] at z;cases z
 refine⟨?_,A.kn.upd (A.off p (by simp[zap,za4])) h (λ_ z=>by cases z) (λ_ z=>by cases z),?_,?_,⟨⟨dx,zaf⟩,?_,?_,f4.frame λb hb o ho=>?_⟩,A.nd,A.off⟩
 ·obtain⟨dx',ev,e,z⟩:=A.ins;exact⟨dx',ev,by rw[zak r3.1];exact e,z.tups nt⟩
 ·rw[zak i2.1];exact A.inp
 ·rw[zak s1.1];exact A.sta
 ·rw[zak (Ne.symm n1)];exact f2
 ·rw[zak (Ne.symm n2)];exact f3
 ·rw[zak (λz=>n3 (by rw[←z];exact hb))];exact ho
theorem RunX.setH {xs:List Int}(A:RunX cR cF cC H r ka ia sa ks cr ((p,ha,aa)::fas) s kfp) (hs:s.st=f::st):RunX cR cF cC (upd H ha (.lst (xs.map V.int))) r ka ia sa ks cr ((p,ha,aa)::fas) {s with st:={f with hands:=xs}::st} kfp:=by
 obtain⟨r1,r2,r3,i1,i2,s1,fn⟩:=A.ndr
 obtain⟨n1,n2,n3,n4,n5,n6⟩:=znk fn
 rw[za4] at r3 i2 s1
 simp only[List.mem_cons,not_or] at r3 i2 s1
 have fr:=A.fr
 rw[hs] at fr
 obtain⟨⟨dx',f1⟩,f2,f3,f4⟩:=fr
 have nt:Tups H (upd H ha (.lst (xs.map V.int))):=zb3 f2
 refine⟨?_,A.kn.upd (A.off ha (by simp[zap,za4])) f2 (λ_ z=>by cases z) (λ_ z=>by cases z),?_,?_,⟨⟨dx',?_⟩,zaf,?_,f4.frame λb hb o ho=>?_⟩,A.nd,A.off⟩
 ·obtain⟨dx',ev,e,z⟩:=A.ins;exact⟨dx',ev,by rw[zak r3.2.1];exact e,z.tups nt⟩
 ·rw[zak i2.2.1];exact A.inp
 ·rw[zak s1.2.1];exact A.sta
 ·rw[zak n1];exact f1
 ·rw[zak (Ne.symm n4)];exact f3
 ·rw[zak (λz=>n5 (by rw[←z];exact hb))];exact ho
theorem RunX.pop {t:Fa}(A:RunX cR cF cC H r ka ia sa ks cr (t::fas) s kfp) (hs:s.st=f::st):RunX cR cF cC (upd H sa (.lst (fas.reverse.map λt=>V.ref t.1))) r ka ia sa ks cr fas {s with st:=st} kfp:=by
 obtain⟨r1,r2,r3,i1,i2,s1,fn⟩:=A.ndr
 have fr:=A.fr
 rw[hs] at fr
 obtain⟨p,ha,aa⟩:=t
 obtain⟨⟨dx',f1⟩,f2,f3,f4⟩:=fr
 rw[za4] at r3 i2 s1 fn
 simp only[List.mem_cons,not_or] at r3 i2 s1
 refine⟨?_,A.kn.upd (A.off sa (by simp[zap])) A.sta (λ_ z=>by cases z) (λ_ z=>by cases z),?_,zaf,f4.frame λb hb o ho=>?_,?_,λb hb=>A.off b ?_⟩
 ·obtain⟨dx',ev,e,z⟩:=A.ins;exact⟨dx',ev,by rw[zak r2];exact e,z.tups (zb3 A.sta)⟩
 ·rw[zak i1];exact A.inp
 ·rw[zak (λz=>s1.2.2.2 (by rw[←z];exact hb))];exact ho
 ·have:=A.nd
  unfold zap at this ⊢
  rw[za4] at this
  simp only[List.nodup_cons,List.mem_cons,not_or] at this ⊢
  exact⟨⟨this.1.1,this.1.2.1,this.1.2.2.2.2.2⟩,⟨this.2.1.1,this.2.1.2.2.2.2⟩,this.2.2.1.2.2.2,this.2.2.2.2.2.2⟩
 ·unfold zap at hb ⊢
  rw[za4]
  simp only[List.mem_cons] at hb ⊢
  rcases hb with z | z | z | z
  ·exact .inl z
  ·exact .inr (.inl z)
  ·exact .inr (.inr (.inl z))
  ·exact .inr (.inr (.inr (.inr (.inr (.inr z)))))
theorem RunX.push {dx:Addr}(A:RunX cR cF cC H r ka ia sa ks cr fas s kfp) (e:Same H H') (p0:H p=none) (h0:H ha=none) (a0:H aa=none) (n1:p≠ha) (n2:p≠aa) (n3:ha≠aa) (hk:∀ b∈kfp,∃ o,H b=some o) (h1:H' p=some (.ins cF dx (ffl f.n f.p ha aa))) (h2:H' ha=some (.lst (f.hands.map V.int))) (h3:H' aa=some (.lst (f.asked.map V.int))) :
  RunX cR cF cC (upd H' sa (.lst ((fas.reverse.map λt=>V.ref t.1)++[.ref p]))) r ka ia sa ks cr ((p,ha,aa)::fas) {s with st:=f::s.st} kfp:=by
 have A':=A.same e
 obtain⟨r1,r2,r3,i1,i2,s1,fn⟩:=A.ndr
 have ow:∀ b∈zap r ia sa fas,b≠p∧b≠ha∧b≠aa:=λb hb=>by
  obtain⟨o,ho,_⟩:=A.has b hb
  exact⟨zam ho p0,zam ho h0,zam ho a0⟩
 have os:=ow sa (by simp[zap])
 refine⟨?_,A'.kn.upd (A.off sa (by simp[zap])) A'.sta (λ_ z=>by cases z) (λ_ z=>by cases z),?_,by rw[zaf];simp,⟨⟨dx,?_⟩,?_,?_,A'.fr.frame λb hb o ho=>?_⟩,?_,λb hb=>?_⟩
 ·obtain⟨dx',ev,e,z⟩:=A'.ins;exact⟨dx',ev,by rw[zak r2];exact e,z.tups (zb3 A'.sta)⟩
 ·rw[zak i1];exact A'.inp
 ·rw[zak os.1.symm];exact h1
 ·rw[zak os.2.1.symm];exact h2
 ·rw[zak os.2.2.symm];exact h3
 ·rw[zak (λz=>s1 (by rw[←z];exact hb))];exact ho
 ·have nd:=A.nd
  have o1:=ow r (by simp[zap])
  have o2:=ow ia (by simp[zap])
  have of':∀ b∈fasL fas,b≠p∧b≠ha∧b≠aa:=λb hb=>ow b (by simp[zap,hb])
  unfold zap at nd ⊢
  rw[za4]
  simp only[List.nodup_cons,List.mem_cons,not_or] at nd ⊢
  exact⟨⟨nd.1.1,nd.1.2.1,o1.1,o1.2.1,o1.2.2,nd.1.2.2⟩,⟨nd.2.1.1,o2.1,o2.2.1,o2.2.2,nd.2.1.2⟩,⟨os.1,os.2.1,os.2.2,nd.2.2.1⟩,⟨n1,n2,λz=>(of' p z).1 rfl⟩,⟨n3,λz=>(of' ha z).2.1 rfl⟩,λz=>(of' aa z).2.2 rfl,nd.2.2.2⟩
 ·have kn:∀ b∈kfp,b≠p∧b≠ha∧b≠aa:=λb hb=>by
   obtain⟨o,ho⟩:=hk b hb
   exact⟨zam ho p0,zam ho h0,zam ho a0⟩
  unfold zap at hb
  rw[za4] at hb
  simp only[List.mem_cons] at hb
  rcases hb with rfl | rfl | rfl | rfl | rfl | rfl | hb
  ·exact A.off b (by simp[zap])
  ·exact A.off b (by simp[zap])
  ·exact A.off b (by simp[zap])
  ·exact λz=>(kn _ z).1 rfl
  ·exact λz=>(kn _ z).2.1 rfl
  ·exact λz=>(kn _ z).2.2 rfl
  ·exact A.off b (by simp[zap,hb])
end
theorem zlu {α:Type}{xs:List α}{v:α} : atI (xs++[v]) (-1)=some v:=by
 unfold atI ixN
 rw[if_neg (by omega),if_pos (by simp;omega),show ((-1:Int)+((xs++[v]).length:Nat)).toNat=xs.length by simp;omega]
 simp
theorem zd9 {t:Fa}{fas:List Fa} : atI ((t::fas).reverse.map λt=>V.ref t.1) (-1)=some (.ref t.1):=by
 rw[List.reverse_cons,List.map_append]
 exact zlu
theorem zlv {c:Int}{fs ns:List Int}(h:Sm (c::fs)):∀ (i:Nat) (f n:Int),fs[i]?=some f→ns[i]?=some n→CMul f n:=λi f n e _=>.inl (h f (List.mem_cons_of_mem _ (zmg e)))
theorem zcW {ks:List Int}{cr:Int→Cr}{f:Fm}(h:WfF ks cr f):(zcc f).length=8:=by
 unfold zcc
 simp[h.h4,h.a2]
theorem KnownAt.craft {cC:Addr}{H:Hp}{ka:Addr}{ks:List Int}{cr:Int→Cr}{kfp:List Addr}(A:KnownAt cC H ka ks cr kfp) {m:Int}(hm:m∈ks):∃ kvs p f,H ka=some (.dK kvs)∧valV kvs (.inl m)=some (.ref p)∧zbm cC H p (cr m) f:=by
 obtain⟨kvs,e,q⟩:=A.d
 obtain⟨v,e1,p,f,rfl,e3,_⟩:=q.2.2 m hm
 exact⟨kvs,p,f,e,e1,e3⟩
theorem KnownAt.no {cC:Addr}{H:Hp}{ka:Addr}{ks:List Int}{cr:Int→Cr}{kfp:List Addr}(A:KnownAt cC H ka ks cr kfp) {m:Int}(hm:m∉ks):∃ kvs,H ka=some (.dK kvs)∧valV kvs (.inl m)=none:=by
 obtain⟨kvs,e,q⟩:=A.d
 exact⟨kvs,e,q.no hm⟩
def zcM (K:Fg) (H:Hp) (a:Addr) (ls:List (List Int)):Prop:=∃ xs,H a=some (.lst xs)∧Reps K H (ls.map nums) xs
theorem zcM.same {K:Fg}{H H':Hp}{a:Addr}{ls:List (List Int)}(e:Same H H') (h:zcM K H a ls):zcM K H' a ls:=by
 obtain⟨xs,h1,h2⟩:=h
 exact⟨xs,e _ _ h1,Reps.same e _ h2⟩
theorem zgQ {K:Fg}{H:Hp}{ls:List (List Int)}{v:V}{f:List Addr}(h:RepF H (zaN ls) v f):∃ a,v=.ref a∧zcM K H a ls:=by
 unfold zaN RepF at h
 obtain⟨a,xs,r,rfl,rfl,h1,h2⟩:=h
 exact⟨a,rfl,xs,h1,zaj.reps (K:=K) _ h2⟩
theorem zbm.out {K:Fg}{cC:Addr}{H:Hp}{p:Addr}{c:Cr}{fp:List Addr}(h9:∀ d∈c.deeds,zcs d) (h:zbm cC H p c fp):∃ dx y1 y2 b3 b4 dvs nvs,H p=some (.ins cC dx (flds (.ref y1) (.ref y2) (.ref b3) (.ref b4)))∧zcM K H y1 c.needs∧zcM K H y2 c.leaves∧H b3=some (.lst dvs)∧zdn H c.deeds dvs∧H b4=some (.lst nvs)∧R2 (λls x=>∃ a,x=.ref a∧zcM K H a ls) c.notes nvs:=by
 obtain⟨dx,w1,w2,w3,w4,f,rfl,hp,r⟩:=h
 obtain⟨x1,x2,x3,x4,f1,f2,f3,f4,e,g1,g2,g3,g4⟩:=zi9 r
 cases e
 obtain⟨y1,rfl,hy1⟩:=zgQ (K:=K) g1
 obtain⟨y2,rfl,hy2⟩:=zgQ (K:=K) g2
 obtain⟨b3,dvs,r3,rfl,h3,z3⟩:=RepF.lst_out g3
 obtain⟨b4,nvs,r4,rfl,h4,z4⟩:=RepF.lst_out g4
 refine⟨dx,y1,y2,b3,b4,dvs,nvs,hp,hy1,hy2,h3,⟨by simpa using z3.length,λi d x e1 e2=>?_⟩,h4,⟨by simpa using z4.length,λi ls x e1 e2=>?_⟩⟩
 ·obtain⟨f,hf⟩:=zaj.item z3 i (toD d) x (by rw[zgm,e1];rfl) e2
  exact zfk (zc2 (h9 d (zmg e1))) hf
 ·obtain⟨f,hf⟩:=zaj.item z4 i (zaN ls) x (by rw[zgm,e1];rfl) e2
  exact zgQ hf
theorem Cr.Rt.sm {c:Cr}(h:c.Rt):(∀ l∈c.needs,l.length=9∧Sm l)∧(∀ l∈c.leaves,l.length=9∧Sm l)∧(∀ ls∈c.notes,∀ l∈ls,l.length=9∧Sm l):=by
 have r:zcV c.needs c.leaves c.deeds c.notes=true:=h.r
 simp only[zcV,zgl,zdT,zdU,zc0,Bool.and_eq_true,decide_eq_true_eq,List.all_map,List.all_eq_true,Function.comp_apply,id_eq] at r
 obtain⟨⟨⟨_,a1⟩,_,a2⟩,_,_,c2⟩:=r
 exact⟨λl hl=>⟨h.nine.n9 l hl,ziq (a1 l hl)⟩,λl hl=>⟨h.nine.l9 l hl,ziq (a2 l hl)⟩,λls hls l hl=>⟨(h.nine.o9 ls hls).2 l hl,ziq ((c2 ls hls).2 l hl)⟩⟩
def badV:Option Nat→V
 | some i=>.int (i:Int)
 | none=>.non
theorem zlw {ls:List (List Int)}{P:List Int→Bool}{i:Nat}{l:List Int}(h:(ls.take i).findIdx? P=none) (e:ls[i]?=some l):ls.findIdx? P=if P l=true then some i else (ls.drop (i+1)).findIdx? P |>.map (· + (i+1)):=by
 obtain⟨hi,rfl⟩:=zge.mp e
 have s:ls=ls.take i++ls[i]::ls.drop (i+1):=by rw[List.getElem_cons_drop,List.take_append_drop]
 have l':(ls.take i).length=i:=by rw[List.length_take];omega
 conv=>lhs;rw[s]
 rw[List.findIdx?_append,h,List.findIdx?_cons]
 simp only[Option.none_or,l']
 split
 ·simp
 ·simp only[Option.map_map]
  congr 1
  funext x
  simp;omega
theorem zix {K:Fg}{H:Hp}{Q:VK}{g:Addr}{x y:V}(h:SqL K H g [x,y]∨SqT K H g [x,y]) (q:Q x H):rIx K (.ref g) (.int 0) H Q:=by
 rcases h with h | h
 ·exact zbc h zbJ q
 ·exact za7 h zbJ q
theorem ziy {K:Fg}{H:Hp}{Q:VK}{g:Addr}{x y:V}(h:SqL K H g [x,y]∨SqT K H g [x,y]) (q:Q y H):rIx K (.ref g) (.int 1) H Q:=by
 rcases h with h | h
 ·exact zbc h (zaV (j:=1) rfl) q
 ·exact za7 h (zaV (j:=1) rfl) q
end My

namespace L2
open PySem PySem.Spec PySem.Calls PyProof.Rows PySem.W
theorem i_bm0 {K:Fg}{σ:St}{H:Hp}{Q:VK}{T:String}{r:V→List V→Hp→VK→Prop}{to:TE}(h:to σ H λx H1=>tyV K T x H1∧r x [] H1 Q):tBM0 K T r to σ H Q:=h
section
variable {X : Cx} {CX : CXT} {C : Addr} {ps : List Str} {j k : Nat} {sp : Sp} {E : XK} {x m : Str} {o e : Expr} {es : List Expr} {ta te : TE} {t : TA} {p pos apos : Pos}
theorem q_mk (G:Mkr X.prog X.w X.K X.mg X.base x C ps j sp) (hr:Room k X.A) (hg:Gl X x) (ha:QA X (e::es) t) (hj:j+1≤k:=by decide) (hdb:(x == ("__debug__" : Str))=false:=by decide)
  (he:starEach (e::es) X.env=(false,eval e X.env)::starEach es X.env:=by rfl) (hpl:(backTo pos (starEach es X.env)).any (·.1)=false:=by rfl):QE X (.Call (.Name x p) (e::es) [] pos) (zh6 C sp [] E0 t):=⟨zmo G hr hg ha.run hj hdb he hpl⟩
theorem q_mth {pl:Sem Bool}(G:Mth CX X.prog X.w X.K X.mg X.base C m ps j sp) (c:Cls X.K C) (hr:Room k X.A) (hx:zcf CX X E) (he:QE X o ta) (ha:QA X (e::es) t) (hj:j≤k:=by decide)
  (hst:starEach (e::es) X.env=(false,eval e X.env)::starEach es X.env:=by rfl) (hpl:(backTo pos (starEach es X.env)).any (·.1)=false:=by rfl)
  (ht:eval (.Call (.Attribute o m apos) (e::es) [] pos) X.env=(do
   let ov ←eval o X.env
   standAt apos.atName
   let (f,first) ←holding [ov] (getMethod ov m pl)
   callWith pos f first (backTo pos (starEach (e::es) X.env)) (backToKw pos (keywordEach [] X.env))):=by rfl) :
  QE X (.Call (.Attribute o m apos) (e::es) [] pos) (zjB C m sp [] E ta t):=⟨za1 G c hr hx he.run ha.run hj hst hpl ht⟩
theorem zob (h:QE X e te) (hs:swapsWith e none pos.line X.env=pure false:=by rfl):QS X (.Expr e pos) (znp te):=⟨zaS h.run hs⟩
end
theorem zoc {X:Cx}{es:List Expr}{te:TE}{t:TA}{pos:Pos}{f:Expr}{a:List Expr}{k:List Keyword}(h:QE X (.Call f a k pos) te) (r:QA X es t):QA X (.Call f a k pos::es) (zcR te t):=⟨zbe h.run r.run rfl⟩
theorem zjm {X:Cx}{tg iter:Expr}{body:List Stmt}{wi:TI}{g:TG}{tb:TS}{pos:Pos}(hp:PassesOwn (model X.prog X.w) X.A X.env X.xe) (hc:X.calm=true) (hi:PI X tg iter wi) (hg:PG X tg g) (hb:QSs X body tb)
  (hs:∀ x,foldedSetIterable iter X.env x=pure x:=by intro _;rfl):QS X (.For tg iter body [] pos) (tFor wi g tb):=⟨zdW hp hc hi hg hb.run hs⟩
end L2
namespace My
open PySem L2 PyProof.Rows
def zaF (S:List Addr) (H:Hp) (T:List Addr) (H':Hp):Prop:=OffA S H H'∧(∀ b∈T,b∈S∨H b=none)∧Free H H'
theorem zaF.refl {S:List Addr}{H:Hp} : zaF S H S H:=⟨λ_ _ _ h=>h,λ_ h=>.inl h,λ_ h=>h⟩
theorem zaF.trans {S T U:List Addr}{H H1 H2:Hp}(a:zaF S H T H1) (b:zaF T H1 U H2):zaF S H U H2:=by
 have k:∀ c∈T,c∈S∨H c=none:=a.2.1
 refine⟨λc o n e=>b.1 c o (λz=>?_) (a.1 c o n e),λc hc=>?_,λc hc=>a.2.2 c (b.2.2 c hc)⟩
 ·rcases k c z with w | w
  ·exact n w
  ·rw[w] at e;cases e
 ·rcases b.2.1 c hc with z | z
  ·exact k c z
  ·exact .inr (a.2.2 c z)
theorem zaF.same {S:List Addr}{H H':Hp}(e:Same H H'):zaF S H S H':=⟨e.offA,λ_ h=>.inl h,e.fr⟩
theorem ze1 {S:List Addr}{H H':Hp}(e:OffA S H H') (h:∀ b∈S,∃ o,H' b=some o):Free H H':=λb hb=>by
 cases eb:H b with
 | none=>rfl
 | some o=>
  by_cases w:b∈S
  ·obtain⟨u,hu⟩:=h b w
   rw[hu] at hb;cases hb
  ·rw[e b o w eb] at hb;cases hb
theorem zaF.upd {S:List Addr}{H:Hp}{p:Addr}{o:HO}(h:p∈S):zaF S H S (upd H p o):=⟨zbv h,λ_ h=>.inl h,zb6⟩
theorem zaF.less {S T:List Addr}{H:Hp}(h:∀ b∈T,b∈S):zaF S H T H:=⟨λ_ _ _ h=>h,λb z=>.inl (h b z),λ_ h=>h⟩
theorem zaF.offR {cR cF cC:Addr}{H H':Hp}{r ka ia sa:Addr}{ks:List Int}{cr:Int→Cr}{fas:List Fa}{s:Rs}{kfp:List Addr}(e:OffA [r] H H') (A:RunX cR cF cC H' r ka ia sa ks cr fas s kfp):zaF (zap r ia sa fas) H (zap r ia sa fas) H':=
 ⟨λb o n=>e b o λz=>n (by rw[zms.mp z];simp[zap]),λ_ h=>.inl h,ze1 e λb hb=>by
  rw[zms.mp hb]
  obtain⟨dx,ev,z,_⟩:=A.ins
  exact⟨_,z⟩⟩
def zhI (cr:Int→Cr) (s:Rs) (f:Fm) (st:List Fm):Rs:=match zaH (cr f.n).leaves (zcc f) with
 | some i=>{s with en:=some (brk "leaves" f i)}
 | none=>match st with
  | []=>{s with st:=[],en:=some (zj3 f)}
  | g::r=>{s with st:=zhG cr g (f.hands.getD 0 0) (f.hands.getD 1 0)::r}
theorem zmD {cr:Int→Cr}{f:Fm}{st:List Fm}(h:¬ f.p=((cr f.n).deeds.length:Int)):come cr f st=(f::st,zcB cr f):=by
 cases st <;> (unfold come;rw[if_neg h])
theorem zod {cr:Int→Cr}{f:Fm}{st:List Fm}(h:f.p=((cr f.n).deeds.length:Int)):come cr f st=match zaH (cr f.n).leaves (zcc f) with
  | some i=>(f::st,some (brk "leaves" f i))
  | none=>match st with
   | []=>([],some (zj3 f))
   | g::r=>come cr (zhG cr g (f.hands.getD 0 0) (f.hands.getD 1 0)) r:=by
 cases st with
 | nil=>
  unfold come
  rw[if_pos h]
  all_goals (cases zaH (cr f.n).leaves (zcc f) <;> rfl)
 | cons g r=>
  conv=>lhs;unfold come
  rw[if_pos h]
  all_goals (cases zaH (cr f.n).leaves (zcc f) <;> rfl)
theorem Wf.take {ks:List Int}{cr:Int→Cr}{f g:Fm}{r:List Fm}{l0 l1:Int}(h:Wf ks cr (f::g::r)):Wf ks cr (zhG cr g l0 l1::r):=⟨λk hk=>by
 rcases List.mem_cons.mp hk with rfl | hk
 ·exact zjk (h.tail.1 g List.mem_cons_self) (h.2 g List.mem_cons_self)
 ·exact h.tail.1 k (List.mem_cons_of_mem _ hk),λk hk=>h.tail.2 k hk⟩
def zc9 (ks:List Int) (cr:Int→Cr) (s0:Rs) (f0:Fm) (st0:List Fm) (s:Rs):Prop:=s.k=s0.k∧s.ins=s0.ins∧((s.en=none∧∃ f st,s.st=f::st∧Wf ks cr (f::st)∧come cr f st=come cr f0 st0)∨∃ e,s.en=some e∧(s.st,some e)=come cr f0 st0)
def meaR (s:Rs):Nat:=2 * s.st.length+if s.en.isNone=true then 1 else 0
theorem zc9.leave {ks:List Int}{cr:Int→Cr}{s0:Rs}{f0:Fm}{st0:List Fm}{s:Rs}{f:Fm}{st:List Fm}(h:zc9 ks cr s0 f0 st0 s) (he:s.en=none) (hs:s.st=f::st) (hp:f.p=((cr f.n).deeds.length:Int)):zc9 ks cr s0 f0 st0 (zhI cr s f st)∧meaR (zhI cr s f st)<meaR s:=by
 obtain⟨k1,k2,h | ⟨e,he',_⟩⟩:=h
 ·obtain⟨_,f',st',e1,w,ec⟩:=h
  rw[hs] at e1
  injection e1 with e1 e2
  subst e1;subst e2
  rw[zod hp] at ec
  obtain⟨sst,sins,sk,sen⟩:=s
  dsimp only at hs he k1 k2
  subst hs;subst he
  unfold zhI meaR
  cases hb:zaH (cr f.n).leaves (zcc f) with
  | some i=>
   rw[hb] at ec
   exact⟨⟨k1,k2,.inr ⟨_,rfl,ec⟩⟩,by simp⟩
  | none=>
   rw[hb] at ec
   cases st with
   | nil=>exact⟨⟨k1,k2,.inr ⟨_,rfl,ec⟩⟩,by simp⟩
   | cons g r=>exact⟨⟨k1,k2,.inl ⟨rfl,_,r,rfl,w.take,ec⟩⟩,by simp⟩
 ·rw[he] at he';cases he'
theorem zc9.stay {ks:List Int}{cr:Int→Cr}{s0:Rs}{f0:Fm}{st0:List Fm}{s:Rs}{f:Fm}{st:List Fm}(h:zc9 ks cr s0 f0 st0 s) (he:s.en=none) (hs:s.st=f::st) (hp:¬ f.p=((cr f.n).deeds.length:Int)):({s with en:=zcB cr f} : Rs)=zcK cr s0 f0 st0:=by
 obtain⟨k1,k2,h | ⟨e,he',_⟩⟩:=h
 ·obtain⟨_,f',st',e1,w,ec⟩:=h
  rw[hs] at e1
  injection e1 with e1 e2
  subst e1;subst e2
  rw[zmD hp] at ec
  unfold zcK
  rw[←ec,←k1,←k2,←hs]
 ·rw[he] at he';cases he'
theorem zc9.ended {ks:List Int}{cr:Int→Cr}{s0:Rs}{f0:Fm}{st0:List Fm}{s:Rs}(h:zc9 ks cr s0 f0 st0 s) (he:¬ s.en=none):s=zcK cr s0 f0 st0:=by
 obtain⟨k1,k2,h | ⟨e,he',ec⟩⟩:=h
 ·exact absurd h.1 he
 ·unfold zcK
  rw[←ec,←k1,←k2,←he']
theorem zc9.top {ks:List Int}{cr:Int→Cr}{s0:Rs}{f0:Fm}{st0:List Fm}{s:Rs}(h:zc9 ks cr s0 f0 st0 s) (he:s.en=none):∃ f st,s.st=f::st∧Wf ks cr (f::st):=by
 obtain⟨_,_,h | ⟨e,he',_⟩⟩:=h
 ·obtain⟨_,f,st,e1,w,_⟩:=h;exact⟨f,st,e1,w⟩
 ·rw[he] at he';cases he'
theorem zeq {xs:List Int}{k:Int}(h0:0≤k) (h:k<(xs.length:Int)):atI (xs.map V.int) k=some (.int (xs.getD k.toNat 0)):=by
 have hk:k.toNat<xs.length:=by omega
 exact zhv h0 (by rw[zgm,List.getElem?_eq_getElem hk,List.getD_eq_getElem?_getD,List.getElem?_eq_getElem hk];rfl)
theorem zgR {xs:List Int}{j:Nat}{v:Int} : (xs.map V.int).set j (.int v)=(xs.set j v).map V.int:=by rw[List.map_set]
theorem zoe {t:Fa}{fas:List Fa} : ((t::fas).reverse.map λt=>V.ref t.1).dropLast=fas.reverse.map λt=>V.ref t.1:=by
 rw[List.reverse_cons,List.map_append]
 exact List.dropLast_concat
theorem zof {t:Fa}{fas:List Fa} : ((t::fas).reverse.map λt=>V.ref t.1)[((t::fas).reverse.map λt=>V.ref t.1).length - 1]?=some (.ref t.1):=by
 rw[List.reverse_cons,List.map_append]
 simp
theorem Rs.quiet {s:Rs}(h:s.en=none):({s with en:=none} : Rs)=s:=by cases s;cases h;rfl
theorem zmE {r ia sa:Addr}{t:Fa}{fas:List Fa} : ∀ b∈zap r ia sa fas,b∈zap r ia sa (t::fas):=λb h=>by
 unfold zap at h ⊢
 rw[za4]
 simp only[List.mem_cons] at h ⊢
 rcases h with z | z | z | z
 ·exact .inl z
 ·exact .inr (.inl z)
 ·exact .inr (.inr (.inl z))
 ·exact .inr (.inr (.inr (.inr (.inr (.inr z)))))
theorem zpN {r ia sa p ha aa:Addr}{fas:List Fa} : p∈zap r ia sa ((p,ha,aa)::fas):=by simp[zap,za4]
theorem zog {r ia sa p ha aa:Addr}{fas:List Fa} : ha∈zap r ia sa ((p,ha,aa)::fas):=by simp[zap,za4]
theorem zoh {r ia sa:Addr}{fas:List Fa} : sa∈zap r ia sa fas:=by simp[zap]
theorem zpO {r ia sa:Addr}{fas:List Fa} : ia∈zap r ia sa fas:=by simp[zap]
theorem zgs {r ia sa:Addr}{fas:List Fa} : r∈zap r ia sa fas:=by simp[zap]
def zoi (cr:Int→Cr) (ks:List Int) (s:Rs) (f:Fm) (st:List Fm) (m a0 a1:Int):Rs:=if m∉ks then {s with en:=some [.str "lost"]} else if 20≤(f::st).length then {s with en:=some [.str "deep"]} else
   match zaH (cr m).needs (zcC a0 a1) with
   | some i=>{s with en:=some (brk "needs" f i)}
   | none=>zcK cr s (zcD m a0 a1) (f::st)
theorem zj5 {cr:Int→Cr}{ks:List Int}{s:Rs}{f:Fm}{st:List Fm}{m g0 g1 t0 t1:Int} : zc4 cr ks s f st (.call m g0 g1 t0 t1)=zoi cr ks s f st m (f.hands.getD g0.toNat 0) (f.hands.getD g1.toNat 0):=rfl
theorem zaF.push {r ia sa y ha aa:Addr}{fas:List Fa}{H H1:Hp}{o:HO}(e:Same H H1) (h1:H y=none) (h2:H ha=none) (h3:H aa=none):zaF (zap r ia sa fas) H (zap r ia sa ((y,ha,aa)::fas)) (L2.upd H1 sa o):=by
 refine⟨e.offA.trans (zbv zoh),λb hb=>?_,λb hb=>e.fr b (zb6 b hb)⟩
 unfold zap at hb
 rw[za4] at hb
 simp only[List.mem_cons] at hb
 rcases hb with rfl | rfl | rfl | rfl | rfl | rfl | hb
 ·exact .inl zgs
 ·exact .inl zpO
 ·exact .inl zoh
 ·exact .inr h1
 ·exact .inr h2
 ·exact .inr h3
 ·exact .inl (by simp[zap,hb])
theorem ze2 {cr:Int→Cr} : ∀ {f:Fm}{st:List Fm},(come cr f st).1.length≤(f::st).length
 | f,[]=>by
  unfold come
  split
  ·split <;> simp
  ·simp
 | f,g::st=>by
  unfold come
  split
  ·split
   ·simp
   ·exact Nat.le_trans ze2 (by simp)
  ·simp
theorem zhJ {cr:Int→Cr}{ks:List Int}{s:Rs}(h:s.st.length≤20):(zcL cr ks s).st.length≤20:=by
 unfold zcL
 split
 ·exact h
 ·rename_i f st e
  have cl:∀ (t:Rs) (g:Fm),(zcK cr t g st).st.length≤20:=λt g=>by
   have:=ze2 (cr:=cr) (f:=g) (st:=st)
   rw[e,List.length_cons] at h
   rw[List.length_cons] at this
   exact Nat.le_trans this h
  split
  ·exact h
  ·rename_i d _
   cases d with
   | set hd l=>exact cl _ _
   | part hd l b=>exact cl _ _
   | draw hd lo hi=>
    unfold zc4
    dsimp only
    split
    ·exact h
    ·split
     ·exact cl _ _
     ·exact h
   | turn l q=>exact cl _ _
   | hold l=>
    unfold zc4
    dsimp only
    split
    ·exact h
    ·exact cl _ _
   | call m g0 g1 t0 t1=>
    unfold zc4
    dsimp only
    split
    ·exact h
    ·split
     ·exact h
     ·rename_i l20
      split
      ·exact h
      ·refine Nat.le_trans ze2 ?_
       simp only[List.length_cons] at l20 ⊢
       omega
theorem zmF {cr:Int→Cr}{ks:List Int}{s:Rs}{f:Fm}{st:List Fm}{d:Dd}(hst:s.st=f::st) (hd:zd7 (cr f.n) f.p=some d):zcL cr ks s=zc4 cr ks {s with k:=s.k+1,en:=s.en} f st d:=by
 obtain⟨a,b,c,e⟩:=s
 dsimp only at hst
 subst hst
 unfold zcL
 dsimp only
 rw[hd]
theorem zoj:decide (("part" : Str) ="set")=false:=by decide +kernel
theorem zlx:decide (("draw" : Str) ="set")=false∧decide (("draw" : Str) ="part")=false:=by decide +kernel
theorem ziz:decide (("turn" : Str) ="set")=false∧decide (("turn" : Str) ="part")=false∧decide (("turn" : Str) ="draw")=false:=by decide +kernel
theorem zgS:decide (("hold" : Str) ="set")=false∧decide (("hold" : Str) ="part")=false∧decide (("hold" : Str) ="draw")=false∧decide (("hold" : Str) ="turn")=false:=by decide +kernel
theorem zfx:decide (("call" : Str) ="set")=false∧decide (("call" : Str) ="part")=false∧decide (("call" : Str) ="draw")=false∧decide (("call" : Str) ="turn")=false∧decide (("call" : Str) ="hold")=false:=by decide +kernel
def zbY (H:Hp) (en:End) (v:V):Prop:=∃ T,v=.ref T∧H T=some (.tup (en.getD [.str "cut"]))
end My

namespace My
open PySem L2 PyProof.Rows
section
variable {H H' : Hp} {da ra sk : Addr} {ks : List Int} {cr : Int → Cr} {fas : List Fa} {st : List Fm} {ins : List Int} {lfp : List Addr} {f : Fm} {p ha aa : Addr}
end
end My

namespace My
open PySem L2 PyProof.Rows
theorem zok {ks:List Int}{cr:Int→Cr}{s:Rs}(h:WfR ks cr s) (he:s.en=none):(zcL cr ks s).k=s.k+1:=by
 obtain⟨f,st,e,hp⟩:=h.on he
 have hw:=h.w
 rw[e] at hw
 have wf:=hw.1 f List.mem_cons_self
 have hlt:f.p.toNat<(cr f.n).deeds.length:=by have:=wf.p0;omega
 unfold zcL
 rw[e]
 dsimp only
 unfold zd7
 rw[List.getElem?_eq_getElem hlt]
 dsimp only
 generalize (cr f.n).deeds[f.p.toNat]=d
 cases d with
 | set hd l=>rfl
 | part hd l b=>rfl
 | draw hd lo hi=>
  unfold zc4
  dsimp only
  split
  ·rfl
  ·split <;> rfl
 | turn l q=>rfl
 | hold l=>
  unfold zc4
  dsimp only
  split <;> rfl
 | call m g0 g1 t0 t1=>
  unfold zc4
  dsimp only
  split
  ·rfl
  ·split
   ·rfl
   ·split <;> rfl
theorem zpP {ks:List Int}{cr:Int→Cr}(hrt:∀ m∈ks,(cr m).Rt):∀ (n:Nat) {s:Rs},WfR ks cr s→(goR cr ks n s).k≤s.k+(n:Int)∧((goR cr ks n s).en=none→(goR cr ks n s).k=s.k+(n:Int))
 | 0,s,_=>⟨by show s.k≤_;omega,λ_=>by show s.k=_;omega⟩
 | n+1,s,h=>by
  have e:goR cr ks (n+1) s=if s.en=none then goR cr ks n (zcL cr ks s) else s:=rfl
  rw[e]
  by_cases he:s.en=none
  ·rw[if_pos he]
   have ih:=zpP hrt n (zgO hrt h he)
   rw[zok h he] at ih
   exact⟨by omega,λz=>by have:=ih.2 z;omega⟩
  ·rw[if_neg he]
   exact⟨by omega,λz=>absurd z he⟩
theorem ziA {ks:List Int}{cr:Int→Cr} : ∀ (n:Nat) {s:Rs},s.st.length≤20→(goR cr ks n s).st.length≤20
 | 0,s,h=>h
 | n+1,s,h=>by
  unfold goR
  split
  ·exact ziA n (zhJ h)
  ·exact h
def zol:V→Bool
 | .int _=>true
 | .str _=>true
 | _=>false
def vD:V→D
 | .int i=>.int i
 | .str s=>.str s
 | _=>.non
def zcN (en:End):Prop:=∀ e,en=some e→∃ s xs,e=.str s::xs∧s≠ "cut" ∧e.all zol=true∧e.length≤5
theorem zcN.none:zcN none:=λe z=>by cases z
theorem zdq {w:Str}{f:Fm}{i:Nat} : zcN (some (brk w f i)):=λe z=>by
 cases z
 exact⟨_,_,rfl,by decide +kernel,rfl,by show 5≤5;omega⟩
theorem zj6 {f:Fm} : zcN (some (zj3 f)):=λe z=>by
 cases z
 exact⟨_,_,rfl,by decide +kernel,rfl,by show 3≤5;omega⟩
theorem zly:zcN (some [.str "dry"]):=λe z=>by
 cases z
 exact⟨_,_,rfl,by decide +kernel,rfl,by show 1≤5;omega⟩
theorem ziB:zcN (some [.str "stray"]):=λe z=>by
 cases z
 exact⟨_,_,rfl,by decide +kernel,rfl,by show 1≤5;omega⟩
theorem zj7:zcN (some [.str "lost"]):=λe z=>by
 cases z
 exact⟨_,_,rfl,by decide +kernel,rfl,by show 1≤5;omega⟩
theorem zj8:zcN (some [.str "deep"]):=λe z=>by
 cases z
 exact⟨_,_,rfl,by decide +kernel,rfl,by show 1≤5;omega⟩
theorem zfy {cr:Int→Cr}{f:Fm} : zcN (zcB cr f):=by
 unfold zcB
 cases zaH ((cr f.n).notes.getD f.p.toNat []) (zcc f) with
 | none=>exact zcN.none
 | some i=>exact zdq
theorem zcF {cr:Int→Cr} : ∀ {f:Fm}{st:List Fm},zcN (come cr f st).2
 | f,[]=>by
  unfold come
  split
  ·split
   ·exact zdq
   ·exact zj6
  ·exact zfy
 | f,g::st=>by
  unfold come
  split
  ·split
   ·exact zdq
   ·exact zcF
  ·exact zfy
theorem zlz {cr:Int→Cr}{ks:List Int}{s:Rs}(h:zcN s.en):zcN (zcL cr ks s).en:=by
 unfold zcL
 split
 ·exact h
 ·split
  ·exact h
  ·rename_i d _
   cases d with
   | set hd l=>exact zcF
   | part hd l b=>exact zcF
   | draw hd lo hi=>
    unfold zc4
    dsimp only
    split
    ·exact zly
    ·split
     ·exact zcF
     ·exact ziB
   | turn l q=>exact zcF
   | hold l=>
    unfold zc4
    dsimp only
    split
    ·exact zdq
    ·exact zcF
   | call m g0 g1 t0 t1=>
    unfold zc4
    dsimp only
    split
    ·exact zj7
    ·split
     ·exact zj8
     ·split
      ·exact zdq
      ·exact zcF
theorem zfz {ks:List Int}{cr:Int→Cr} : ∀ (n:Nat) {s:Rs},zcN s.en→zcN (goR cr ks n s).en
 | 0,s,h=>h
 | n+1,s,h=>by
  unfold goR
  split
  ·exact zfz n (zlz h)
  ·exact h
def zgT (en:End):D:=.tup ((en.getD [.str "cut"]).map vD)
theorem zhK {K:Fg}{H:Hp} : ∀ {xs:List V},xs.all zol=true→Reps K H (xs.map vD) xs
 | [],_=>by unfold Reps;rfl
 | x::xs,h=>by
  rw[List.all_cons,Bool.and_eq_true] at h
  rw[zmc]
  unfold Reps
  refine⟨x,xs,rfl,?_,zhK h.2⟩
  cases x <;> first | (unfold vD Rep;rfl) | (cases h.1)
theorem zcN.flat {en:End}(h:zcN en):(en.getD [.str "cut"]).all zol=true∧(en.getD [.str "cut"]).length≤5:=by
 cases en with
 | none=>exact⟨rfl,by show 1≤5;omega⟩
 | some e=>
  obtain⟨s,xs,e1,_,e3,e4⟩:=h e rfl
  exact⟨e3,e4⟩
theorem zbY.rep {K:Fg}{H:Hp}{en:End}{v:V}(h:zbY H en v) (k:zcN en):Rep K H (zgT en) v:=by
 obtain⟨T,rfl,hT⟩:=h
 unfold zgT Rep
 exact⟨T,_,rfl,SqT.of hT,zhK k.flat.1⟩
theorem zdz {en:End}(k:zcN en):dep (zgT en)≤60:=by
 have:∀ xs:List V,deps (xs.map vD)≤1:=λxs=>by
  induction xs with
  | nil=>unfold List.map deps;omega
  | cons x xs ih=>
   rw[zmc]
   unfold deps
   have:dep (vD x)≤1:=by cases x <;> (unfold vD dep;omega)
   omega
 unfold zgT dep
 have:=this (en.getD [.str "cut"])
 omega
theorem zjn {en:End}(h:zcN en):pyEq (zgT en) (.tup [.str "cut"])=en.isNone:=by
 cases en with
 | none=>decide +kernel
 | some e=>
  obtain⟨s,xs,rfl,e2,_,_⟩:=h e rfl
  show pyEq (.tup (vD (.str s)::xs.map vD)) (.tup [.str "cut"])=false
  unfold pyEq zbF
  unfold vD pyEq
  simp[e2]
structure PsR (numbers kinds:List Int) (ps:List (Int × Cr)):Prop where
 nums:ps.map (·.1)=numbers
 nd:numbers.Nodup
 nb:∀ n∈numbers,0≤n∧n<100
 rt:∀ p∈ps,p.2.Rt
 oath:∀ (i:Nat) p,ps[i]?=some p→p.2.needs=(zb9 (kinds.getD i 0)).1
theorem PsOk.r {numbers kinds:List Int}{ps:List (Int × Cr)}(h:PsOk numbers kinds ps):PsR numbers kinds ps:=⟨h.nums,h.nd,h.nb,h.rt,λi p e=>(h.oath i p e).1⟩
theorem PsR.len {numbers kinds:List Int}{ps:List (Int × Cr)}(h:PsR numbers kinds ps):ps.length=numbers.length:=by rw[←h.nums,zlm]
theorem PsR.get {numbers kinds:List Int}{ps:List (Int × Cr)}(h:PsR numbers kinds ps) {i:Nat}{p:Int × Cr}(e:ps[i]?=some p):numbers[i]?=some p.1∧crBy ps p.1=p.2:=
 ⟨by rw[←h.nums,zgm,e];rfl,zlr (i:=i) (by rw[h.nums];exact h.nd) (by rw[e])⟩
theorem zlA {k a0 a1:Int}(h0:0≤a0) (h1:0≤a1):zaH (zb9 k).1 (zcC a0 a1)=none:=by
 have e4:zcj (zbK 4) (zcC a0 a1)=a0:=by simp[zcj,zbK,zcC,dot,List.range_succ]
 have e5:zcj (zbK 5) (zcC a0 a1)=a1:=by simp[zcj,zbK,zcC,dot,List.range_succ]
 have n0:¬ a0<0:=by omega
 have n1:¬ a1<0:=by omega
 unfold zb9 zaH
 split <;> simp[List.findIdx?_cons,e4,e5,n0,n1]
theorem PsR.met {numbers kinds:List Int}{ps:List (Int × Cr)}(h:PsR numbers kinds ps) {m:Int}(hm:m∈numbers) {a0 a1:Int}(h0:0≤a0) (h1:0≤a1):zaH (crBy ps m).needs (zcC a0 a1)=none:=by
 rw[←h.nums] at hm
 obtain⟨p,hp,rfl⟩:=zmm.mp hm
 obtain⟨i,hi⟩:=List.getElem?_of_mem hp
 rw[(h.get hi).2,h.oath i p hi]
 exact zlA h0 h1
theorem Cr.Rt.setDeed {c:Cr}(r:c.Rt) {i:Nat}{d:Dd}(hd:zaO (c.deeds.length:Int) d=true) (h9:zcs d):({c with deeds:=c.deeds.set i d} : Cr).Rt:=by
 refine⟨⟨r.nine.n9,r.nine.l9,λe he=>?_,r.nine.o9,r.nine.n,r.nine.l,by show (c.deeds.set i d).length≤100;rw[List.length_set];exact r.nine.d,r.nine.o⟩,?_⟩
 ·rcases List.mem_or_eq_of_mem_set he with z | z
  ·exact r.nine.d9 e z
  ·rw[z];exact h9
 ·have rr:zcV c.needs c.leaves c.deeds c.notes=true:=r.r
  show zcV c.needs c.leaves (c.deeds.set i d) c.notes=true
  unfold zcV zdT zdU at rr ⊢
  simp only[List.length_set,Bool.and_eq_true,List.all_map,List.all_eq_true,Function.comp_apply,id_eq] at rr ⊢
  refine⟨rr.1,⟨rr.2.1.1,λe he=>?_⟩,rr.2.2⟩
  rcases List.mem_or_eq_of_mem_set he with z | z
  ·exact rr.2.1.2 e z
  ·rw[z];exact hd
theorem PsR.set {numbers kinds:List Int}{n:Int}{c:Cr}{ps:List (Int × Cr)}(h:PsR numbers kinds ((n,c)::ps)) {i:Nat}{d:Dd}(hd:zaO (c.deeds.length:Int) d=true) (h9:zcs d):PsR numbers kinds ((n,{c with deeds:=c.deeds.set i d})::ps):=by
 refine⟨h.nums,h.nd,h.nb,λp hp=>?_,λj p e=>?_⟩
 ·rcases List.mem_cons.mp hp with rfl | hp
  ·exact (h.rt _ List.mem_cons_self).setDeed hd h9
  ·exact h.rt p (List.mem_cons_of_mem _ hp)
 ·cases j with
  | zero=>
   cases e
   exact h.oath 0 (n,c) rfl
  | succ j=>exact h.oath (j+1) p e
section
variable {cR cF cC : Addr} {H H' H0 : Hp} {r ka ia sa : Addr} {ks : List Int} {cr : Int → Cr} {fas : List Fa} {s : Rs} {kfp : List Addr} {S : List Addr}
theorem RunX.offS (A:RunX cR cF cC H r ka ia sa ks cr fas s kfp) (o:OffA S H H') (h:∀ b∈S,b∉zap r ia sa fas∧b∉kfp∧b≠ka∧∀ xs,H b≠some (.tup xs)):RunX cR cF cC H' r ka ia sa ks cr fas s kfp:=
 A.frame (λb xs e=>o b _ (λz=>(h b z).2.2.2 xs e) e) (λb hb u e=>o b u (λz=>by
  rcases hb with w | w
  ·exact (h b z).1 w
  ·exact (h b z).2.1 w) e) λkvs e=>o ka _ (λz=>(h ka z).2.2.1 rfl) e
theorem RunX.youngS (A:RunX cR cF cC H r ka ia sa ks cr fas s kfp) (y:zpu H0 H H') (t:Tups H H') (h1:∀ b∈zap r ia sa fas,H0 b=none) (h2:∀ b∈ka::kfp,H0 b=none):RunX cR cF cC H' r ka ia sa ks cr fas s kfp:=
 A.frame t (λb hb u e=>y b u (by
  rcases hb with w | w
  ·exact h1 b w
  ·exact h2 b (List.mem_cons_of_mem _ w)) e) λkvs e=>y ka _ (h2 ka List.mem_cons_self) e
theorem RunX.beside {r' ka' ia' sa':Addr}{ks':List Int}{cr':Int→Cr}{fas':List Fa}{s':Rs}{kfp':List Addr}(A:RunX cR cF cC H r ka ia sa ks cr fas s kfp) (B:RunX cR cF cC H r' ka' ia' sa' ks' cr' fas' s' kfp') (o:OffA (zap r' ia' sa' fas') H H') (h:∀ b∈zap r' ia' sa' fas',b∉zap r ia sa fas∧b∉kfp):RunX cR cF cC H' r ka ia sa ks cr fas s kfp:=
 A.offS o λb hb=>by
  obtain⟨u,e,n1,n2⟩:=B.has b hb
  refine⟨(h b hb).1,(h b hb).2,λz=>?_,λxs z=>?_⟩
  ·obtain⟨kvs,ek,_⟩:=A.kn.d
   rw[←z,e] at ek
   exact n2 kvs (Option.some.inj ek)
  ·rw[e] at z;exact n1 xs (Option.some.inj z)
theorem RunX.ntup (A:RunX cR cF cC H r ka ia sa ks cr fas s kfp) (o:OffA (zap r ia sa fas) H H'):Tups H H':=λb xs e=>o b _ (λz=>by
 obtain⟨u,e',n1,_⟩:=A.has b z
 rw[e] at e'
 cases e'
 exact n1 xs rfl) e
end
theorem zmG {cr:Int→Cr}{ks ks':List Int}(h:∀ m,m∈ks↔m∈ks') (s:Rs):zcL cr ks s=zcL cr ks' s:=by
 unfold zcL
 split
 ·rfl
 ·split
  ·rfl
  ·rename_i d _
   cases d <;> first | rfl | (unfold zc4;simp only[h])
theorem znl {cr:Int→Cr}{ks ks':List Int}(h:∀ m,m∈ks↔m∈ks'):∀ (n:Nat) (s:Rs),goR cr ks n s=goR cr ks' n s
 | 0,s=>rfl
 | n+1,s=>by
  have e1:goR cr ks (n+1) s=if s.en=none then goR cr ks n (zcL cr ks s) else s:=rfl
  have e2:goR cr ks' (n+1) s=if s.en=none then goR cr ks' n (zcL cr ks' s) else s:=rfl
  rw[e1,e2,zmG h,znl h n]
theorem zmH {K:Fg}{a:Addr}{xs:List V}{g:TG}{tb:TS}{D:Ends}{σ:L2.St}{H:Hp}(Pv:Nat→L2.St→Hp→Prop) (h0:Pv 0 σ H) (hl:∀ i σ H,i≤xs.length→Pv i σ H→SqL K H a xs)
  (hs:∀ i x T σ H,xs[i]?=some x→Pv i σ H→H T=none→g (.ref T) σ (upd H T (.tup [.int i,x])) λσ2 H2=>tb {D with nx:=Pv (i+1),ct:=Pv (i+1),bk:=D.nx} σ2 H2) (hd:∀ σ H,Pv xs.length σ H→D.nx σ H):zjN (Itn K a) g tb D σ H:=by
 refine⟨λi m σ H=>m=xs.length - i∧i≤xs.length∧Pv i σ H,⟨xs.length,by simp,Nat.zero_le _,h0⟩,?_⟩
 rintro i m σ H ⟨rfl,hi,p⟩
 have q:=hl i σ H hi p
 by_cases hlt:i<xs.length
 ·refine .inr ⟨⟨xs,xs[i],q,by simp[hlt]⟩,Pv (i+1),λσ' H' p'=>⟨xs.length - (i+1),by omega,rfl,hlt,p'⟩,λx H' y=>?_⟩
  obtain⟨T,nT,rfl,y⟩:=y
  have:=y xs xs[i] q (by simp)
  subst this
  exact hs i _ T σ _ (by simp) p nT
 ·have e:i=xs.length:=by omega
  subst e
  exact .inl ⟨⟨xs,q,Nat.le_refl _⟩,hd σ H p⟩
theorem zmI {fs:List Int}{i:Nat}{f:Int}(h:fs[i]?=some f):(fs.take (i+1)).sum=(fs.take i).sum+f:=by
 rw[List.take_add_one,h,List.sum_append]
 simp
theorem zgt:∀ {fs:List Int},(∀ f∈fs,0≤f)→0≤fs.sum
 | [],_=>by simp
 | f::fs,h=>by
  rw[List.sum_cons]
  have:=h f List.mem_cons_self
  have:=zgt (fs:=fs) λg hg=>h g (List.mem_cons_of_mem _ hg)
  omega
end My
namespace My
open PySem L2 PyProof.Rows
theorem zlB {K:Fg}{H:Hp}{T:Addr}(h:H T=some (.tup [V.str "cut"])):Rep K H (.tup [.str "cut"]) (.ref T):=by
 unfold Rep
 refine⟨T,_,rfl,SqT.of h,?_⟩
 unfold Reps
 refine⟨_,_,rfl,by unfold Rep;rfl,?_⟩
 unfold Reps
 rfl
end My

set_option compiler.extract_closed false
set_option maxHeartbeats 8000000
local macro_rules | `(tactic| walk_at "gs1") => `(tactic| first
  | (with_reducible first | refine L2.i_asg ?_ | refine L2.znP ?_ | refine L2.i_ret ?_ | refine L2.zpg ?_ | refine L2.zph ?_ | refine L2.i_ifK fun T kT U kU => ?_ | refine L2.i_if ?_ | refine L2.zpd ?_ | refine L2.i_B ?_ | refine L2.i_bl ?_ | refine L2.iteT ?_ | refine L2.iteF ?_ | refine L2.iteNT ?_ | refine L2.iteNF ?_ | refine L2.zmk ?_ | refine L2.i_bm ?_ | refine L2.i_bm0 ?_ | refine L2.zps ?_ | refine L2.i_fld ?_ | refine L2.zpt ?_ | refine L2.znV ?_ | refine L2.zpj ?_ | refine L2.i_orV ?_ | refine L2.i_notV ?_ | refine L2.i_and ?_ | refine L2.i_or ?_ | refine L2.i_not ?_ | refine L2.i_for ?_ | refine L2.zpk ?_ | refine L2.znR ?_ | refine L2.zpl ?_ | refine L2.i_zip ?_ | refine L2.zpm ?_ | refine L2.i_rev ?_ | refine L2.zpn ?_ | refine L2.i_rng2 ?_ | refine L2.i_sl ?_ | refine L2.zml ?_ | refine L2.zpo ?_ | refine L2.znS ?_ | refine L2.i_par ?_ | refine L2.i_parv ?_ | refine L2.zpp ?_ | refine L2.i_c ?_ | refine L2.i_dget2 ?_ | refine L2.zpD ?_ | refine L2.i_pairs ?_ | refine L2.i_pairs0 ?_ | refine L2.i_op ?_ | refine L2.i_un ?_ | refine L2.zpe ?_ | refine L2.i_nil ?_ | refine L2.zpf ?_ | refine L2.i_callx ?_ | refine L2.i_fs ?_ | refine L2.zn0 ?_ | refine L2.i_din ?_ | refine L2.zmu ?_ | refine L2.zpE ?_ | refine L2.zpF ?_ | refine L2.zpG ?_ | refine L2.zn3 ?_ | refine L2.zpI ?_ | refine L2.i_tru ?_ | refine L2.i_CB ?_ | refine L2.i_lst ?_ | refine L2.i_tup ?_ | refine L2.i_rI0 ?_ | refine L2.i_rU ?_ | refine L2.znO ?_ | refine L2.zpc ?_ | refine L2.i_neI ?_ | refine L2.i_eqB ?_ | refine L2.i_neB ?_ | refine L2.i_eqS ?_ | refine L2.i_neS ?_)
  | ((with_reducible refine L2.zi3 ?_ ?_); focus (first | exact Or.inl ⟨by omega, by omega⟩ | exact Or.inr ⟨by omega, by omega⟩))
  | ((with_reducible refine L2.i_mod ?_ ?_); focus omega)
  | ((with_reducible refine L2.zpb ?_ ?_ ?_); (focus omega); (focus omega))
  | ((with_reducible refine L2.i_pow ?_ ?_ ?_ ?_); (focus decide); (focus decide); (focus decide))
  | ((with_reducible refine L2.zpa (v := ?_) ?_ ?_); rotate_left; focus rfl)
  | with_reducible refine L2.goOn (by assumption) ?_)
local macro_rules | `(tactic| walk_at "go1") => `(tactic| first | with_reducible refine L2.zng fun NX kN => ?_ | walk_at "gs1" | (refine L2.zpa (by rfl) ?_))
local macro_rules | `(tactic| walk_at "gs") => `(tactic| repeat (walk_at "gs1"))
local macro_rules | `(tactic| walk_at "go") => `(tactic| repeat (walk_at "go1"))
local macro_rules | `(tactic| walk_at "sc") => `(tactic| exact ⟨rfl, rfl, rfl, by decide +kernel, rfl, by decide +kernel, by decide +kernel⟩)
local macro_rules | `(tactic| walk_at "q") => `(tactic| ((try with_reducible refine L2.goOn (by assumption) ?_); with_reducible refine L2.zng fun NX kN => ?_))
local macro_rules | `(tactic| walk_at "sm") => `(tactic| first | exact L2.sl rfl | exact L2.zaz (by simp))
namespace My
open PySem L2 PyProof.Rows
section
open PySem PySem.Spec PySem.Calls PyProof.Rows PySem.W L2
theorem bA {K:Fg}(hA:((zBoo K).all id,zSee K)=(true,zSig)) (j:Nat) {b:Bool}(h:(zBoo K)[j]?=some b):b=true:=List.all_eq_true.mp (Prod.mk.inj hA).1 b (zmg h)
theorem eA {K:Fg}(hA:((zBoo K).all id,zSee K)=(true,zSig)) (j:Nat) {α:Type} [BEq α] [LawfulBEq α] {x y:α}(h:(zBoo K)[j]?=some (x == y)):x=y:=eq_of_beq (bA hA j h)
def fA {K:Fg}(hA:((zBoo K).all id,zSee K)=(true,zSig)) (i j:Nat) (a:Addr) (n q:Str) (d:Stmt) (h1:(zSee K)[i]?=some (L2.zaQ K a)) (h2:zSig[i]?=some (gS n q d)) (h3:(zBoo K)[j]?=some (L2.zaq K a q)):=L2.zpL (n:=n) (ps:=zan d) (b:=zal d) (sc:=zac d) (Option.some.inj (h1.symm.trans ((congrArg (λl:List (Option L2.Sig)=>l[i]?) (Prod.mk.inj hA).2).trans h2))) (bA hA j h3)
end
theorem zea:FnScope ["line","numbers","total","factor","number"] ["line","numbers"] (zac s_worth):=by walk_at "sc"
theorem zmJ:FnScope ["line","numbers"] ["line","numbers"] (zac s_holds):=by walk_at "sc"
theorem zer:FnScope ["self","number","asked"] ["self","number","asked"] (zac s_Frame___init__):=by walk_at "sc"
theorem zeK:FnScope ["self"] ["self"] (zac s_Frame_numbers):=by walk_at "sc"
theorem zfA:FnScope ["self","hall","number","given","inputs"] ["self","hall","number","given","inputs"] (zac s_Run___init__):=by walk_at "sc"
theorem zhL:FnScope ["self","fuel"] ["self","fuel"] (zac s_Run_go):=by walk_at "sc"
theorem zhM:FnScope ["self"] ["self"] (zac s_Run_steps):=by walk_at "sc"
theorem zgU:FnScope ["self"] ["self"] (zac s_Run_frames):=by walk_at "sc"
theorem zco:FnScope ["self","frame","deed","kind","given"] ["self"] (zac s_Run_step):=by walk_at "sc"
theorem zgu:FnScope ["self","hand","number","frame"] ["self","hand","number"] (zac s_Run_put):=by walk_at "sc"
theorem zfB:FnScope ["self","hand","low","high","drawn"] ["self","hand","low","high"] (zac s_Run_draw):=by walk_at "sc"
theorem zfC:FnScope ["self","line","frame"] ["self","line"] (zac s_Run_hold):=by walk_at "sc"
theorem ziC:FnScope ["self","number","given"] ["self","number","given"] (zac s_Run_call):=by walk_at "sc"
theorem zhN:FnScope ["self","number","given"] ["self","number","given"] (zac s_Run_begin):=by walk_at "sc"
theorem zdK:FnScope ["self","place","frame"] ["self","place"] (zac s_Run_come_to):=by walk_at "sc"
theorem zby:FnScope ["self","frame"] ["self"] (zac s_Run_is_behind_last_deed):=by walk_at "sc"
theorem zcX:FnScope ["self","frame"] ["self"] (zac s_Run_meet_notes):=by walk_at "sc"
theorem zeF:FnScope ["self","frame"] ["self"] (zac s_Run_leave):=by walk_at "sc"
theorem zdV:FnScope ["self","left_0","left_1","frame","taken"] ["self","left_0","left_1"] (zac s_Run_take):=by walk_at "sc"
theorem zfD:FnScope ["self","frame"] ["self","frame"] (zac s_Run_craft_of):=by walk_at "sc"
theorem zdr:FnScope ["self","word","lines","numbers","unmet","frame"] ["self","word","lines","numbers"] (zac s_Run_meets):=by walk_at "sc"
theorem zcO:FnScope ["lines","numbers","spot","line"] ["lines","numbers"] (zac s_first_unmet):=by walk_at "sc"
theorem zeL:FnScope ["asked"] ["asked"] (zac s_asked_numbers):=by walk_at "sc"
theorem zes:FnScope ["self","needs","leaves","deeds","notes"] ["self","needs","leaves","deeds","notes"] (zac s_Craft___init__):=by walk_at "sc"
theorem zfE:FnScope ["lines"] ["lines"] (zac s_copied_lines):=by walk_at "sc"
theorem zfW:FnScope ["deed"] ["deed"] (zac s_copied_deed):=by walk_at "sc"
theorem zfF:FnScope ["craft"] ["craft"] (zac s_copied_craft):=by walk_at "sc"
theorem zhO:FnScope ["craft"] ["craft"] (zac s_called_by):=by walk_at "sc"
theorem zmK:FnScope ["craft"] ["craft"] (zac s_right):=by walk_at "sc"
theorem zeb:FnScope ["craft","needs_right"] ["craft"] (zac s_oath_right):=by walk_at "sc"
theorem zdL:FnScope ["deeds","count"] ["deeds"] (zac s_deeds_right):=by walk_at "sc"
theorem zdM:FnScope ["craft","as_many"] ["craft"] (zac s_notes_right):=by walk_at "sc"
theorem zfX:FnScope ["lines","nought_spots"] ["lines","nought_spots"] (zac s_lines_right):=by walk_at "sc"
theorem zec:FnScope ["line","nought_spots","small"] ["line","nought_spots"] (zac s_line_right):=by walk_at "sc"
theorem zed:FnScope ["deed","last_place","kind"] ["deed","last_place"] (zac s_deed_right):=by walk_at "sc"
theorem zfY:FnScope ["low","high"] ["low","high"] (zac s_range_right):=by walk_at "sc"
theorem zee:FnScope ["number","given","taken","hands"] ["number","given","taken"] (zac s_call_right):=by walk_at "sc"
theorem zef:FnScope ["hands"] ["hands"] (zac s_two_hands_right):=by walk_at "sc"
theorem zgV:FnScope ["hand"] ["hand"] (zac s_hand_right):=by walk_at "sc"
theorem zfG:FnScope ["number"] ["number"] (zac s_small_enough):=by walk_at "sc"
theorem zj9:FnScope ["low","number","high"] ["low","number","high"] (zac s_between):=by walk_at "sc"
theorem zeM:FnScope ["self"] ["self"] (zac s_Hall___init__):=by walk_at "sc"
theorem ziD:FnScope ["self","number","craft"] ["self","number","craft"] (zac s_Hall_lay):=by walk_at "sc"
theorem zhP:FnScope ["self","number"] ["self","number"] (zac s_Hall_tear):=by walk_at "sc"
theorem zeN:FnScope ["self"] ["self"] (zac s_Hall_standing):=by walk_at "sc"
theorem zcP:FnScope ["self","told","number"] ["self"] (zac s_Hall_crafts):=by walk_at "sc"
theorem zeg:FnScope ["self","number"] ["self","number"] (zac s_Hall_must_stand):=by walk_at "sc"
theorem zet:FnScope ["self","number"] ["self","number"] (zac s_Hall_called_at):=by walk_at "sc"
theorem zfH:FnScope ["self","number"] ["self","number"] (zac s_Hall_release):=by walk_at "sc"
theorem zbQ:FnScope ["self","number","caller"] ["self","number"] (zac s_Hall_release_callers):=by walk_at "sc"
theorem zhQ:FnScope ["craft","other"] ["craft","other"] (zac s_same_oath):=by walk_at "sc"
theorem zhR:FnScope ["script","k"] ["script","k"] (zac s_l_cell_at):=by walk_at "sc"
theorem zmL:FnScope ["cell","k","many"] ["cell","k","many"] (zac s_l_mix):=by walk_at "sc"
theorem zfI:FnScope ["cell","k","kind"] ["cell","k"] (zac s_l_number):=by walk_at "sc"
theorem zlC:FnScope ["i"] ["i"] (zac s_l_bare):=by walk_at "sc"
theorem zds:FnScope ["cell","zero","line","k"] ["cell","zero"] (zac s_l_line_by):=by walk_at "sc"
theorem zlD:FnScope ["cell"] ["cell"] (zac s_l_free):=by walk_at "sc"
theorem zdt:FnScope ["cell","count","low"] ["cell","count"] (zac s_l_other_deed):=by walk_at "sc"
theorem zbd:FnScope ["cell","count","numbers","kinds","more","hand","way","at","first","pair"] ["cell","count","numbers","kinds"] (zac s_l_first_deed):=by walk_at "sc"
theorem zbH:FnScope ["cell","count","numbers","kinds","more","way","at"] ["cell","count","numbers","kinds"] (zac s_l_second_deed):=by walk_at "sc"
theorem za5:FnScope ["kind","cells","numbers","kinds","count","deeds","needs","notes"] ["kind","cells","numbers","kinds"] (zac s_l_sworn_parts):=by walk_at "sc"
theorem zaT:FnScope ["script","start","many","size","numbers","k","number","kinds","found","count","cells"] ["script","start","many","size"] (zac s_l_hall_parts):=by walk_at "sc"
theorem zbM:FnScope ["cell","count","line","hand","kind","low","given"] ["cell","count"] (zac s_l_deed_by):=by walk_at "sc"
theorem zbi:FnScope ["script","many","placed","number","parts","at","hall","other","mine"] ["script"] (zac s_l_hall_by):=by walk_at "sc"
theorem zbz:FnScope ["script","hall","numbers","placed","number","given","rest","one","other","fuels","whole","told","k","fuel","place","mine","deed","part","due","kept"] ["script"] (zac s_law):=by walk_at "sc"
structure Bl (K:Fg) (mg:Str→Option Value):Prop where
 all:mg "all"=none
 enumerate:mg "enumerate"=none
 int:mg "int"=none
 isinstance:mg "isinstance"=none
 len:mg "len"=none
 list:mg "list"=none
 max:mg "max"=none
 range:mg "range"=none
 sorted:mg "sorted"=none
 tuple:mg "tuple"=none
 zip:mg "zip"=none
 c_NUMBERS:∃ t,mg "NUMBERS"=some (.int 9 t)
 c_FACTORS:∃ t,mg "FACTORS"=some (.int 8 t)
 c_MOST_FRAMES:∃ t,mg "MOST_FRAMES"=some (.int 20 t)
 c_MOST_LINES:∃ t,mg "MOST_LINES"=some (.int 2 t)
 c_MOST_DEEDS:∃ t,mg "MOST_DEEDS"=some (.int 8 t)
 c_LAST_HAND:∃ t,mg "LAST_HAND"=some (.int 3 t)
 c_LAST_NUMBER:∃ t,mg "LAST_NUMBER"=some (.int 99 t)
 c_GREATEST_BY:∃ t,mg "GREATEST_BY"=some (.int 1000 t)
 c_GREATEST:∃ t,mg "GREATEST"=some (.int 1000000000 t)
 c_ASKED_0:∃ t,mg "ASKED_0"=some (.int 4 t)
 c_ASKED_1:∃ t,mg "ASKED_1"=some (.int 5 t)
 c_NEW_0:∃ t,mg "NEW_0"=some (.int 6 t)
 c_NEW_1:∃ t,mg "NEW_1"=some (.int 7 t)
 t_HAND_SPOTS:∃ a,mg "HAND_SPOTS"=some (.ref a)∧∀ H,SqT K H a [.int 1,.int 2,.int 3,.int 4]
 t_LEFT_SPOTS:∃ a,mg "LEFT_SPOTS"=some (.ref a)∧∀ H,SqT K H a [.int 7,.int 8]
 t_LEFT_AS_HANDS:∃ a,mg "LEFT_AS_HANDS"=some (.ref a)∧∀ H,SqT K H a [.int 0,.int 1,.int 2,.int 3,.int 4,.int 5,.int 0,.int 1]
 t_WHOLES:∃ a,mg "WHOLES"=some (.ref a)∧∀ H,SqT K H a [.int 1,.int 2,.int 3,.int 4]
structure Zt (K:Fg) (mg:Str→Option Value) (C:Nat→Addr):Prop where
 e_HallError:Err K (C 0) zbj
 m_HallError:mg "HallError"=some (.ref (C 0))
 e_BadSheet:Err K (C 1) (.ref (C 0)::zbj)
 m_BadSheet:mg "BadSheet"=some (.ref (C 1))
 e_NoCraft:Err K (C 2) (.ref (C 0)::zbj)
 m_NoCraft:mg "NoCraft"=some (.ref (C 2))
 e_Unmet:Err K (C 3) (.ref (C 0)::zbj)
 m_Unmet:mg "Unmet"=some (.ref (C 3))
 e_Unfit:Err K (C 4) (.ref (C 0)::zbj)
 m_Unfit:mg "Unfit"=some (.ref (C 4))
 c_Frame:Cls K (C 5)
 m_Frame:mg "Frame"=some (.ref (C 5))
 n_Frame_number:zbE K (C 5) "number"
 n_Frame_place:zbE K (C 5) "place"
 n_Frame_hands:zbE K (C 5) "hands"
 n_Frame_asked:zbE K (C 5) "asked"
 c_Run:Cls K (C 6)
 m_Run:mg "Run"=some (.ref (C 6))
 n_Run_known:zbE K (C 6) "known"
 n_Run_inputs_left:zbE K (C 6) "inputs_left"
 n_Run_stack:zbE K (C 6) "stack"
 n_Run_steps_done:zbE K (C 6) "steps_done"
 n_Run_ending:zbE K (C 6) "ending"
 c_Craft:Cls K (C 7)
 m_Craft:mg "Craft"=some (.ref (C 7))
 n_Craft_needs:zbE K (C 7) "needs"
 n_Craft_leaves:zbE K (C 7) "leaves"
 n_Craft_deeds:zbE K (C 7) "deeds"
 n_Craft_notes:zbE K (C 7) "notes"
 c_Hall:Cls K (C 8)
 m_Hall:mg "Hall"=some (.ref (C 8))
 n_Hall_laid:zbE K (C 8) "laid"
 n_Hall_vouched:zbE K (C 8) "vouched"
section
variable {P : Program} {w : World} {K : Fg} {mg : Str → Option Value} {base : Heap}
inductive sp_copied_lines (K:Fg) (vs:List V) (H:Hp) (Q:VK) (E:XK):Prop
 | mk (a:Addr) (ls:List (List Int)):vs=[.ref a]→Rep K H (zaN ls) (.ref a)→ls.length≤1000→(∀ v H',Same H H'→New H H' (zaN ls) v→Q v H')→sp_copied_lines K vs H Q E
theorem zfJ {f:Addr}{fd:FuncData}(B:Bl K mg) {C:Nat→Addr}(Z:Zt K mg C)  (F:Fun K "copied_lines" "copied_lines" s_copied_lines f fd) (m:mg "copied_lines"=some (.ref f)):Fn P w K mg base "copied_lines" ["lines"] 1 (sp_copied_lines K):=by
 refine Fn.of (k:=0) F zfE m (λ_ _ _ _ _ _ us hl=>match us,hl with | [_],_=>rfl) (λvs H Q E h=>?_) (λcdv A outer s H vs Q E hr h=>?_)
 ·first
  | (obtain⟨_,_,rfl,_⟩:=h;rfl)
 obtain⟨a,ls,rfl,hA,hl,q⟩:=h
 refine⟨_,(zai (zar (zbI rfl (CompOk.m (sc0:=zac s_copied_lines) (N:=["lines"]) (N':=["lines","line"]) (ms:=[false,true])) (zbp K (pv 0)) (λ_ _ _ _ _=>(zay (i:=1) (ndS (N:=["lines","line"])) rfl (Or.inl rfl))) (λ_ _ _ _ _=>zaY) (λ_ _ _ _ _=>(zbU (zhq K) rfl B.list L2.zbV (zae (pv 1) zad)))))),?_⟩
 unfold zaN Rep at hA
 obtain⟨a',xs,e,hA,hx⟩:=hA
 cases e
 have lx:=hx.length
 rw[zlm] at lx
 walk_at "go"
 refine⟨a,rfl,⟨_,hA⟩,?_⟩
 refine zaZ (zbg hA) (ls.map nums) (by rw[zlm];omega) (zaz (by omega)) (λj x' d H4 R hj hd s4 hx' hR=>?_) (λv H4 s4 n4=>?_)
 ·obtain⟨d2,hd2,hrx⟩:=Reps.get' hx hx'
  rw[hd2] at hd;cases hd
  rw[zgm] at hd2
  obtain⟨l,hl,rfl⟩:=zme.mp hd2
  obtain⟨xa,rfl,hxa⟩:=zb4.mp (Rep.same s4 _ hrx)
  walk_at "go"
  refine zdZ (.inl hxa) λp hp=>?_
  exact hR _ _ (zah hp _) (New.ints_iff.mpr ⟨p,rfl,hp,zaf⟩)
 exact q _ _ s4 n4
inductive sp_copied_deed (K:Fg) (vs:List V) (H:Hp) (Q:VK) (E:XK):Prop
 | mk (v:V) (d:D):vs=[v]→zbC H d v→(∀ v' H',Same H H'→New H H' d v'→Q v' H')→sp_copied_deed K vs H Q E
theorem zfZ {f:Addr}{fd:FuncData}(B:Bl K mg) {C:Nat→Addr}(Z:Zt K mg C)  (F:Fun K "copied_deed" "copied_deed" s_copied_deed f fd) (m:mg "copied_deed"=some (.ref f)):Fn P w K mg base "copied_deed" ["deed"] 1 (sp_copied_deed K):=by
 refine Fn.of (k:=0) F zfW m (λ_ _ _ _ _ _ us hl=>match us,hl with | [_],_=>rfl) (λvs H Q E h=>?_) (λcdv A outer s H vs Q E hr h=>?_)
 ·first
  | (obtain⟨_,_,rfl,_⟩:=h;rfl)
 obtain⟨v,d,rfl,hd,q⟩:=h
 refine⟨_,(zai (zar (zbU (znT K) rfl B.tuple L2.zjQ (zdk (zbI rfl (CompOk.m (sc0:=zac s_copied_deed) (N:=["deed"]) (N':=["deed","part"]) (ms:=[false,true])) (zi4 K (pv 0)) (λ_ _ _ _ _=>(zay (i:=1) (ndS (N:=["deed","part"])) rfl (Or.inl rfl))) (λ_ _ _ _ _=>zaY) (λ_ _ _ _ _=>(ziU (zdD (zaP (zpq K) rfl B.isinstance L2.zdi (zae (pv 1) (zae (zkg (v:=.ty "list") rfl B.list L2.zbV rfl) zad)))) (zbU (zhq K) rfl B.list L2.zbV (zae (pv 1) zad)) (pv 1)))) zad)))),?_⟩
 obtain⟨t,xs,ds,rfl,rfl,ht,hl,h8,hp⟩:=hd
 walk_at "go"
 refine⟨t,rfl,⟨_,SqT.of ht⟩,?_⟩
 refine zaZ (zgG (SqT.of ht)) ds hl (zaz (by omega)) (λj x d H1 R hj hd s1 hx hR=>?_) (λv H1 s1 n1=>?_)
 ·have part:=(hp j d x hd hx).sq s1.sq
  walk_at "go"
  rcases part with ⟨i,rfl,rfl⟩ | ⟨i,rfl,rfl⟩ | ⟨b,l,rfl,rfl,hb⟩ | ⟨b,i,k,rfl,rfl,hb⟩
  ·refine zhp (.int i) zeB ?_
   walk_at "go"
   exact hR _ _ (Same.refl _) New.int
  ·refine zhp (.str i) zeC ?_
   walk_at "go"
   exact hR _ _ (Same.refl _) New.str
  ·refine zhp (.lst hb) zi5 ?_
   walk_at "go"
   refine zdZ (.inl (SqL.of hb)) λp hp'=>?_
   exact hR _ _ (zah hp' _) (New.ints_iff.mpr ⟨p,rfl,hp',zaf⟩)
  ·refine zhp (.tup hb) zdF ?_
   walk_at "go"
   exact hR _ _ (Same.refl _) ⟨[],RepF.pair hb,List.nodup_nil,λ_ m=>by cases m⟩
 obtain⟨la,vs,rfl,la0,la1,fp,f1,f2,f3⟩:=New.news n1
 walk_at "go"
 refine zmp (SqL.of la1) λp hp'=>?_
 have s2:=zah hp' (.tup vs)
 exact q _ _ (s1.trans s2) (New.tup (zaj.sq s2.sq ds f1) f2 f3 zaf)
inductive sp_Craft___init__ (K:Fg) (C:Nat→Addr) (vs:List V) (H:Hp) (Q:VK) (E:XK):Prop
 | mk (p dx:Addr) (v1 v2 v3 v4:V) (needs leaves:List (List Int)) (deeds:List D) (notes:List (List (List Int))) (a3 a4:Addr) (dvs nvs:List V):vs=[.ref p,v1,v2,v3,v4]→H p=some (.ins (C 7) dx [])→Rep K H (zaN needs) v1→Rep K H (zaN leaves) v2→v3=.ref a3→SqL K H a3 dvs→v4=.ref a4→SqL K H a4 nvs→needs.length≤1000→leaves.length≤1000→deeds.length≤1000→notes.length≤1000→deeds.length=dvs.length→notes.length=nvs.length→(∀ (i:Nat) d x,deeds[i]?=some d→dvs[i]?=some x→zbC H d x)→(∀ (i:Nat) ls x,notes[i]?=some ls→nvs[i]?=some x→ls.length≤1000∧Rep K H (zaN ls) x)→(∀ H' w1 w2 w3 w4,(∀ b o,H b=some o→b≠p→H' b=some o)→H' p=some (.ins (C 7) dx (flds w1 w2 w3 w4))→News H H' (zll needs leaves deeds notes) [w1,w2,w3,w4]→Q .non H')→sp_Craft___init__ K C vs H Q E
theorem zmM {f:Addr}{fd:FuncData}(B:Bl K mg) {C:Nat→Addr}(Z:Zt K mg C) (G_copied_lines:Fn P w K mg base "copied_lines" ["lines"] 1 (sp_copied_lines K)) (G_copied_deed:Fn P w K mg base "copied_deed" ["deed"] 1 (sp_copied_deed K)) (F:Fun K "__init__" "Craft.__init__" s_Craft___init__ f fd) (M:Mk K (C 7) f):Mkr P w K mg base "Craft" (C 7) ["self","needs","leaves","deeds","notes"] 2 (sp_Craft___init__ K C):=by
 refine⟨f,fd,M,F.ok (k:=1) zes (λvs H Q E h=>?_) (λcdv A outer s H vs Q E hr h=>?_),F.binds λ_ _ _ _ _ _ us hl=>match us,hl with | [_,_,_,_,_],_=>rfl,Z.m_Craft⟩
 ·first
  | (obtain⟨_,_,_,_,_,_,_,_,_,_,_,_,_,_,rfl,_⟩:=h;rfl)
 obtain⟨p,dx,v1,v2,v3,v4,needs,leaves,deeds,notes,a3,a4,dvs,nvs,rfl,hp,r1,r2,rfl,h3,rfl,h4,l1,l2,l3,l4,e3,e4,dr,nr,q⟩:=h
 refine⟨_,(zag (zbq (pv 0) (zat G_copied_lines hr rfl (zae (pv 1) zad)) rfl)
   (zag (zbq (pv 0) (zat G_copied_lines hr rfl (zae (pv 2) zad)) rfl)
   (zag (zbq (pv 0) (zbI rfl (CompOk.m (sc0:=zac s_Craft___init__) (N:=["self","needs","leaves","deeds","notes"]) (N':=["self","needs","leaves","deeds","notes","deed"]) (ms:=[false,false,false,false,false,true])) (zbp K (pv 3)) (λ_ _ _ _ _=>(zay (i:=5) (ndS (N:=["self","needs","leaves","deeds","notes","deed"])) rfl (Or.inl rfl))) (λ_ _ _ _ _=>zaY) (λ_ _ _ _ _=>(zat G_copied_deed hr rfl (zae (pv 5) zad)))) rfl)
   (zai (zbq (pv 0) (zbI rfl (CompOk.m (sc0:=zac s_Craft___init__) (N:=["self","needs","leaves","deeds","notes"]) (N':=["self","needs","leaves","deeds","notes","lines"]) (ms:=[false,false,false,false,false,true])) (zbp K (pv 4)) (λ_ _ _ _ _=>(zay (i:=5) (ndS (N:=["self","needs","leaves","deeds","notes","lines"])) rfl (Or.inl rfl))) (λ_ _ _ _ _=>zaY) (λ_ _ _ _ _=>(zat G_copied_lines hr rfl (zae (pv 5) zad)))) rfl))))),?_⟩
 obtain⟨b1,rfl⟩:∃ b,v1=.ref b:=by unfold zaN Rep at r1;obtain⟨a,_,e,_⟩:=r1;exact⟨a,e⟩
 obtain⟨b2,rfl⟩:∃ b,v2=.ref b:=by unfold zaN Rep at r2;obtain⟨a,_,e,_⟩:=r2;exact⟨a,e⟩
 walk_at "go"
 -- self.needs
 refine⟨b1,needs,rfl,r1,l1,λw1 H1 s1 n1=>?_⟩
 walk_at "go"
 refine⟨p,(C 7),dx,[],rfl,s1 _ _ hp,Z.c_Craft,Z.n_Craft_needs,by show 0<1000;decide,?_⟩
 have k1:Sq H (upd H1 p (.ins (C 7) dx (putF "needs" w1 []))):=s1.sq.trans (zdG (s1 _ _ hp) rfl)
 have u1:News H (upd H1 p (.ins (C 7) dx (putF "needs" w1 []))) [zaN needs] [w1]:=(News.nil.snoc' (H:=H) (H1:=H) (Same.refl H).fr s1 n1).sq (zdG (s1 _ _ hp) rfl)
 have f1:Free H (upd H1 p (.ins (C 7) dx (putF "needs" w1 []))):=s1.fr.trans zb6
 -- self.leaves
 walk_at "go"
 refine⟨b2,leaves,rfl,Rep.sq k1 _ r2,l2,λw2 H2 s2 n2=>?_⟩
 have p2:=s2 _ _ (zaf (H:=H1) (a:=p) (o:=.ins (C 7) dx (putF "needs" w1 [])))
 walk_at "go"
 refine⟨p,(C 7),dx,_,rfl,p2,Z.c_Craft,Z.n_Craft_leaves,Nat.lt_of_lt_of_le (za0 (n:=1) (by decide)) (by decide),?_⟩
 have k2:=k1.trans (s2.sq.trans (zdG (o:=.ins (C 7) dx (putF "leaves" w2 (putF "needs" w1 []))) p2 rfl))
 have u2:=(u1.snoc' f1 s2 n2).sq (zdG (o:=.ins (C 7) dx (putF "leaves" w2 (putF "needs" w1 []))) p2 rfl)
 have f2:Free H (upd H2 p (.ins (C 7) dx (putF "leaves" w2 (putF "needs" w1 [])))):=f1.trans (s2.fr.trans zb6)
 -- self.deeds
 walk_at "go"
 refine⟨a3,rfl,⟨_,k2.lst h3⟩,?_⟩
 refine zaZ (zbg (k2.lst h3)) deeds e3 (zaz (by omega)) (λj x d H3 R hj hd s3 hx hR=>?_) (λw3 H3 s3 n3=>?_)
 ·walk_at "go"
  refine⟨x,d,rfl,(dr j d x hd hx).sq (k2.trans s3.sq),λv' H4 s4 n4=>?_⟩
  exact hR _ _ s4 n4
 have p3:=s3 _ _ (zaf (H:=H2) (a:=p) (o:=.ins (C 7) dx (putF "leaves" w2 (putF "needs" w1 []))))
 walk_at "go"
 refine⟨p,(C 7),dx,_,rfl,p3,Z.c_Craft,Z.n_Craft_deeds,Nat.lt_of_lt_of_le (za0 (n:=2) (za0 (n:=1) (by decide))) (by decide),?_⟩
 have k3:=k2.trans (s3.sq.trans (zdG (o:=.ins (C 7) dx (putF "deeds" w3 (putF "leaves" w2 (putF "needs" w1 [])))) p3 rfl))
 have u3:=(u2.snoc' f2 s3 n3).sq (zdG (o:=.ins (C 7) dx (putF "deeds" w3 (putF "leaves" w2 (putF "needs" w1 [])))) p3 rfl)
 have f3:Free H (upd H3 p (.ins (C 7) dx (putF "deeds" w3 (putF "leaves" w2 (putF "needs" w1 []))))):=f2.trans (s3.fr.trans zb6)
 -- self.notes
 walk_at "go"
 refine⟨a4,rfl,⟨_,k3.lst h4⟩,?_⟩
 refine zaZ (zbg (k3.lst h4)) (notes.map zaN) (by rw[zlm];exact e4) (zaz (by omega)) (λj x d H4 R hj hd s4 hx hR=>?_) (λw4 H4 s4 n4=>?_)
 ·rw[zgm] at hd
  obtain⟨ls,hls,rfl⟩:=zme.mp hd
  obtain⟨hz,hr2⟩:=nr j ls x hls hx
  have hr3:=Rep.sq (k3.trans s4.sq) _ hr2
  obtain⟨b,rfl⟩:∃ b,x=.ref b:=by unfold zaN Rep at hr3;obtain⟨a,_,e,_⟩:=hr3;exact⟨a,e⟩
  walk_at "go"
  refine⟨b,ls,rfl,hr3,hz,λv' H5 s5 n5=>?_⟩
  exact hR _ _ s5 n5
 have p4:=s4 _ _ (zaf (H:=H3) (a:=p) (o:=.ins (C 7) dx (putF "deeds" w3 (putF "leaves" w2 (putF "needs" w1 [])))))
 walk_at "go"
 refine⟨p,(C 7),dx,_,rfl,p4,Z.c_Craft,Z.n_Craft_notes,Nat.lt_of_lt_of_le (za0 (n:=3) (za0 (n:=2) (za0 (n:=1) (by decide)))) (by decide),?_⟩
 have u4:=(u3.snoc' f3 s4 n4).sq (zdG (o:=.ins (C 7) dx (putF "notes" w4 (putF "deeds" w3 (putF "leaves" w2 (putF "needs" w1 []))))) p4 rfl)
 refine q _ w1 w2 w3 w4 (λb o e hb=>?_) zaf u4
 rw[zak hb]
 refine s4 _ _ ?_
 rw[zak hb]
 refine s3 _ _ ?_
 rw[zak hb]
 refine s2 _ _ ?_
 rw[zak hb]
 exact s1 _ _ e
def MulOk (fs ns:List Int):Prop:=∀ (i:Nat) (f n:Int),fs[i]?=some f→ns[i]?=some n→CMul f n
def spW (K:Fg) (R:Int→V):Sp:=λvs H Q _=>∃ (a b:Addr) (c:Int) (fs ns:List Int),vs=[.ref a,.ref b]∧SqL K H a ((c::fs).map V.int)∧SqL K H b (ns.map V.int)∧fs.length=8∧ns.length=8∧MulOk fs ns∧
 ∀ H',Same H H'→Q (R (c+dot fs ns)) H'
def ze3 (K:Fg):Sp:=spW K .int
theorem zmN {f:Addr}{fd:FuncData}(B:Bl K mg) {C:Nat→Addr}(Z:Zt K mg C)  (F:Fun K "worth" "worth" s_worth f fd) (m:mg "worth"=some (.ref f)):Fn P w K mg base "worth" ["line","numbers"] 1 (ze3 K):=by
 refine Fn.of (k:=0) F zea m (λ_ _ _ _ _ _ us hl=>match us,hl with | [_,_],_=>rfl) (λvs H Q E h=>?_) (λcdv A outer s H vs Q E hr h=>?_)
 ·first
  | (obtain⟨rfl,_⟩:=h;rfl)
  | (obtain⟨_,rfl,_⟩:=h;rfl)
  | (obtain⟨_,_,rfl,_⟩:=h;rfl)
  | (obtain⟨_,_,_,rfl,_⟩:=h;rfl)
  | (obtain⟨_,_,_,_,rfl,_⟩:=h;rfl)
  | (obtain⟨_,_,_,_,_,rfl,_⟩:=h;rfl)
  | (obtain⟨_,_,_,_,_,_,rfl,_⟩:=h;rfl)
  | (obtain⟨_,_,_,_,_,_,_,rfl,_⟩:=h;rfl)
  | (obtain⟨_,_,_,_,_,_,_,_,rfl,_⟩:=h;rfl)
  | (obtain⟨_,_,_,_,_,_,_,_,_,rfl,_⟩:=h;rfl)
  | (obtain⟨_,_,_,_,_,_,_,_,_,_,rfl,_⟩:=h;rfl)
  | (obtain⟨_,_,_,_,_,_,_,_,_,_,_,rfl,_⟩:=h;rfl)
  | (obtain⟨_,_,_,_,_,_,_,_,_,_,_,_,rfl,_⟩:=h;rfl)
  | (obtain⟨_,_,_,_,_,_,_,_,_,_,_,_,_,rfl,_⟩:=h;rfl)
  | (obtain⟨_,_,_,_,_,_,_,_,_,_,_,_,_,_,rfl,_⟩:=h;rfl)
  | (obtain⟨_,_,_,_,_,_,_,_,_,_,_,_,_,_,_,rfl,_⟩:=h;rfl)
  | (obtain⟨_,_,_,_,_,_,_,_,_,_,_,_,_,_,_,_,rfl,_⟩:=h;rfl)
 obtain⟨a,b,c,fs,ns,rfl,hA,hB,lf,ln,mo,q⟩:=h
 refine⟨_,(zag (zaA (i:=2) zea.nd rfl (Or.inl rfl) (zaB (k_ix K) (pv 0) zaa (λ_ _=>rfl)))
   (zag (zdW PassesOwn.never rfl (zpr K rfl B.zip (zaE (ziX (k_sl K) (pv 0) (zkE zaa) zkD) (zae (pv 1) zad))) (zeA K (n:=2) rfl (zbf (zay (i:=3) zea.nd rfl (Or.inl rfl)) (zbf (zay (i:=4) zea.nd rfl (Or.inl rfl)) zda))) (zai (zaA (i:=2) zea.nd rfl (Or.inl rfl) (zao (zaM K) (pv 2) (zao zb5 (pv 3) (pv 4))))))
   (zai (zar (pv 2))))),?_⟩
 walk_at "go"
 refine zbc hA (v:=.int c) zbJ ?_
 walk_at "go"
 walk_at "go"
 refine .inl ⟨a,_,rfl,hA,λp hp=>?_⟩
 have s1:=zah hp (.lst (cutV ((c::fs).map V.int) (some 1) none))
 have ec:cutV ((c::fs).map V.int) (some 1) none=fs.map V.int:=by
  unfold cutV
  rw[show HT.sIx ((c::fs).map V.int).length 0 (some 1)=1 by rw[show (1:Int)=((1:Nat):Int) by rfl,HT.sIx_nat];simp]
  rw[HT.sIx_none]
  simp[List.take_of_length_le]
 rw[ec] at s1 ⊢
 walk_at "go"
 refine⟨p,b,rfl,⟨_,SqL.of zaf⟩,⟨_,s1.seq hB⟩,?_⟩
 refine zk0 (zmj (n:=8) (SqL.of zaf) (s1.seq hB) (by simp[lf,ln])) (λi σ H2=>∃ x y,σ=[some (.ref a),some (.ref b),some (.int (c+dot (fs.take i) (ns.take i))),x,y]∧Same (upd H p (.lst (fs.map V.int))) H2)
  ⟨none,none,by simp[dot];rfl,Same.refl _⟩ (λi σ H2 ⟨_,_,_,e⟩=>e) ?_ ?_
 ·rintro i v σ H2 H3 hi ⟨x,y,rfl,s2⟩ s3 ⟨T,u,z,rfl,hT,eu,ez⟩
  rw[zgm] at eu ez
  obtain⟨f,hf,rfl⟩:=zme.mp eu
  obtain⟨n,hn,rfl⟩:=zme.mp ez
  refine⟨T,_,rfl,SqT.of hT,rfl,⟨_,_,rfl,?_⟩⟩
  refine⟨_,_,rfl,?_⟩
  refine⟨rfl,?_⟩
  walk_at "go"
  refine zi3 (mo i f n hf hn) ?_
  walk_at "go"
  refine⟨some (.int f),some (.int n),?_,s2.trans s3⟩
  rw[zd2 fs ns i f n hf hn,Int.add_assoc]
  rfl
 ·rintro σ H2 ⟨x,y,rfl,s2⟩
  walk_at "go"
  rw[List.take_of_length_le (by omega),List.take_of_length_le (by omega)]
  exact q _ (s1.trans s2)
def ze4 (K:Fg):Sp:=spW K λt=>.bl (decide (0≤t))
theorem zmO {f:Addr}{fd:FuncData}(B:Bl K mg) {C:Nat→Addr}(Z:Zt K mg C) (G_worth:Fn P w K mg base "worth" ["line","numbers"] 1 (ze3 K)) (F:Fun K "holds" "holds" s_holds f fd) (m:mg "holds"=some (.ref f)):Fn P w K mg base "holds" ["line","numbers"] 2 (ze4 K):=by
 refine Fn.of (k:=1) F zmJ m (λ_ _ _ _ _ _ us hl=>match us,hl with | [_,_],_=>rfl) (λvs H Q E h=>?_) (λcdv A outer s H vs Q E hr h=>?_)
 ·first
  | (obtain⟨rfl,_⟩:=h;rfl)
  | (obtain⟨_,rfl,_⟩:=h;rfl)
  | (obtain⟨_,_,rfl,_⟩:=h;rfl)
  | (obtain⟨_,_,_,rfl,_⟩:=h;rfl)
  | (obtain⟨_,_,_,_,rfl,_⟩:=h;rfl)
  | (obtain⟨_,_,_,_,_,rfl,_⟩:=h;rfl)
  | (obtain⟨_,_,_,_,_,_,rfl,_⟩:=h;rfl)
  | (obtain⟨_,_,_,_,_,_,_,rfl,_⟩:=h;rfl)
  | (obtain⟨_,_,_,_,_,_,_,_,rfl,_⟩:=h;rfl)
  | (obtain⟨_,_,_,_,_,_,_,_,_,rfl,_⟩:=h;rfl)
  | (obtain⟨_,_,_,_,_,_,_,_,_,_,rfl,_⟩:=h;rfl)
  | (obtain⟨_,_,_,_,_,_,_,_,_,_,_,rfl,_⟩:=h;rfl)
  | (obtain⟨_,_,_,_,_,_,_,_,_,_,_,_,rfl,_⟩:=h;rfl)
  | (obtain⟨_,_,_,_,_,_,_,_,_,_,_,_,_,rfl,_⟩:=h;rfl)
  | (obtain⟨_,_,_,_,_,_,_,_,_,_,_,_,_,_,rfl,_⟩:=h;rfl)
  | (obtain⟨_,_,_,_,_,_,_,_,_,_,_,_,_,_,_,rfl,_⟩:=h;rfl)
  | (obtain⟨_,_,_,_,_,_,_,_,_,_,_,_,_,_,_,_,rfl,_⟩:=h;rfl)
 obtain⟨a,b,c,fs,ns,rfl,hA,hB,lf,ln,mo,q⟩:=h
 refine⟨_,(zai (zar (zbB zoE (zat G_worth hr rfl (zae (pv 0) (zae (pv 1) zad))) zaa (zau _)))),?_⟩
 walk_at "go"
 refine⟨a,b,c,fs,ns,rfl,hA,hB,lf,ln,mo,λH' s1=>?_⟩
 walk_at "go"
 exact q H' s1
inductive sp_Frame___init__ (K:Fg) (C:Nat→Addr) (vs:List V) (H:Hp) (Q:VK) (E:XK):Prop
 | mk (p dx g:Addr) (n a0 a1:Int):vs=[.ref p,.int n,.ref g]→H p=some (.ins (C 5) dx [])→(SqL K H g [.int a0,.int a1]∨SqT K H g [.int a0,.int a1])→(∀ ha aa H',H ha=none→H aa=none→ha≠aa→OffA [p] H H'→H' p=some (.ins (C 5) dx (ffl n 0 ha aa))→H' ha=some (.lst [.int a0,.int a1,.int 0,.int 0])→H' aa=some (.lst [.int a0,.int a1])→Q .non H')→sp_Frame___init__ K C vs H Q E
theorem zeu {H H':Hp}{g:Addr}{xs:List V}(e:Sq H H') (h:SqL K H g xs∨SqT K H g xs):SqL K H' g xs∨SqT K H' g xs:=by
 rcases h with h | h
 ·exact .inl (e.lst h)
 ·exact .inr (e.tup h)
theorem zmP {f:Addr}{fd:FuncData}(B:Bl K mg) {C:Nat→Addr}(Z:Zt K mg C)  (F:Fun K "__init__" "Frame.__init__" s_Frame___init__ f fd) (M:Mk K (C 5) f):Mkr P w K mg base "Frame" (C 5) ["self","number","asked"] 1 (sp_Frame___init__ K C):=by
 refine⟨f,fd,M,F.ok (k:=0) zer (λvs H Q E h=>?_) (λcdv A outer s H vs Q E hr h=>?_),F.binds λ_ _ _ _ _ _ us hl=>match us,hl with | [_,_,_],_=>rfl,Z.m_Frame⟩
 ·first
  | (obtain⟨_,_,_,_,_,_,rfl,_⟩:=h;rfl)
 obtain⟨p,dx,g,n,a0,a1,rfl,hp,hg,q⟩:=h
 refine⟨_,(zag (zbq (pv 0) (pv 1) rfl)
   (zag (zbq (pv 0) zaa rfl)
   (zag (zbq (pv 0) (za6 (zaE (zaB (k_ix K) (pv 2) zaa (λ_ _=>rfl)) (zaE (zaB (k_ix K) (pv 2) zaa (λ_ _=>rfl)) (zab zaa (zab zaa zad))))) rfl)
   (zai (zbq (pv 0) (za6 (zaE (zaB (k_ix K) (pv 2) zaa (λ_ _=>rfl)) (zaE (zaB (k_ix K) (pv 2) zaa (λ_ _=>rfl)) zad))) rfl))))),?_⟩
 walk_at "q"
 walk_at "gs"
 refine⟨p,(C 5),dx,[],rfl,hp,Z.c_Frame,Z.n_Frame_number,by show 0<1000;decide,?_⟩
 have q1:Sq H (upd H p (.ins (C 5) dx (putF "number" (.int n) []))):=zdG hp rfl
 walk_at "q"
 walk_at "gs"
 refine⟨p,(C 5),dx,_,rfl,zaf,Z.c_Frame,Z.n_Frame_place,Nat.lt_of_lt_of_le (za0 (n:=1) (by decide)) (by decide),?_⟩
 have q2:=q1.trans (zdG (o:=.ins (C 5) dx (putF "place" (.int 0) (putF "number" (.int n) []))) zaf rfl)
 have o2:OffA [p] H (upd (upd H p (.ins (C 5) dx (putF "number" (.int n) []))) p (.ins (C 5) dx (putF "place" (.int 0) (putF "number" (.int n) [])))):=(zbv (by simp)).trans (zbv (by simp))
 have p2:(upd (upd H p (.ins (C 5) dx (putF "number" (.int n) []))) p (.ins (C 5) dx (putF "place" (.int 0) (putF "number" (.int n) [])))) p=some (.ins (C 5) dx (putF "place" (.int 0) (putF "number" (.int n) []))):=zaf
 have fr2:Free H (upd (upd H p (.ins (C 5) dx (putF "number" (.int n) []))) p (.ins (C 5) dx (putF "place" (.int 0) (putF "number" (.int n) [])))):=zb6.trans zb6
 generalize (upd (upd H p (.ins (C 5) dx (putF "number" (.int n) []))) p (.ins (C 5) dx (putF "place" (.int 0) (putF "number" (.int n) []))))=H2 at q2 o2 p2 fr2
 have hg2:=zeu q2 hg
 walk_at "q"
 walk_at "gs"
 refine zix hg2 ?_
 walk_at "gs"
 refine ziy hg2 ?_
 walk_at "gs"
 refine⟨(by walk_at "sm"),λha ha0=>?_⟩
 have s3:=zah ha0 (.lst [V.int a0,.int a1,.int 0,.int 0])
 have nh:ha≠p:=(zam p2 ha0).symm
 walk_at "gs"
 refine⟨p,(C 5),dx,_,rfl,s3 _ _ p2,Z.c_Frame,Z.n_Frame_hands,Nat.lt_of_lt_of_le (za0 (n:=2) (za0 (n:=1) (by decide))) (by decide),?_⟩
 have q4:=s3.sq.trans (zdG (o:=.ins (C 5) dx (putF "hands" (.ref ha) (putF "place" (.int 0) (putF "number" (.int n) [])))) (s3 _ _ p2) rfl)
 have hg4:=zeu q4 hg2
 walk_at "gs"
 refine zix hg4 ?_
 walk_at "gs"
 refine ziy hg4 ?_
 walk_at "gs"
 refine⟨(by walk_at "sm"),λaa aa0=>?_⟩
 have na:aa≠p:=λz=>by rw[z,zaf] at aa0;cases aa0
 have nah:aa≠ha:=λz=>by rw[z,zak nh,zaf] at aa0;cases aa0
 have aa2:H2 aa=none:=by rw[zak na,zak nah] at aa0;exact aa0
 walk_at "gs"
 refine⟨p,(C 5),dx,_,rfl,by rw[zak na.symm,zaf],Z.c_Frame,Z.n_Frame_asked,Nat.lt_of_lt_of_le (za0 (n:=3) (za0 (n:=2) (za0 (n:=1) (by decide)))) (by decide),?_⟩
 rw[zn9]
 refine q ha aa _ (fr2 _ ha0) (fr2 _ aa2) nah.symm (λb o nb e=>?_) zaf ?_ ?_
 ·have nb':b≠p:=λz=>nb (by simp[z])
  have e2:=o2 b o nb e
  rw[zak nb',zak (zam e2 aa2),zak nb',zak (zam e2 ha0)]
  exact e2
 ·rw[zak nh,zak nah.symm,zak nh,zaf]
 ·rw[zak na,zaf]
inductive sp_Frame_numbers (K:Fg) (C:Nat→Addr) (vs:List V) (H:Hp) (Q:VK) (E:XK):Prop
 | mk (p dx ha aa:Addr) (f:Fm):vs=[.ref p]→H p=some (.ins (C 5) dx (ffl f.n f.p ha aa))→H ha=some (.lst (f.hands.map V.int))→H aa=some (.lst (f.asked.map V.int))→f.hands.length=4→f.asked.length=2→(∀ na H',Same H H'→H' na=some (.lst ((zcc f).map V.int))→Q (.ref na) H')→sp_Frame_numbers K C vs H Q E
theorem zeO {f:Addr}{fd:FuncData}(B:Bl K mg) {C:Nat→Addr}(Z:Zt K mg C)  (F:Fun K "numbers" "Frame.numbers" s_Frame_numbers f fd) (M:Meth K (C 5) "numbers" f):Mth CX0 P w K mg base (C 5) "numbers" ["self"] 1 (sp_Frame_numbers K C):=by
 refine⟨f,fd,M,F.ok (k:=0) zeK (λvs H Q E h=>?_) (λcdv A outer s H vs Q E hr h=>?_),F.binds λ_ _ _ _ _ _ us hl=>match us,hl with | [_],_=>rfl⟩
 ·first
  | (obtain⟨_,_,_,_,_,rfl,_⟩:=h;rfl)
 obtain⟨p,dx,ha,aa,f,rfl,hp,hh,haa,l4,l2,q⟩:=h
 refine⟨_,(zai (zar (zao (zaM K) (zao (zaM K) (zaD K (pv 0) rfl) (zaD K (pv 0) rfl)) (ziX (k_sl K) (zaD K (pv 0) rfl) zkD (zkE zaa))))),?_⟩
 walk_at "gs"
 refine⟨p,(C 5),dx,_,_,rfl,hp,Z.c_Frame,Z.n_Frame_hands,zbP _ _ _ _,?_⟩
 walk_at "gs"
 refine⟨p,(C 5),dx,_,_,rfl,hp,Z.c_Frame,Z.n_Frame_asked,zmB _ _ _ _,?_⟩
 refine zgH hh haa (zaz (by simp[l4,l2])) λp1 hp1=>?_
 have t1:=zah hp1 (.lst (f.hands.map V.int++f.asked.map V.int))
 walk_at "gs"
 refine⟨p,(C 5),dx,_,_,rfl,t1 _ _ hp,Z.c_Frame,Z.n_Frame_hands,zbP _ _ _ _,?_⟩
 walk_at "gs"
 refine i_slL (SqL.of (t1 _ _ hh)) λp2 hp2=>?_
 rw[zlh (by decide)]
 have t2:=zah hp2 (.lst ((f.hands.map V.int).take (2:Int).toNat))
 walk_at "gs"
 refine zgH (t2 _ _ zaf) zaf (zaz (by simp[l4,l2])) λp3 hp3=>?_
 refine q _ _ (t1.trans (t2.trans (zah hp3 _))) ?_
 rw[zaf]
 unfold zcc
 rw[List.map_append,List.map_append,List.map_take]
 rfl
inductive sp_Hall_standing (K:Fg) (C:Nat→Addr) (vs:List V) (H:Hp) (Q:VK) (E:XK):Prop
 | mk (ha la va:Addr) (ks:List Int) (cr:Int→Cr) (ws:List Int) (fp:List Addr):vs=[.ref ha]→HallAt (C 8) (C 7) H ha la va ks cr ws fp→(∀ (l:Addr) (ns:List Int),H l=none→ns.Perm ks→ns.Pairwise (·≤·)→Q (.ref l) (upd H l (.lst (ns.map V.int))))→sp_Hall_standing K C vs H Q E
theorem zeP {f:Addr}{fd:FuncData}(B:Bl K mg) {C:Nat→Addr}(Z:Zt K mg C)  (F:Fun K "standing" "Hall.standing" s_Hall_standing f fd) (M:Meth K (C 8) "standing" f):Mth CX0 P w K mg base (C 8) "standing" ["self"] 1 (sp_Hall_standing K C):=by
 refine⟨f,fd,M,F.ok (k:=0) zeN (λvs H Q E h=>?_) (λcdv A outer s H vs Q E hr h=>?_),F.binds λ_ _ _ _ _ _ us hl=>match us,hl with | [_],_=>rfl⟩
 ·first
  | (obtain⟨_,_,_,_,_,_,_,rfl,_⟩:=h;rfl)
 obtain⟨ha,la,va,ks,cr,ws,fp,rfl,hA,q⟩:=h
 refine⟨_,(zai (zar (zaP (zhx rfl) rfl B.sorted L2.zij (zbl (zaD K (pv 0) rfl) zad)))),?_⟩
 obtain⟨dx,hh⟩:=hA.ins
 obtain⟨kvs,hla,hk⟩:=hA.laid
 have h60:=hA.few
 walk_at "gs"
 refine⟨ha,(C 8),dx,_,_,rfl,hh,Z.c_Hall,Z.n_Hall_laid,zc3 _ _,?_⟩
 walk_at "gs"
 exact zn2 hla hk.1 (by omega) q
theorem zfK {K:Fg}{C:Nat→Addr}{H:Hp}{p dx a3 a4:Addr}{v1 v2:V}{c:Cr}{dvs nvs:List V}{Q:VK}{E:XK}(np:H p=none) (nd:H dx=none) (r1:Rep K H (zaN c.needs) v1) (r2:Rep K H (zaN c.leaves) v2) (h3:SqL K H a3 dvs) (h4:SqL K H a4 nvs) (dr:zdn H c.deeds dvs) (nr:R2 (λls x=>Rep K H (zaN ls) x) c.notes nvs) (g:c.Nine)
  (q:∀ H1 f,Same H H1→zbm (C 7) H1 p c f→(∀ b∈f,H b=none)→f.Nodup→Q .non H1):sp_Craft___init__ K C [.ref p,v1,v2,.ref a3,.ref a4] (upd (upd H dx (.own p)) p (.ins (C 7) dx [])) Q E:=by
 have sm:Same H (upd (upd H dx (.own p)) p (.ins (C 7) dx [])):=λb o e=>by
  rw[zak (zam e np),zak (zam e nd)];exact e
 have ld:=dr.1
 have ln:=nr.1
 have e1:=g.d
 have e2:=g.n
 have e3:=g.l
 have e4:=g.o
 refine⟨p,dx,v1,v2,.ref a3,.ref a4,c.needs,c.leaves,c.deeds.map toD,c.notes,a3,a4,dvs,nvs,rfl,zaf,Rep.same sm _ r1,Rep.same sm _ r2,rfl,sm.seq h3,rfl,sm.seq h4,by omega,by omega,by rw[zlm];omega,by omega,by rw[zlm];exact ld,ln,λi d x q1 q2=>?_,λi ls x q1 q2=>?_,λH1 w1 w2 w3 w4 keep hp nw=>?_⟩
 ·rw[zgm] at q1
  obtain⟨d',hd',rfl⟩:=zme.mp q1
  exact (dr.2 i d' x hd' q2).sq sm.sq
 ·exact⟨by have:=(g.o9 ls (zmg q1)).1;omega,Rep.same sm _ (nr.2 i ls x q1 q2)⟩
 ·have s1:Same H H1:=λb o e=>keep b o (sm _ _ e) (zam e np)
  obtain⟨f,k1,k2,k3⟩:=nw
  have pf:p∉f:=λz=>by have:=k3 p z;rw[zaf] at this;cases this
  refine q H1 (p::f) s1 ⟨dx,w1,w2,w3,w4,f,rfl,hp,k1⟩ (λb hb=>?_) (List.nodup_cons.mpr ⟨pf,k2⟩)
  rcases List.mem_cons.mp hb with rfl | hb
  ·exact np
  ·exact sm.fr b (k3 b hb)
theorem zmQ {a1 a2 a3 a4 b1 b2 b3 b4:V}(h:flds a1 a2 a3 a4=flds b1 b2 b3 b4):a1=b1∧a2=b2∧a3=b3∧a4=b4:=by
 refine⟨?_,?_,?_,?_⟩
 ·have:=zcz a1 a2 a3 a4;rw[h,zcz] at this;injection this with this;exact this.symm
 ·have:=zcl a1 a2 a3 a4;rw[h,zcl] at this;injection this with this;exact this.symm
 ·have:=zca a1 a2 a3 a4;rw[h,zca] at this;injection this with this;exact this.symm
 ·have:=zdy a1 a2 a3 a4;rw[h,zdy] at this;injection this with this;exact this.symm
inductive sp_copied_craft (K:Fg) (C:Nat→Addr) (vs:List V) (H:Hp) (Q:VK) (E:XK):Prop
 | mk (p:Addr) (c:Cr):vs=[.ref p]→zeD K (C 7) H p c.needs c.leaves c.deeds c.notes→c.Nine→(∀ q f H',Same H H'→zbm (C 7) H' q c f→(∀ b∈f,H b=none)→f.Nodup→Q (.ref q) H')→sp_copied_craft K C vs H Q E
theorem zfL {f:Addr}{fd:FuncData}(B:Bl K mg) {C:Nat→Addr}(Z:Zt K mg C) (M_Craft:Mkr P w K mg base "Craft" (C 7) ["self","needs","leaves","deeds","notes"] 2 (sp_Craft___init__ K C)) (F:Fun K "copied_craft" "copied_craft" s_copied_craft f fd) (m:mg "copied_craft"=some (.ref f)):Fn P w K mg base "copied_craft" ["craft"] 4 (sp_copied_craft K C):=by
 refine Fn.of (k:=3) F zfF m (λ_ _ _ _ _ _ us hl=>match us,hl with | [_],_=>rfl) (λvs H Q E h=>?_) (λcdv A outer s H vs Q E hr h=>?_)
 ·first
  | (obtain⟨_,_,rfl,_⟩:=h;rfl)
 obtain⟨p,c,rfl,hT,g,q⟩:=h
 refine⟨_,(zai (zar (zmo M_Craft hr rfl (zbl (zaD K (pv 0) rfl) (zbl (zaD K (pv 0) rfl) (zbl (zaD K (pv 0) rfl) (zbl (zaD K (pv 0) rfl) zad))))))),?_⟩
 obtain⟨⟨dx,w1,w2,w3,w4,hp,r1,r2,r3,r4⟩,dx',u1,u2,b3,u4,dvs,hp',hb3,hD⟩:=hT
 have e:=hp
 rw[hp'] at e
 injection e with e
 injection e with _ e0 e
 obtain⟨rfl,rfl,rfl,rfl⟩:=zmQ e
 unfold Rep at r4
 obtain⟨b4,nvs,rfl,q4,z4⟩:=r4
 have z4l:=z4.length
 walk_at "gs"
 refine⟨p,(C 7),dx,_,_,rfl,hp,Z.c_Craft,Z.n_Craft_needs,zcz _ _ _ _,?_⟩
 walk_at "gs"
 refine⟨p,(C 7),dx,_,_,rfl,hp,Z.c_Craft,Z.n_Craft_leaves,zcl _ _ _ _,?_⟩
 walk_at "gs"
 refine⟨p,(C 7),dx,_,_,rfl,hp,Z.c_Craft,Z.n_Craft_deeds,zca _ _ _ _,?_⟩
 walk_at "gs"
 refine⟨p,(C 7),dx,_,_,rfl,hp,Z.c_Craft,Z.n_Craft_notes,zdy _ _ _ _,?_⟩
 walk_at "gs"
 intro y dy hy hdy ndy
 refine zfK (c:=c) hy hdy r1 r2 (SqL.of hb3) q4 hD ⟨by simpa using z4l,λi ls x e1 e2=>?_⟩ g λH1 f s1 hC hf fn=>⟨rfl,q y f H1 s1 hC hf fn⟩
 obtain⟨d,hd,hrx⟩:=Reps.get' z4 e2
 rw[zgm,e1] at hd
 cases hd
 exact hrx
inductive sp_Hall_crafts (K:Fg) (C:Nat→Addr) (vs:List V) (H:Hp) (Q:VK) (E:XK):Prop
 | mk (ha la va:Addr) (ks:List Int) (cr:Int→Cr) (ws:List Int) (fp:List Addr):vs=[.ref ha]→HallAt (C 8) (C 7) H ha la va ks cr ws fp→(∀ ca H' kvs (ns:List Int) (F:Int→List Addr),Same H H'→H ca=none→H' ca=some (.dK kvs)→ns.Perm ks→ns.Pairwise (·≤·)→KVs (λm v=>∃ p,v=.ref p∧zbm (C 7) H' p (cr m) (F m)) kvs ns→(∀ m∈ns,∀ b∈F m,H b=none)→(∀ m∈ns,(F m).Nodup)→(∀ m∈ns,∀ k∈ns,m≠k→∀ b∈F m,b∉F k)→Q (.ref ca) H')→sp_Hall_crafts K C vs H Q E
theorem zf0 {f:Addr}{fd:FuncData}(B:Bl K mg) {C:Nat→Addr}(Z:Zt K mg C) (G_Hall_standing:Mth CX0 P w K mg base (C 8) "standing" ["self"] 1 (sp_Hall_standing K C)) (G_copied_craft:Fn P w K mg base "copied_craft" ["craft"] 4 (sp_copied_craft K C)) (F:Fun K "crafts" "Hall.crafts" s_Hall_crafts f fd) (M:Meth K (C 8) "crafts" f):Mth CX0 P w K mg base (C 8) "crafts" ["self"] 5 (sp_Hall_crafts K C):=by
 refine⟨f,fd,M,F.ok (k:=4) zcP (λvs H Q E h=>?_) (λcdv A outer s H vs Q E hr h=>?_),F.binds λ_ _ _ _ _ _ us hl=>match us,hl with | [_],_=>rfl⟩
 ·first
  | (obtain⟨_,_,_,_,_,_,_,rfl,_⟩:=h;rfl)
 obtain⟨ha,la,va,ks,cr,ws,fp,rfl,hA,q⟩:=h
 refine⟨_,(zag (zaA (i:=1) zcP.nd rfl (Or.inl rfl) zgE)
   (zag (zdW PassesOwn.never rfl (zbp K (zbk G_Hall_standing Z.c_Hall hr za2 (pv 0))) (zay (i:=2) zcP.nd rfl (Or.inl rfl)) (zai (zkM (hr_u hr) (pv 1) (pv 2) (zat G_copied_craft hr rfl (zaE (zel (hr_u hr) (zaD K (pv 0) rfl) (pv 2) (λ_ _=>rfl)) zad)) rfl)))
   (zai (zar (pv 1))))),?_⟩
 obtain⟨dx,hh⟩:=hA.ins
 have h60:=hA.few
 walk_at "q"
 walk_at "gs"
 intro ca ca0
 have s1:=zah ca0 (.dK [])
 walk_at "gs"
 walk_at "q"
 walk_at "gs"
 refine⟨ha,dx,_,rfl,s1 _ _ hh,zeJ (by decide +kernel) (by decide +kernel),?_⟩
 walk_at "gs"
 refine⟨ha,la,va,ks,cr,ws,fp,rfl,hA.same s1,λl ns l0 pm so=>?_⟩
 have s2:=zah l0 (.lst (ns.map V.int))
 have s12:=s1.trans s2
 have hca:=s2 _ _ (zaf (H:=H) (a:=ca) (o:=.dK []))
 have nlc:l≠ca:=λz=>by rw[z,zaf] at l0;cases l0
 have hl:(upd (upd H ca (.dK [])) l (.lst (ns.map V.int))) l=some (.lst (ns.map V.int)):=zaf
 generalize (upd (upd H ca (.dK [])) l (.lst (ns.map V.int)))=H2 at s2 s12 hca hl
 have nnd:ns.Nodup:=pm.nodup_iff.mpr hA.nd
 have nlen:=pm.length_eq
 refine⟨l,rfl,⟨_,SqL.of hl⟩,?_⟩
 refine zfj (xs:=ns.map V.int) (λi σ H'=>E3 λx kvs F=>A8 (σ=[some (.ref ha),some (.ref ca),x]) (Same H H') (NoD H2 H') (H' ca=some (.dK kvs)) (KVs (λm v=>∃ p,v=.ref p∧zbm (C 7) H' p (cr m) (F m)) kvs (ns.take i)) ((∀ m∈ns.take i,∀ b∈F m,H b=none)) ((∀ m∈ns.take i,(F m).Nodup)) ((∀ m∈ns.take i,∀ k∈ns.take i,m≠k→∀ b∈F m,b∉F k)))
  ⟨none,[],(λ_=>[]:Int→List Addr),rfl,s12,(Same.refl _).nod,hca,by rw[List.take_zero];exact KVs.nil,λm hm=>by simp at hm,λm hm=>by simp at hm,λm hm=>by simp at hm⟩ (λi σ H' _ ⟨_,_,_,_,_,nd,_,_,_,_,_⟩=>SqL.of (nd _ _ hl (λ_ z=>by cases z))) ?_ ?_
 ·rintro i v σ H3 hv ⟨x,kvs,F,rfl,s3,nd3,hc3,hk3,f3,u3,d3⟩
  rw[zgm] at hv
  obtain⟨m,hm,rfl⟩:=zme.mp hv
  have hi:i<ns.length:=(zge.mp hm).1
  have mk:m∈ks:=pm.mem_iff.mp (zmg hm)
  have mt:m∉ns.take i:=zfq nnd hm
  have hA3:=hA.same s3
  obtain⟨dx3,hh3⟩:=hA3.ins
  obtain⟨kvl,hla,hkl⟩:=hA3.laid
  obtain⟨v,hv,p,f,rfl,hC,hf⟩:=hkl.2.2 m mk
  have rt:=hA.rt m mk
  walk_at "gs"
  refine⟨ha,(C 8),dx3,_,_,rfl,hh3,Z.c_Hall,Z.n_Hall_laid,zc3 _ _,?_⟩
  walk_at "gs"
  refine⟨la,.ref p,rfl,by rw[←hv];exact DGet.k (k:=.inl m) hla,?_⟩
  walk_at "gs"
  refine⟨p,cr m,rfl,hC.t rt.nine.d9,rt.nine,λq fq H4 s4 hq fq0 fqn=>?_⟩
  have hc4:=s4 _ _ hc3
  have kl:=hk3.len
  rw[List.length_take] at kl
  walk_at "gs"
  refine⟨ca,_,rfl,DPut.k (k:=.inl m) hc4 (zcg (by omega)),?_⟩
  have nd5:NoD H4 (upd H4 ca (.dK (putK kvs (.inl m) (.ref q)))):=zep hc4
  have put:=hk3.put' (m:=m) (v:=.ref q) (P':=λk v=>∃ p,v=.ref p∧zbm (C 7) (upd H4 ca (.dK (putK kvs (.inl m) (.ref q)))) p (cr k) ((λj=>if j=m then fq else F j) k)) ⟨q,rfl,by simp only[if_pos];exact hq.nod nd5⟩ (λk v ne ⟨p',e1,e2⟩=>⟨p',e1,by simp only[if_neg ne];exact (e2.same s4).nod nd5⟩)
  rw[if_neg mt] at put
  have tk:ns.take (i+1)=ns.take i++[m]:=by rw[List.take_add_one,hm];rfl
  have old:∀ k∈ns.take i,∀ b∈F k,∃ o,H3 b=some o:=λk hk b hb=>by
   obtain⟨v,_,p',_,e2⟩:=hk3.2.2 k hk
   exact e2.has b hb
  refine⟨_,_,_,rfl,(s3.trans s4).put ca0,nd3.trans (s4.nod.trans nd5),zaf,by rw[tk];exact put,λk hk b hb=>?_,λk hk=>?_,λk hk j hj ne b hb=>?_⟩
  ·rw[tk] at hk
   by_cases z:k=m
   ·simp only[z,if_pos] at hb
    exact s3.fr b (fq0 b hb)
   ·simp only[if_neg z] at hb
    refine f3 k ?_ b hb
    rcases zma.mp hk with w | w
    ·exact w
    ·exact absurd (zms.mp w) z
  ·rw[tk] at hk
   by_cases z:k=m
   ·simp only[z,if_pos];exact fqn
   ·simp only[if_neg z]
    refine u3 k ?_
    rcases zma.mp hk with w | w
    ·exact w
    ·exact absurd (zms.mp w) z
  ·rw[tk] at hk hj
   have inT:∀ {k},k∈ns.take i++[m]→¬ k=m→k∈ns.take i:=λ{k} hk z=>by
    rcases zma.mp hk with w | w
    ·exact w
    ·exact absurd (zms.mp w) z
   by_cases z:k=m
   ·have zj:¬ j=m:=λw=>ne (z.trans w.symm)
    simp only[if_pos z] at hb
    simp only[if_neg zj]
    intro w
    obtain⟨o,ho⟩:=old j (inT hj zj) b w
    rw[fq0 b hb] at ho;cases ho
   ·simp only[if_neg z] at hb
    by_cases zj:j=m
    ·simp only[if_pos zj]
     intro w
     obtain⟨o,ho⟩:=old k (inT hk z) b hb
     rw[fq0 b w] at ho;cases ho
    ·simp only[if_neg zj]
     exact d3 k (inT hk z) j (inT hj zj) ne b hb
 ·rintro σ H3 ⟨x,kvs,F,rfl,s3,nd3,hc3,hk3,f3,u3,d3⟩
  rw[zlm,List.take_of_length_le (Nat.le_refl _)] at hk3 f3 u3 d3
  walk_at "gs"
  exact q ca H3 kvs ns F s3 ca0 hc3 pm so hk3 f3 u3 d3
inductive sp_Run_craft_of (K:Fg) (C:Nat→Addr) (vs:List V) (H:Hp) (Q:VK) (E:XK):Prop
 | mk (r ka ia sa:Addr) (ks:List Int) (cr:Int→Cr) (fas:List Fa) (s:Rs) (kfp:List Addr) (p dx ha aa:Addr) (f:Fm):vs=[.ref r,.ref p]→RunX (C 6) (C 5) (C 7) H r ka ia sa ks cr fas s kfp→H p=some (.ins (C 5) dx (ffl f.n f.p ha aa))→f.n∈ks→(∀ q g,zbm (C 7) H q (cr f.n) g→Q (.ref q) H)→sp_Run_craft_of K C vs H Q E
theorem zfM {f:Addr}{fd:FuncData}(B:Bl K mg) {C:Nat→Addr}(Z:Zt K mg C)  (F:Fun K "craft_of" "Run.craft_of" s_Run_craft_of f fd) (M:Meth K (C 6) "craft_of" f):Mth CX0 P w K mg base (C 6) "craft_of" ["self","frame"] 1 (sp_Run_craft_of K C):=by
 refine⟨f,fd,M,F.ok (k:=0) zfD (λvs H Q E h=>?_) (λcdv A outer s H vs Q E hr h=>?_),F.binds λ_ _ _ _ _ _ us hl=>match us,hl with | [_,_],_=>rfl⟩
 ·first
  | (obtain⟨_,_,_,_,_,_,_,_,_,_,_,_,_,_,rfl,_⟩:=h;rfl)
 obtain⟨r,ka,ia,sa,ks,cr,fas,s,kfp,p,dx,ha,aa,f,rfl,A',hp,hn,q⟩:=h
 refine⟨_,(zai (zar (zel (hr_u hr) (zaD K (pv 0) rfl) (zaD K (pv 1) rfl) (λ_ _=>rfl)))),?_⟩
 obtain⟨dr,ev,hr',_⟩:=A'.ins
 obtain⟨kvs,o,g,e1,e2,e3⟩:=A'.kn.craft hn
 walk_at "gs"
 refine⟨r,(C 6),dr,_,_,rfl,hr',Z.c_Run,Z.n_Run_known,zd8,?_⟩
 walk_at "gs"
 refine⟨p,(C 5),dx,_,_,rfl,hp,Z.c_Frame,Z.n_Frame_number,zfw _ _ _ _,?_⟩
 refine⟨ka,.ref o,rfl,by rw[←e2];exact DGet.k (k:=.inl f.n) e1,?_⟩
 exact q o g e3
inductive sp_Run_is_behind_last_deed (K:Fg) (C:Nat→Addr) (vs:List V) (H:Hp) (Q:VK) (E:XK):Prop
 | mk (r ka ia sa:Addr) (ks:List Int) (cr:Int→Cr) (fas:List Fa) (s:Rs) (kfp:List Addr) (f:Fm) (st:List Fm):vs=[.ref r]→RunX (C 6) (C 5) (C 7) H r ka ia sa ks cr fas s kfp→s.st=f::st→WfF ks cr f→(cr f.n).Rt→Q (.bl (decide (f.p=((cr f.n).deeds.length:Int)))) H→sp_Run_is_behind_last_deed K C vs H Q E
theorem zct {f:Addr}{fd:FuncData}(B:Bl K mg) {C:Nat→Addr}(Z:Zt K mg C) (G_Run_craft_of:Mth CX0 P w K mg base (C 6) "craft_of" ["self","frame"] 1 (sp_Run_craft_of K C)) (F:Fun K "is_behind_last_deed" "Run.is_behind_last_deed" s_Run_is_behind_last_deed f fd) (M:Meth K (C 6) "is_behind_last_deed" f):Mth CX0 P w K mg base (C 6) "is_behind_last_deed" ["self"] 2 (sp_Run_is_behind_last_deed K C):=by
 refine⟨f,fd,M,F.ok (k:=1) zby (λvs H Q E h=>?_) (λcdv A outer s H vs Q E hr h=>?_),F.binds λ_ _ _ _ _ _ us hl=>match us,hl with | [_],_=>rfl⟩
 ·first
  | (obtain⟨_,_,_,_,_,_,_,_,_,_,_,rfl,_⟩:=h;rfl)
 obtain⟨r,ka,ia,sa,ks,cr,fas,s',kfp,f,st,rfl,A',hst,wf,rt,q⟩:=h
 refine⟨_,(zag (zaA (i:=1) zby.nd rfl (Or.inl rfl) (zaB (k_ix K) (zaD K (pv 0) rfl) (zdB zb2 zaa) (λ_ _=>rfl)))
   (zai (zar (zbB (k_eq K hr) (zaD K (pv 1) rfl) (zaP (zdQ K) rfl B.len L2.boot_len (zbl (zaD K (za1 G_Run_craft_of Z.c_Run hr za2 (pv 0) (zae (pv 1) zad)) rfl) zad)) (zau _))))),?_⟩
 obtain⟨dr,ev,hr',_⟩:=A'.ins
 have fr:=A'.fr
 rw[hst] at fr
 cases fas with
 | nil=>exact fr.elim
 | cons t fas=>
 obtain⟨p,ha,aa⟩:=t
 obtain⟨⟨dp,f1⟩,_⟩:=fr
 walk_at "q"
 walk_at "gs"
 refine⟨r,(C 6),dr,_,_,rfl,hr',Z.c_Run,Z.n_Run_stack,zbs,?_⟩
 walk_at "gs"
 refine zbc (SqL.of A'.sta) (v:=.ref p) zd9 ?_
 walk_at "gs"
 refine⟨p,(C 5),dp,_,_,rfl,f1,Z.c_Frame,Z.n_Frame_place,zbT _ _ _ _,?_⟩
 walk_at "gs"
 refine⟨r,dr,_,rfl,hr',zbn (by decide +kernel) (by decide +kernel) (by decide +kernel) (by decide +kernel) (by decide +kernel),?_⟩
 walk_at "gs"
 refine⟨r,ka,ia,sa,ks,cr,(p,ha,aa)::fas,s',kfp,p,dp,ha,aa,f,rfl,A',f1,wf.m,λo g hC=>?_⟩
 obtain⟨dx,y1,y2,b3,b4,dvs,nvs,ho,_,_,h3,hD,_⟩:=hC.out (K:=K) rt.nine.d9
 walk_at "gs"
 refine⟨o,(C 7),dx,_,_,rfl,ho,Z.c_Craft,Z.n_Craft_deeds,zca _ _ _ _,?_⟩
 walk_at "gs"
 refine zdP (.inl (SqL.of h3)) ?_
 refine zpc ?_
 have e:dvs.length=(cr f.n).deeds.length:=hD.1.symm
 rw[e]
 exact q
inductive sp_first_unmet (K:Fg) (vs:List V) (H:Hp) (Q:VK) (E:XK):Prop
 | mk (la na:Addr) (ls:List (List Int)) (ns:List Int):vs=[.ref la,.ref na]→zcM K H la ls→SqL K H na (ns.map V.int)→ns.length=8→(∀ l∈ls,l.length=9∧Sm l)→(∀ H',Same H H'→Q (badV (zaH ls ns)) H')→sp_first_unmet K vs H Q E
theorem zlE {H:Hp}{Q:VK}{E:XK}{la na:Addr}{ls:List (List Int)}{ns:List Int}(h1:zcM K H la ls) (h2:SqL K H na (ns.map V.int)) (h3:ns.length=8) (h4:∀ l∈ls,l.length=9∧Sm l) (q:∀ H',Same H H'→Q (badV (zaH ls ns)) H'):sp_first_unmet K [.ref la,.ref na] H Q E:=⟨la,na,ls,ns,rfl,h1,h2,h3,h4,q⟩
theorem zf1 {ls:List (List Int)}{P:List Int→Bool}{i:Nat}{l:List Int}(h:(ls.take i).findIdx? P=none) (e:ls[i]?=some l) (hp:P l=false):(ls.take (i+1)).findIdx? P=none:=by
 rw[List.take_add_one,e,List.findIdx?_append,h]
 simp[hp]
theorem zf2 {f:Addr}{fd:FuncData}(B:Bl K mg) {C:Nat→Addr}(Z:Zt K mg C) (G_holds:Fn P w K mg base "holds" ["line","numbers"] 2 (ze4 K)) (F:Fun K "first_unmet" "first_unmet" s_first_unmet f fd) (m:mg "first_unmet"=some (.ref f)):Fn P w K mg base "first_unmet" ["lines","numbers"] 3 (sp_first_unmet K):=by
 refine Fn.of (k:=2) F zcO m (λ_ _ _ _ _ _ us hl=>match us,hl with | [_,_],_=>rfl) (λvs H Q E h=>?_) (λcdv A outer s H vs Q E hr h=>?_)
 ·first
  | (obtain⟨_,_,_,_,rfl,_⟩:=h;rfl)
 obtain⟨la,na,ls,ns,rfl,⟨xs,hla,hxs⟩,hna,n8,h9,q⟩:=h
 refine⟨_,(zag (zdW PassesOwn.never rfl (zk4 K rfl B.enumerate (zae (pv 0) zad)) (zeA K (n:=2) rfl (zbf (zay (i:=2) zcO.nd rfl (Or.inl rfl)) (zbf (zay (i:=3) zcO.nd rfl (Or.inl rfl)) zda))) (zai (zaW (zg6 (zdD (zat G_holds hr rfl (zae (pv 3) (zae (pv 1) zad))))) (zai (zar (pv 2))) zav)))
   (zai (zar zdC))),?_⟩
 have lx:=hxs.length
 rw[zlm] at lx
 walk_at "q"
 walk_at "gs"
 refine⟨la,xs,rfl,hla,?_⟩
 refine zk0 (zkX (SqL.of hla)) (λi σ H2=>∃ x y,A3 (σ=[some (.ref la),some (.ref na),x,y]) (Same H H2) ((ls.take i).findIdx? (λl=>decide (zcj l ns<0))=none))
  ⟨none,none,rfl,Same.refl _,rfl⟩ (λi σ H2 ⟨_,_,_,e,_⟩=>e) ?_ ?_
 ·rintro i v σ H2 H3 hi ⟨x,y,rfl,s2,hf⟩ s3 ⟨T,u,rfl,hT,hu'⟩
  have s03:=s2.trans s3
  obtain⟨d,hd,hru⟩:=Reps.get' hxs hu'
  rw[zgm] at hd
  obtain⟨l,hl,rfl⟩:=zme.mp hd
  obtain⟨ua,rfl,hua⟩:=zb4.mp (Rep.same s03 _ hru)
  obtain⟨l9,lsm⟩:=h9 l (zmg hl)
  refine⟨T,_,rfl,SqT.of hT,rfl,⟨_,_,rfl,?_⟩⟩
  refine⟨_,_,rfl,?_⟩
  refine⟨rfl,?_⟩
  cases l with
  | nil=>simp at l9
  | cons c fs=>
  walk_at "gs"
  refine⟨ua,na,c,fs,ns,rfl,hua,s03.seq hna,by simpa using l9,n8,zlv lsm,λH4 s4=>?_⟩
  have ew:c+dot fs ns=zcj (c::fs) ns:=(zdS _ _ _).symm
  rw[ew]
  dsimp only
  by_cases hb:0≤zcj (c::fs) ns
  ·rw[decide_eq_true hb]
   walk_at "gs"
   exact⟨_,_,rfl,s03.trans s4,zf1 hf hl (decide_eq_false (by omega))⟩
  ·rw[decide_eq_false hb]
   walk_at "gs"
   have e:zaH ls ns=some i:=by
    unfold zaH
    rw[zlw hf hl,if_pos (decide_eq_true (by omega))]
   have:=q _ (s03.trans s4)
   rw[e] at this
   exact this
 ·rintro σ H2 ⟨x,y,rfl,s2,hf⟩
  walk_at "gs"
  rw[←lx,List.take_of_length_le (Nat.le_refl _)] at hf
  have e:zaH ls ns=none:=hf
  have:=q _ s2
  rw[e] at this
  exact this
inductive sp_Run_meets (K:Fg) (C:Nat→Addr) (vs:List V) (H:Hp) (Q:VK) (E:XK):Prop
 | mk (r ka ia sa:Addr) (ks:List Int) (cr:Int→Cr) (fas:List Fa) (s:Rs) (kfp:List Addr) (w:Str) (la na:Addr) (ls:List (List Int)) (ns:List Int) (f:Fm) (st:List Fm):vs=[.ref r,.str w,.ref la,.ref na]→RunX (C 6) (C 5) (C 7) H r ka ia sa ks cr fas s kfp→s.st=f::st→s.en=none→zcM K H la ls→SqL K H na (ns.map V.int)→ns.length=8→(∀ l∈ls,l.length=9∧Sm l)→(∀ H',OffA [r] H H'→RunX (C 6) (C 5) (C 7) H' r ka ia sa ks cr fas {s with en:=(zaH ls ns).map (brk w f)} kfp→Q (.bl (zaH ls ns).isNone) H')→sp_Run_meets K C vs H Q E
theorem zhS {f:Addr}{fd:FuncData}(B:Bl K mg) {C:Nat→Addr}(Z:Zt K mg C) (G_first_unmet:Fn P w K mg base "first_unmet" ["lines","numbers"] 3 (sp_first_unmet K)) (F:Fun K "meets" "Run.meets" s_Run_meets f fd) (M:Meth K (C 6) "meets" f):Mth CX0 P w K mg base (C 6) "meets" ["self","word","lines","numbers"] 4 (sp_Run_meets K C):=by
 refine⟨f,fd,M,F.ok (k:=3) zdr (λvs H Q E h=>?_) (λcdv A outer s H vs Q E hr h=>?_),F.binds λ_ _ _ _ _ _ us hl=>match us,hl with | [_,_,_,_],_=>rfl⟩
 ·first
  | (obtain⟨_,_,_,_,_,_,_,_,_,_,_,_,_,_,_,_,rfl,_⟩:=h;rfl)
 obtain⟨r,ka,ia,sa,ks,cr,fas,s',kfp,w,la,na,ls,ns,f,st,rfl,A',hst,hen,hL,hN,n8,h9,q⟩:=h
 refine⟨_,(zag (zaA (i:=4) zdr.nd rfl (Or.inl rfl) (zat G_first_unmet hr rfl (zae (pv 2) (zae (pv 3) zad))))
   (zag (zaW (zas zkq (pv 4) zdC (zau _)) (zag (zaA (i:=5) zdr.nd rfl (Or.inl rfl) (zaB (k_ix K) (zaD K (pv 0) rfl) (zdB zb2 zaa) (λ_ _=>rfl)))
   (zai (zbq (pv 0) (zaL (zab zaJ (zae (pv 1) (zbl (zaD K (pv 5) rfl) (zbl (zaD K (pv 5) rfl) (zae (pv 4) zad)))))) rfl))) zav)
   (zai (zar (zbB zg8 (pv 4) zdC (zau _)))))),?_⟩
 walk_at "q"
 walk_at "gs"
 refine zlE hL hN n8 h9 λH1 s1=>?_
 have A1:=A'.same s1
 walk_at "gs"
 cases hb:zaH ls ns with
 | none=>
  rw[hb] at q
  have q:=q H1 s1.offA (by
   have e:({s' with en:=(none:Option Nat).map (brk w f)} : Rs)=s':=by cases s';cases hen;rfl
   rw[e];exact A1)
  with_reducible refine zpC (λQ2 q2=>?_) ?_
  ·walk_at "gs"
   refine⟨rfl,?_⟩
   show ∃ k,V.bl (!decide (V.non=V.non))=.bl k∧_
   rw[zih]
   walk_at "gs"
   exact q2
  ·walk_at "gs"
   refine⟨rfl,?_⟩
   show Q (.bl (decide (V.non=V.non))) H1
   rw[zih]
   exact q
 | some i=>
  rw[hb] at q
  have ei:∀ j:Int,decide (V.int j=V.non)=false:=λj=>decide_eq_false (by intro z;cases z)
  obtain⟨dr,ev,hr',_⟩:=A1.ins
  have fr:=A1.fr
  rw[hst] at fr
  cases fas with
  | nil=>exact fr.elim
  | cons t fas=>
  obtain⟨p,ha,aa⟩:=t
  obtain⟨⟨dp,f1⟩,_⟩:=fr
  with_reducible refine zd1 (λσ H'=>σ=[some (.ref r),some (.str w),some (.ref la),some (.ref na),some (.int (i:Int)),some (.ref p)]∧OffA [r] H1 H'∧RunX (C 6) (C 5) (C 7) H' r ka ia sa ks cr ((p,ha,aa)::fas) {s' with en:=some (brk w f i)} kfp) (λNX tail=>?_) ?_
  ·walk_at "gs"
   refine⟨rfl,?_⟩
   show ∃ k,V.bl (!decide (V.int (i:Int)=V.non))=.bl k∧_
   rw[ei]
   walk_at "gs"
   walk_at "q"
   walk_at "gs"
   refine⟨r,(C 6),dr,_,_,rfl,hr',Z.c_Run,Z.n_Run_stack,zbs,?_⟩
   walk_at "gs"
   refine zbc (SqL.of A1.sta) (v:=.ref p) zd9 ?_
   walk_at "gs"
   refine⟨p,(C 5),dp,_,_,rfl,f1,Z.c_Frame,Z.n_Frame_number,zfw _ _ _ _,?_⟩
   walk_at "gs"
   refine⟨p,(C 5),dp,_,_,rfl,f1,Z.c_Frame,Z.n_Frame_place,zbT _ _ _ _,?_⟩
   walk_at "gs"
   refine⟨(by walk_at "sm"),λT hT=>?_⟩
   have t2:=zah hT (.tup (brk w f i))
   walk_at "gs"
   refine⟨r,(C 6),dr,_,rfl,t2 _ _ hr',Z.c_Run,Z.n_Run_ending,by show 5<1000;decide,?_⟩
   rw[zcm]
   refine tail _ _ ⟨rfl,t2.offA.trans (zbv (by simp)),?_⟩
   have:=(A1.same t2).setR (k':=s'.k) (en':=some (brk w f i)) (t2 _ _ hr') ⟨T,rfl,zaf⟩
   exact this
  ·rintro σ H2 ⟨rfl,o2,A2⟩
   walk_at "gs"
   refine⟨rfl,?_⟩
   show Q (.bl (decide (V.int (i:Int)=V.non))) H2
   rw[ei]
   exact q H2 (s1.offA.trans o2) A2
inductive sp_Run_take (K:Fg) (C:Nat→Addr) (vs:List V) (H:Hp) (Q:VK) (E:XK):Prop
 | mk (r ka ia sa:Addr) (ks:List Int) (cr:Int→Cr) (fas:List Fa) (s:Rs) (kfp:List Addr) (g:Fm) (st:List Fm) (l0 l1:Int):vs=[.ref r,.int l0,.int l1]→RunX (C 6) (C 5) (C 7) H r ka ia sa ks cr fas s kfp→s.st=g::st→WfF ks cr g→zgq cr g→(∀ H',zaF (zap r ia sa fas) H (zap r ia sa fas) H'→RunX (C 6) (C 5) (C 7) H' r ka ia sa ks cr fas {s with st:=zhG cr g l0 l1::st} kfp→Q .non H')→sp_Run_take K C vs H Q E
theorem ziE {f:Addr}{fd:FuncData}(B:Bl K mg) {C:Nat→Addr}(Z:Zt K mg C) (G_Run_craft_of:Mth CX0 P w K mg base (C 6) "craft_of" ["self","frame"] 1 (sp_Run_craft_of K C)) (F:Fun K "take" "Run.take" s_Run_take f fd) (M:Meth K (C 6) "take" f):Mth CX0 P w K mg base (C 6) "take" ["self","left_0","left_1"] 2 (sp_Run_take K C):=by
 refine⟨f,fd,M,F.ok (k:=1) zdV (λvs H Q E h=>?_) (λcdv A outer s H vs Q E hr h=>?_),F.binds λ_ _ _ _ _ _ us hl=>match us,hl with | [_,_,_],_=>rfl⟩
 ·first
  | (obtain⟨_,_,_,_,_,_,_,_,_,_,_,_,_,rfl,_⟩:=h;rfl)
 obtain⟨r,ka,ia,sa,ks,cr,fas,s',kfp,g,st,l0,l1,rfl,A',hst,wf,hc,q⟩:=h
 refine⟨_,(zag (zaA (i:=3) zdV.nd rfl (Or.inl rfl) (zaB (k_ix K) (zaD K (pv 0) rfl) (zdB zb2 zaa) (λ_ _=>rfl)))
   (zag (zaA (i:=4) zdV.nd rfl (Or.inl rfl) (zaB (k_ix K) (zaB (k_ix K) (zaD K (za1 G_Run_craft_of Z.c_Run hr za2 (pv 0) (zae (pv 3) zad)) rfl) (zaD K (pv 3) rfl) (λ_ _=>rfl)) zaa (λ_ _=>rfl)))
   (zag (zey (pv 1) (zga (zaD K (pv 3) rfl) (zaB (k_ix K) (pv 4) zaa (λ_ _=>rfl)) zdv))
   (zag (zey (pv 2) (zga (zaD K (pv 3) rfl) (zaB (k_ix K) (pv 4) zaa (λ_ _=>rfl)) zdv))
   (zai (zbq (pv 3) (zao (zaM K) (zaD K (pv 3) rfl) zaa) rfl)))))),?_⟩
 have rt:=A'.kn.rt g.n wf.m
 obtain⟨dr,ev,hr',_⟩:=A'.ins
 have fr:=A'.fr
 rw[hst] at fr
 cases fas with
 | nil=>exact fr.elim
 | cons t fas=>
 obtain⟨p,ha,aa⟩:=t
 obtain⟨⟨dp,f1⟩,f2,f3,f4⟩:=fr
 have hlt:=hc.lt
 obtain⟨m,g0,g1,t0,t1,hd⟩:=hc
 have hok:=rt.parts.2.2.2.2.2 _ (zmg hd)
 obtain⟨_,_,b0,b1,_⟩:=zgr hok
 have e4:=wf.h4
 walk_at "gs"
 walk_at "q"
 walk_at "gs"
 refine⟨r,(C 6),dr,_,_,rfl,hr',Z.c_Run,Z.n_Run_stack,zbs,?_⟩
 walk_at "gs"
 refine zbc (SqL.of A'.sta) (v:=.ref p) zd9 ?_
 walk_at "gs"
 walk_at "q"
 walk_at "gs"
 refine⟨r,dr,_,rfl,hr',zbn (by decide +kernel) (by decide +kernel) (by decide +kernel) (by decide +kernel) (by decide +kernel),?_⟩
 walk_at "gs"
 refine⟨r,ka,ia,sa,ks,cr,(p,ha,aa)::fas,s',kfp,p,dp,ha,aa,g,rfl,A',f1,wf.m,λo gg hC=>?_⟩
 obtain⟨dx,y1,y2,b3,b4,dvs,nvs,ho,_,_,h3,hD,_⟩:=hC.out (K:=K) rt.nine.d9
 have ld:=hD.1
 have hx:=List.getElem?_eq_getElem (l:=dvs) (i:=g.p.toNat) (by omega)
 obtain⟨T,ys,hT,hT2,px⟩:=zbO (hD.2 _ _ _ hd hx)
 obtain⟨x0,ys,rfl,e0,px⟩:=zax px
 obtain⟨x1,ys,rfl,e1,px⟩:=zax px
 obtain⟨x2,ys,rfl,e2,px⟩:=zax px
 obtain⟨x3,ys,rfl,e3,px⟩:=zax px
 obtain⟨tk,rfl,htk⟩:=zhC e3
 walk_at "gs"
 refine⟨o,(C 7),dx,_,_,rfl,ho,Z.c_Craft,Z.n_Craft_deeds,zca _ _ _ _,?_⟩
 walk_at "gs"
 refine⟨p,(C 5),dp,_,_,rfl,f1,Z.c_Frame,Z.n_Frame_place,zbT _ _ _ _,?_⟩
 walk_at "gs"
 refine zbc (SqL.of h3) (v:=.ref T) (zhv wf.p0 (by rw[hx,hT])) ?_
 walk_at "gs"
 refine za7 (SqT.of hT2) (v:=.ref tk) (zaV (j:=3) rfl) ?_
 walk_at "gs"
 walk_at "q"
 walk_at "gs"
 refine⟨p,(C 5),dp,_,_,rfl,f1,Z.c_Frame,Z.n_Frame_hands,zbP _ _ _ _,?_⟩
 walk_at "gs"
 refine za7 (SqT.of htk) (v:=.int t0) zbJ ?_
 walk_at "gs"
 refine zfi f2 (j:=t0.toNat) (zjc b0.1 (by rw[zlm];omega)) ?_
 rw[zgR]
 have A1:=A'.setH (xs:=g.hands.set t0.toNat l0) hst
 obtain⟨⟨dp1,g1'⟩,g2',g3',_⟩:=A1.fr
 have tk1:=(zb3 (o:=.lst ((g.hands.set t0.toNat l0).map V.int)) f2) _ _ htk
 have m1:zaF (zap r ia sa ((p,ha,aa)::fas)) H (zap r ia sa ((p,ha,aa)::fas)) (upd H ha (.lst ((g.hands.set t0.toNat l0).map V.int))):=zaF.upd zog
 generalize upd H ha (.lst ((g.hands.set t0.toNat l0).map V.int))=H1 at *
 walk_at "gs"
 walk_at "q"
 walk_at "gs"
 refine⟨p,(C 5),dp1,_,_,rfl,g1',Z.c_Frame,Z.n_Frame_hands,zbP _ _ _ _,?_⟩
 walk_at "gs"
 refine za7 (SqT.of tk1) (v:=.int t1) (zaV (j:=1) rfl) ?_
 walk_at "gs"
 refine zfi g2' (j:=t1.toNat) (zjc b1.1 (by rw[zlm,List.length_set];omega)) ?_
 rw[zgR]
 have A2:=A1.setH (xs:=(g.hands.set t0.toNat l0).set t1.toNat l1) rfl
 obtain⟨⟨dp2,k1⟩,k2,k3,_⟩:=A2.fr
 have m2:zaF (zap r ia sa ((p,ha,aa)::fas)) H1 (zap r ia sa ((p,ha,aa)::fas)) (upd H1 ha (.lst (((g.hands.set t0.toNat l0).set t1.toNat l1).map V.int))):=zaF.upd zog
 generalize upd H1 ha (.lst (((g.hands.set t0.toNat l0).set t1.toNat l1).map V.int))=H2 at *
 walk_at "gs"
 refine⟨p,(C 5),dp2,_,_,rfl,k1,Z.c_Frame,Z.n_Frame_place,zbT _ _ _ _,?_⟩
 walk_at "gs"
 refine⟨p,(C 5),dp2,_,rfl,k1,Z.c_Frame,Z.n_Frame_place,by show 4<1000;decide,?_⟩
 rw[znj]
 have A3:=A2.setP (q:=g.p+1) rfl k1
 refine q _ (m1.trans (m2.trans (zaF.upd zpN))) ?_
 unfold zhG ziu
 rw[hd]
 exact A3
inductive sp_Run_leave (K:Fg) (C:Nat→Addr) (vs:List V) (H:Hp) (Q:VK) (E:XK):Prop
 | mk (r ka ia sa:Addr) (ks:List Int) (cr:Int→Cr) (fas:List Fa) (s:Rs) (kfp:List Addr) (f:Fm) (st:List Fm):vs=[.ref r]→RunX (C 6) (C 5) (C 7) H r ka ia sa ks cr fas s kfp→s.st=f::st→s.en=none→Wf ks cr (f::st)→(∀ H' fas',zaF (zap r ia sa fas) H (zap r ia sa fas') H'→RunX (C 6) (C 5) (C 7) H' r ka ia sa ks cr fas' (zhI cr s f st) kfp→Q .non H')→sp_Run_leave K C vs H Q E
theorem zhT {f:Addr}{fd:FuncData}(B:Bl K mg) {C:Nat→Addr}(Z:Zt K mg C) (G_Run_meets:Mth CX0 P w K mg base (C 6) "meets" ["self","word","lines","numbers"] 4 (sp_Run_meets K C)) (G_Run_take:Mth CX0 P w K mg base (C 6) "take" ["self","left_0","left_1"] 2 (sp_Run_take K C)) (G_Frame_numbers:Mth CX0 P w K mg base (C 5) "numbers" ["self"] 1 (sp_Frame_numbers K C)) (G_Run_craft_of:Mth CX0 P w K mg base (C 6) "craft_of" ["self","frame"] 1 (sp_Run_craft_of K C)) (F:Fun K "leave" "Run.leave" s_Run_leave f fd) (M:Meth K (C 6) "leave" f):Mth CX0 P w K mg base (C 6) "leave" ["self"] 5 (sp_Run_leave K C):=by
 refine⟨f,fd,M,F.ok (k:=4) zeF (λvs H Q E h=>?_) (λcdv A outer s H vs Q E hr h=>?_),F.binds λ_ _ _ _ _ _ us hl=>match us,hl with | [_],_=>rfl⟩
 ·first
  | (obtain⟨_,_,_,_,_,_,_,_,_,_,_,rfl,_⟩:=h;rfl)
 obtain⟨r,ka,ia,sa,ks,cr,fas,s',kfp,f,st,rfl,A',hst,hen,wfs,q⟩:=h
 refine⟨_,(zag (zaA (i:=1) zeF.nd rfl (Or.inl rfl) (zaB (k_ix K) (zaD K (pv 0) rfl) (zdB zb2 zaa) (λ_ _=>rfl)))
   (zag (zaW (zg6 (zdD (za1 G_Run_meets Z.c_Run hr za2 (pv 0) (zab zaJ (zbl (zaD K (za1 G_Run_craft_of Z.c_Run hr za2 (pv 0) (zae (pv 1) zad)) rfl) (zaC (zbk G_Frame_numbers Z.c_Frame hr za2 (pv 1)) zad)))))) (zai zkj) zav)
   (zag (zaS (zoR PySem.F.plainAttrs_list PySem.F.slot_list_pop PySem.F.type_list_pop zoS (zaD K (pv 0) rfl)))
   (zai (zaW (zpJ K (zaD K (pv 0) rfl)) (zai (zaS (za1 G_Run_take Z.c_Run hr za2 (pv 0) (zaE (zaB (k_ix K) (zaD K (pv 1) rfl) zaa (λ_ _=>rfl)) (zaE (zaB (k_ix K) (zaD K (pv 1) rfl) zaa (λ_ _=>rfl)) zad))))) (zai (zbq (pv 0) (zaL (zab zaJ (zaE (zaB (k_ix K) (zaD K (pv 1) rfl) zaa (λ_ _=>rfl)) (zaE (zaB (k_ix K) (zaD K (pv 1) rfl) zaa (λ_ _=>rfl)) zad)))) rfl))))))),?_⟩
 have wf:=wfs.1 f List.mem_cons_self
 have rt:=A'.kn.rt f.n wf.m
 obtain⟨dr,ev,hr',_⟩:=A'.ins
 have fr:=A'.fr
 rw[hst] at fr
 cases fas with
 | nil=>exact fr.elim
 | cons t fas=>
 obtain⟨p,ha,aa⟩:=t
 obtain⟨⟨dp,f1⟩,f2,f3,f4⟩:=fr
 walk_at "gs"
 walk_at "q"
 walk_at "gs"
 refine⟨r,(C 6),dr,_,_,rfl,hr',Z.c_Run,Z.n_Run_stack,zbs,?_⟩
 walk_at "gs"
 refine zbc (SqL.of A'.sta) (v:=.ref p) zd9 ?_
 walk_at "gs"
 walk_at "q"
 walk_at "gs"
 refine⟨r,dr,_,rfl,hr',zbn (by decide +kernel) (by decide +kernel) (by decide +kernel) (by decide +kernel) (by decide +kernel),?_⟩
 walk_at "gs"
 refine⟨r,dr,_,rfl,hr',zbn (by decide +kernel) (by decide +kernel) (by decide +kernel) (by decide +kernel) (by decide +kernel),?_⟩
 walk_at "gs"
 refine⟨r,ka,ia,sa,ks,cr,(p,ha,aa)::fas,s',kfp,p,dp,ha,aa,f,rfl,A',f1,wf.m,λo g hC=>?_⟩
 obtain⟨dx,y1,y2,b3,b4,dvs,nvs,ho,_,hL,_⟩:=hC.out (K:=K) rt.nine.d9
 walk_at "gs"
 refine⟨o,(C 7),dx,_,_,rfl,ho,Z.c_Craft,Z.n_Craft_leaves,zcl _ _ _ _,?_⟩
 walk_at "gs"
 refine⟨p,dp,_,rfl,f1,zj4 (by decide +kernel) (by decide +kernel) (by decide +kernel) (by decide +kernel),?_⟩
 walk_at "gs"
 refine⟨p,dp,ha,aa,f,rfl,f1,f2,f3,wf.h4,wf.a2,λna H1 s1 hna=>?_⟩
 walk_at "gs"
 refine⟨r,ka,ia,sa,ks,cr,(p,ha,aa)::fas,s',kfp,"leaves",y2,na,_,zcc f,f,st,rfl,A'.same s1,hst,hen,hL.same s1,SqL.of hna,zcW wf,rt.sm.2.1,λH2 o2 A2=>?_⟩
 have m2:zaF (zap r ia sa ((p,ha,aa)::fas)) H (zap r ia sa ((p,ha,aa)::fas)) H2:=(zaF.same s1).trans (zaF.offR o2 A2)
 unfold zhI at q
 cases hb:zaH (cr f.n).leaves (zcc f) with
 | some i=>
  rw[hb] at q A2
  dsimp only[Option.isNone]
  walk_at "gs"
  exact q H2 _ m2 A2
 | none=>
 rw[hb] at q A2
 have A2:RunX (C 6) (C 5) (C 7) H2 r ka ia sa ks cr ((p,ha,aa)::fas) s' kfp:=by
  rw[←Rs.quiet hen];exact A2
 dsimp only[Option.isNone]
 walk_at "gs"
 obtain⟨dr2,ev2,hr2,_⟩:=A2.ins
 walk_at "gs"
 walk_at "q"
 walk_at "gs"
 refine⟨r,(C 6),dr2,_,_,rfl,hr2,Z.c_Run,Z.n_Run_stack,zbs,?_⟩
 walk_at "gs"
 refine⟨tyL A2.sta,?_⟩
 walk_at "gs"
 refine i_pop A2.sta zof ?_
 rw[zoe]
 have A3:=A2.pop hst
 have fr2:=A2.fr
 rw[hst] at fr2
 obtain⟨⟨dp2,k1⟩,k2,k3,_⟩:=fr2
 have ns:sa≠p∧sa≠ha:=by
  have:=A2.ndr.2.2.2.2.2.1
  rw[za4] at this
  simp only[List.mem_cons,not_or] at this
  exact⟨this.1,this.2.1⟩
 have k1:(upd H2 sa (.lst (fas.reverse.map λt=>V.ref t.1))) p=some (.ins (C 5) dp2 (ffl f.n f.p ha aa)):=by rw[zak ns.1.symm];exact k1
 have k2:(upd H2 sa (.lst (fas.reverse.map λt=>V.ref t.1))) ha=some (.lst (f.hands.map V.int)):=by rw[zak ns.2.symm];exact k2
 have m3:zaF (zap r ia sa ((p,ha,aa)::fas)) H (zap r ia sa fas) (upd H2 sa (.lst (fas.reverse.map λt=>V.ref t.1))):=m2.trans ((zaF.upd zoh).trans (zaF.less zmE))
 generalize upd H2 sa (.lst (fas.reverse.map λt=>V.ref t.1))=H3 at *
 obtain⟨dr3,ev3,hr3,_⟩:=A3.ins
 have e4:=wf.h4
 walk_at "gs"
 refine⟨r,(C 6),dr3,_,_,rfl,hr3,Z.c_Run,Z.n_Run_stack,zbs,?_⟩
 refine znf (SqL.of A3.sta) ?_
 cases st with
 | nil=>
  cases fas with
  | cons t fas=>exact A3.fr.elim
  | nil=>
  rw[show (!(([]:List Fa).reverse.map λt=>V.ref t.1).isEmpty)=false from rfl]
  walk_at "gs"
  refine⟨p,(C 5),dp2,_,_,rfl,k1,Z.c_Frame,Z.n_Frame_hands,zbP _ _ _ _,?_⟩
  walk_at "gs"
  refine zbc (SqL.of k2) (zeq (k:=0) (by decide) (by omega)) ?_
  walk_at "gs"
  refine⟨p,(C 5),dp2,_,_,rfl,k1,Z.c_Frame,Z.n_Frame_hands,zbP _ _ _ _,?_⟩
  walk_at "gs"
  refine zbc (SqL.of k2) (zeq (k:=1) (by decide) (by omega)) ?_
  walk_at "gs"
  refine⟨(by walk_at "sm"),λT hT=>?_⟩
  have t4:=zah hT (.tup (zj3 f))
  walk_at "gs"
  refine⟨r,(C 6),dr3,_,rfl,t4 _ _ hr3,Z.c_Run,Z.n_Run_ending,by show 5<1000;decide,?_⟩
  rw[zcm]
  exact q _ [] (m3.trans ((zaF.same t4).trans (zaF.upd zgs))) ((A3.same t4).setR (k':=s'.k) (en':=some (zj3 f)) (t4 _ _ hr3) ⟨T,rfl,zaf⟩)
 | cons g st=>
  cases fas with
  | nil=>exact A3.fr.elim
  | cons t fas=>
  have et:(!((t::fas).reverse.map λt=>V.ref t.1).isEmpty)=true:=by simp
  rw[et]
  walk_at "gs"
  refine⟨r,dr3,_,rfl,hr3,zbn (by decide +kernel) (by decide +kernel) (by decide +kernel) (by decide +kernel) (by decide +kernel),?_⟩
  walk_at "gs"
  refine⟨p,(C 5),dp2,_,_,rfl,k1,Z.c_Frame,Z.n_Frame_hands,zbP _ _ _ _,?_⟩
  walk_at "gs"
  refine zbc (SqL.of k2) (zeq (k:=0) (by decide) (by omega)) ?_
  walk_at "gs"
  refine⟨p,(C 5),dp2,_,_,rfl,k1,Z.c_Frame,Z.n_Frame_hands,zbP _ _ _ _,?_⟩
  walk_at "gs"
  refine zbc (SqL.of k2) (zeq (k:=1) (by decide) (by omega)) ?_
  walk_at "gs"
  refine⟨r,ka,ia,sa,ks,cr,t::fas,_,kfp,g,st,_,_,rfl,A3,rfl,wfs.1 g (by simp),wfs.2 g (by simp),λH4 m4 A4=>?_⟩
  walk_at "gs"
  exact q H4 _ (m3.trans m4) A4
inductive sp_Run_meet_notes (K:Fg) (C:Nat→Addr) (vs:List V) (H:Hp) (Q:VK) (E:XK):Prop
 | mk (r ka ia sa:Addr) (ks:List Int) (cr:Int→Cr) (fas:List Fa) (s:Rs) (kfp:List Addr) (f:Fm) (st:List Fm):vs=[.ref r]→RunX (C 6) (C 5) (C 7) H r ka ia sa ks cr fas s kfp→s.st=f::st→s.en=none→WfF ks cr f→f.p<((cr f.n).deeds.length:Int)→(cr f.n).Rt→(∀ H',OffA [r] H H'→RunX (C 6) (C 5) (C 7) H' r ka ia sa ks cr fas {s with en:=zcB cr f} kfp→Q .non H')→sp_Run_meet_notes K C vs H Q E
theorem zev {f:Addr}{fd:FuncData}(B:Bl K mg) {C:Nat→Addr}(Z:Zt K mg C) (G_Run_meets:Mth CX0 P w K mg base (C 6) "meets" ["self","word","lines","numbers"] 4 (sp_Run_meets K C)) (G_Frame_numbers:Mth CX0 P w K mg base (C 5) "numbers" ["self"] 1 (sp_Frame_numbers K C)) (G_Run_craft_of:Mth CX0 P w K mg base (C 6) "craft_of" ["self","frame"] 1 (sp_Run_craft_of K C)) (F:Fun K "meet_notes" "Run.meet_notes" s_Run_meet_notes f fd) (M:Meth K (C 6) "meet_notes" f):Mth CX0 P w K mg base (C 6) "meet_notes" ["self"] 5 (sp_Run_meet_notes K C):=by
 refine⟨f,fd,M,F.ok (k:=4) zcX (λvs H Q E h=>?_) (λcdv A outer s H vs Q E hr h=>?_),F.binds λ_ _ _ _ _ _ us hl=>match us,hl with | [_],_=>rfl⟩
 ·first
  | (obtain⟨_,_,_,_,_,_,_,_,_,_,_,rfl,_⟩:=h;rfl)
 obtain⟨r,ka,ia,sa,ks,cr,fas,s',kfp,f,st,rfl,A',hst,hen,wf,hp,rt,q⟩:=h
 refine⟨_,(zag (zaA (i:=1) zcX.nd rfl (Or.inl rfl) (zaB (k_ix K) (zaD K (pv 0) rfl) (zdB zb2 zaa) (λ_ _=>rfl)))
   (zai (zaS (za1 G_Run_meets Z.c_Run hr za2 (pv 0) (zab zaJ (zaE (zaB (k_ix K) (zaD K (za1 G_Run_craft_of Z.c_Run hr za2 (pv 0) (zae (pv 1) zad)) rfl) (zaD K (pv 1) rfl) (λ_ _=>rfl)) (zaC (zbk G_Frame_numbers Z.c_Frame hr za2 (pv 1)) zad))))))),?_⟩
 obtain⟨dr,ev,hr',_⟩:=A'.ins
 have fr:=A'.fr
 rw[hst] at fr
 cases fas with
 | nil=>exact fr.elim
 | cons t fas=>
 obtain⟨p,ha,aa⟩:=t
 obtain⟨⟨dp,f1⟩,f2,f3,_⟩:=fr
 walk_at "q"
 walk_at "gs"
 refine⟨r,(C 6),dr,_,_,rfl,hr',Z.c_Run,Z.n_Run_stack,zbs,?_⟩
 walk_at "gs"
 refine zbc (SqL.of A'.sta) (v:=.ref p) zd9 ?_
 walk_at "gs"
 refine⟨r,dr,_,rfl,hr',zbn (by decide +kernel) (by decide +kernel) (by decide +kernel) (by decide +kernel) (by decide +kernel),?_⟩
 walk_at "gs"
 refine⟨r,dr,_,rfl,hr',zbn (by decide +kernel) (by decide +kernel) (by decide +kernel) (by decide +kernel) (by decide +kernel),?_⟩
 walk_at "gs"
 refine⟨r,ka,ia,sa,ks,cr,(p,ha,aa)::fas,s',kfp,p,dp,ha,aa,f,rfl,A',f1,wf.m,λo g hC=>?_⟩
 obtain⟨dx,y1,y2,b3,b4,dvs,nvs,ho,_,_,h3,hD,h4,hN⟩:=hC.out (K:=K) rt.nine.d9
 have hp0:=wf.p0
 have ln:f.p.toNat<(cr f.n).notes.length:=by rw[rt.parts.2.2.2.1];omega
 have ln':f.p.toNat<nvs.length:=by rw[←hN.1];exact ln
 obtain⟨la,hx,hL⟩:=hN.2 f.p.toNat _ _ (List.getElem?_eq_getElem ln) (List.getElem?_eq_getElem ln')
 walk_at "gs"
 refine⟨o,(C 7),dx,_,_,rfl,ho,Z.c_Craft,Z.n_Craft_notes,zdy _ _ _ _,?_⟩
 walk_at "gs"
 refine⟨p,(C 5),dp,_,_,rfl,f1,Z.c_Frame,Z.n_Frame_place,zbT _ _ _ _,?_⟩
 walk_at "gs"
 refine zbc (SqL.of h4) (v:=.ref la) (zhv hp0 (by rw[List.getElem?_eq_getElem ln',hx])) ?_
 walk_at "gs"
 refine⟨p,dp,_,rfl,f1,zj4 (by decide +kernel) (by decide +kernel) (by decide +kernel) (by decide +kernel),?_⟩
 walk_at "gs"
 refine⟨p,dp,ha,aa,f,rfl,f1,f2,f3,wf.h4,wf.a2,λna H1 s1 hna=>?_⟩
 refine⟨r,ka,ia,sa,ks,cr,(p,ha,aa)::fas,s',kfp,"notes",la,na,_,zcc f,f,st,rfl,A'.same s1,hst,hen,hL.same s1,SqL.of hna,zcW wf,rt.sm.2.2 _ (List.getElem_mem ln),λH2 o2 A2=>?_⟩
 refine q H2 (s1.offA.trans o2) ?_
 unfold zcB
 rw[show (cr f.n).notes.getD f.p.toNat []=(cr f.n).notes[f.p.toNat] by rw[List.getD_eq_getElem?_getD,List.getElem?_eq_getElem ln];rfl]
 exact A2
inductive sp_Run_come_to (K:Fg) (C:Nat→Addr) (vs:List V) (H:Hp) (Q:VK) (E:XK):Prop
 | mk (r ka ia sa:Addr) (ks:List Int) (cr:Int→Cr) (fas:List Fa) (s:Rs) (kfp:List Addr) (f:Fm) (st:List Fm) (j:Int):vs=[.ref r,.int j]→RunX (C 6) (C 5) (C 7) H r ka ia sa ks cr fas s kfp→s.st=f::st→s.en=none→Wf ks cr ({f with p:=j}::st)→(∀ H' fas',zaF (zap r ia sa fas) H (zap r ia sa fas') H'→RunX (C 6) (C 5) (C 7) H' r ka ia sa ks cr fas' (zcK cr s {f with p:=j} st) kfp→Q .non H')→sp_Run_come_to K C vs H Q E
theorem zf3 {f:Addr}{fd:FuncData}(B:Bl K mg) {C:Nat→Addr}(Z:Zt K mg C) (G_Run_is_behind_last_deed:Mth CX0 P w K mg base (C 6) "is_behind_last_deed" ["self"] 2 (sp_Run_is_behind_last_deed K C)) (G_Run_leave:Mth CX0 P w K mg base (C 6) "leave" ["self"] 5 (sp_Run_leave K C)) (G_Run_meet_notes:Mth CX0 P w K mg base (C 6) "meet_notes" ["self"] 5 (sp_Run_meet_notes K C)) (F:Fun K "come_to" "Run.come_to" s_Run_come_to f fd) (M:Meth K (C 6) "come_to" f):Mth CX0 P w K mg base (C 6) "come_to" ["self","place"] 6 (sp_Run_come_to K C):=by
 refine⟨f,fd,M,F.ok (k:=5) zdK (λvs H Q E h=>?_) (λcdv A outer s H vs Q E hr h=>?_),F.binds λ_ _ _ _ _ _ us hl=>match us,hl with | [_,_],_=>rfl⟩
 ·first
  | (obtain⟨_,_,_,_,_,_,_,_,_,_,_,_,rfl,_⟩:=h;rfl)
 obtain⟨r,ka,ia,sa,ks,cr,fas,s',kfp,f,st,j,rfl,A',hst,hen,wfs,q⟩:=h
 refine⟨_,(zag (zaA (i:=2) zdK.nd rfl (Or.inl rfl) (zaB (k_ix K) (zaD K (pv 0) rfl) (zdB zb2 zaa) (λ_ _=>rfl)))
   (zag (zbq (pv 2) (pv 1) rfl)
   (zag (zgx PassesOwn.never (PW.pt (ziT (zas zg8 (zaD K (pv 0) rfl) zdC (zau _)) (zgw (zdD (zbk G_Run_is_behind_last_deed Z.c_Run hr za2 (pv 0)))))) (zai (zaS (zbk G_Run_leave Z.c_Run hr za2 (pv 0)))))
   (zai (zaW (zas zg8 (zaD K (pv 0) rfl) zdC (zau _)) (zai (zaS (zbk G_Run_meet_notes Z.c_Run hr za2 (pv 0)))) zav))))),?_⟩
 obtain⟨dr,ev,hr',_⟩:=A'.ins
 have fr:=A'.fr
 rw[hst] at fr
 cases fas with
 | nil=>exact fr.elim
 | cons t fas=>
 obtain⟨p,ha,aa⟩:=t
 obtain⟨⟨dp,f1⟩,f2,f3,f4⟩:=fr
 walk_at "gs"
 walk_at "q"
 walk_at "gs"
 refine⟨r,(C 6),dr,_,_,rfl,hr',Z.c_Run,Z.n_Run_stack,zbs,?_⟩
 walk_at "gs"
 refine zbc (SqL.of A'.sta) (v:=.ref p) zd9 ?_
 walk_at "gs"
 walk_at "q"
 walk_at "gs"
 refine⟨p,(C 5),dp,_,rfl,f1,Z.c_Frame,Z.n_Frame_place,by show 4<1000;decide,?_⟩
 rw[znj]
 have A1:=A'.setP (q:=j) hst f1
 have m1:zaF (zap r ia sa ((p,ha,aa)::fas)) H (zap r ia sa ((p,ha,aa)::fas)) (upd H p (.ins (C 5) dp (ffl f.n j ha aa))):=zaF.upd zpN
 generalize upd H p (.ins (C 5) dp (ffl f.n j ha aa))=H1 at *
 walk_at "gs"
 with_reducible refine zd1 (λσ H2=>σ=[some (.ref r),some (.int j),some (.ref p)]∧∃ fas2 s2,zc9 ks cr s' {f with p:=j} st s2∧zaF (zap r ia sa ((p,ha,aa)::fas)) H (zap r ia sa fas2) H2∧RunX (C 6) (C 5) (C 7) H2 r ka ia sa ks cr fas2 s2 kfp∧(s2.en=none→∃ g r,s2.st=g::r∧Wf ks cr (g::r)∧¬ g.p=((cr g.n).deeds.length:Int))) (λNX tail=>?_) ?_
 ·refine⟨λm σ H2=>σ=[some (.ref r),some (.int j),some (.ref p)]∧∃ fas2 s2,m=meaR s2∧zc9 ks cr s' {f with p:=j} st s2∧zaF (zap r ia sa ((p,ha,aa)::fas)) H (zap r ia sa fas2) H2∧RunX (C 6) (C 5) (C 7) H2 r ka ia sa ks cr fas2 s2 kfp,⟨_,rfl,_,({s' with st:={f with p:=j}::st} : Rs),rfl,⟨rfl,rfl,.inl ⟨hen,_,_,rfl,wfs,rfl⟩⟩,m1,A1⟩,?_⟩
  rintro m σ H2 ⟨rfl,fas2,s2,rfl,cm,m2,A2⟩
  obtain⟨dr2,ev2,hr2,en2⟩:=A2.ins
  have en2:=en2.none_iff
  walk_at "gs"
  refine⟨r,(C 6),dr2,_,_,rfl,hr2,Z.c_Run,Z.n_Run_ending,zdp,?_⟩
  walk_at "gs"
  refine⟨rfl,?_⟩
  rw[en2]
  walk_at "gs"
  cases he:s2.en with
  | some x=>
   dsimp only[Option.isNone]
   walk_at "gs"
   exact tail _ _ ⟨rfl,_,_,cm,m2,A2,λz=>by rw[he] at z;cases z⟩
  | none=>
  obtain⟨g,r2,hs2,w2⟩:=cm.top he
  dsimp only[Option.isNone]
  walk_at "gs"
  refine⟨r,dr2,_,rfl,hr2,zbn (by decide +kernel) (by decide +kernel) (by decide +kernel) (by decide +kernel) (by decide +kernel),?_⟩
  walk_at "gs"
  refine⟨r,ka,ia,sa,ks,cr,fas2,s2,kfp,g,r2,rfl,A2,hs2,w2.1 g List.mem_cons_self,A2.kn.rt g.n (w2.1 g List.mem_cons_self).m,?_⟩
  by_cases hp:g.p=((cr g.n).deeds.length:Int)
  ·rw[decide_eq_true hp]
   walk_at "gs"
   refine⟨λσ H3=>σ=[some (.ref r),some (.int j),some (.ref p)]∧∃ fas3 s3,meaR s3<meaR s2∧zc9 ks cr s' {f with p:=j} st s3∧zaF (zap r ia sa ((p,ha,aa)::fas)) H (zap r ia sa fas3) H3∧RunX (C 6) (C 5) (C 7) H3 r ka ia sa ks cr fas3 s3 kfp,λσ' H' ⟨e,fas3,s3,lt,z⟩=>⟨_,lt,e,fas3,s3,rfl,z⟩,?_⟩
   walk_at "gs"
   refine⟨r,dr2,_,rfl,hr2,zbn (by decide +kernel) (by decide +kernel) (by decide +kernel) (by decide +kernel) (by decide +kernel),?_⟩
   walk_at "gs"
   refine⟨r,ka,ia,sa,ks,cr,fas2,s2,kfp,g,r2,rfl,A2,hs2,he,w2,λH3 fas3 m3 A3=>?_⟩
   walk_at "gs"
   obtain⟨c3,l3⟩:=cm.leave he hs2 hp
   exact⟨rfl,fas3,_,l3,c3,m2.trans m3,A3⟩
  ·rw[decide_eq_false hp]
   walk_at "gs"
   exact tail _ _ ⟨rfl,_,_,cm,m2,A2,λ_=>⟨g,r2,hs2,w2,hp⟩⟩
 ·rintro σ H2 ⟨rfl,fas2,s2,cm,m2,A2,on⟩
  obtain⟨dr2,ev2,hr2,en2⟩:=A2.ins
  have en2:=en2.none_iff
  walk_at "gs"
  refine⟨r,(C 6),dr2,_,_,rfl,hr2,Z.c_Run,Z.n_Run_ending,zdp,?_⟩
  walk_at "gs"
  refine⟨rfl,?_⟩
  rw[en2]
  walk_at "gs"
  cases he:s2.en with
  | some x=>
   dsimp only[Option.isNone]
   walk_at "gs"
   refine q H2 fas2 m2 ?_
   rw[←cm.ended (by rw[he];intro z;cases z)]
   exact A2
  | none=>
  obtain⟨g,r2,hs2,w2,hp⟩:=on he
  dsimp only[Option.isNone]
  walk_at "gs"
  refine⟨r,dr2,_,rfl,hr2,zbn (by decide +kernel) (by decide +kernel) (by decide +kernel) (by decide +kernel) (by decide +kernel),?_⟩
  walk_at "gs"
  have wg:=w2.1 g List.mem_cons_self
  refine⟨r,ka,ia,sa,ks,cr,fas2,s2,kfp,g,r2,rfl,A2,hs2,he,wg,by have:=wg.pn;omega,A2.kn.rt g.n wg.m,λH3 o3 A3=>?_⟩
  walk_at "gs"
  refine q H3 fas2 (m2.trans (zaF.offR o3 A3)) ?_
  rw[←cm.stay he hs2 hp]
  exact A3
inductive sp_Run_begin (K:Fg) (C:Nat→Addr) (vs:List V) (H:Hp) (Q:VK) (E:XK):Prop
 | mk (r ka ia sa:Addr) (ks:List Int) (cr:Int→Cr) (fas:List Fa) (s:Rs) (kfp:List Addr) (g:Addr) (n a0 a1:Int):vs=[.ref r,.int n,.ref g]→RunX (C 6) (C 5) (C 7) H r ka ia sa ks cr fas s kfp→(SqL K H g [.int a0,.int a1]∨SqT K H g [.int a0,.int a1])→s.en=none→Wf ks cr (zcD n a0 a1::s.st)→s.st.length<20→(∀ H' fas',zaF (zap r ia sa fas) H (zap r ia sa fas') H'→RunX (C 6) (C 5) (C 7) H' r ka ia sa ks cr fas' (zcK cr s (zcD n a0 a1) s.st) kfp→Q .non H')→sp_Run_begin K C vs H Q E
theorem zhU {f:Addr}{fd:FuncData}(B:Bl K mg) {C:Nat→Addr}(Z:Zt K mg C) (G_Run_come_to:Mth CX0 P w K mg base (C 6) "come_to" ["self","place"] 6 (sp_Run_come_to K C)) (M_Frame:Mkr P w K mg base "Frame" (C 5) ["self","number","asked"] 1 (sp_Frame___init__ K C)) (F:Fun K "begin" "Run.begin" s_Run_begin f fd) (M:Meth K (C 6) "begin" f):Mth CX0 P w K mg base (C 6) "begin" ["self","number","given"] 7 (sp_Run_begin K C):=by
 refine⟨f,fd,M,F.ok (k:=6) zhN (λvs H Q E h=>?_) (λcdv A outer s H vs Q E hr h=>?_),F.binds λ_ _ _ _ _ _ us hl=>match us,hl with | [_,_,_],_=>rfl⟩
 ·first
  | (obtain⟨_,_,_,_,_,_,_,_,_,_,_,_,_,rfl,_⟩:=h;rfl)
 obtain⟨r,ka,ia,sa,ks,cr,fas,s',kfp,g,n,a0,a1,rfl,A',hg,hen,wfs,l20,q⟩:=h
 refine⟨_,(zag (zaS (zl0 PySem.F.plainAttrs_list PySem.F.slot_list_append PySem.F.type_list_append zdX (zaD K (pv 0) rfl) (zaC (zmo M_Frame hr rfl (zae (pv 1) (zae (pv 2) zad))) zad)))
   (zai (zaS (za1 G_Run_come_to Z.c_Run hr za2 (pv 0) (zab zaa zad))))),?_⟩
 obtain⟨dr,ev,hr',_⟩:=A'.ins
 have fl:=A'.fr.len
 walk_at "gs"
 walk_at "q"
 walk_at "gs"
 refine⟨r,(C 6),dr,_,_,rfl,hr',Z.c_Run,Z.n_Run_stack,zbs,?_⟩
 walk_at "gs"
 refine⟨tyL A'.sta,?_⟩
 walk_at "gs"
 intro y dy hy hdy ndy
 have sm:Same H (upd (upd H dy (.own y)) y (.ins (C 5) dy [])):=λb o e=>by
  rw[zak (zam e hy),zak (zam e hdy)];exact e
 refine⟨y,dy,g,n,a0,a1,rfl,zaf,zeu sm.sq hg,λha aa H1 ha0 aa0 nha o1 hp1 hh1 haa1=>⟨rfl,?_⟩⟩
 have s1:Same H H1:=λb o e=>o1 b o (λz=>by rw[zms.mp z,hy] at e;cases e) (sm b o e)
 have ny:y≠ha∧y≠aa:=⟨λz=>(by rw[←z,zaf] at ha0;cases ha0),λz=>(by rw[←z,zaf] at aa0;cases aa0)⟩
 have A2:=A'.push (f:=zcD n a0 a1) s1 hy (sm.free ha0) (sm.free aa0) ny.1 ny.2 nha A'.kn.has hp1 hh1 haa1
 have m2:zaF (zap r ia sa fas) H (zap r ia sa ((y,ha,aa)::fas)) (upd H1 sa (.lst ((fas.reverse.map λt=>V.ref t.1)++[.ref y]))):=zaF.push s1 hy (sm.free ha0) (sm.free aa0)
 walk_at "gs"
 refine znU (s1 _ _ A'.sta) (zcg (by rw[zlm,List.length_reverse];omega)) ?_
 generalize upd H1 sa (.lst ((fas.reverse.map λt=>V.ref t.1)++[.ref y]))=H2 at *
 obtain⟨dr2,ev2,hr2,_⟩:=A2.ins
 walk_at "gs"
 refine⟨r,dr2,_,rfl,hr2,zbn (by decide +kernel) (by decide +kernel) (by decide +kernel) (by decide +kernel) (by decide +kernel),?_⟩
 walk_at "gs"
 refine⟨r,ka,ia,sa,ks,cr,(y,ha,aa)::fas,_,kfp,zcD n a0 a1,s'.st,0,rfl,A2,rfl,hen,wfs,λH3 fas3 m3 A3=>?_⟩
 walk_at "gs"
 exact q H3 fas3 (m2.trans m3) A3
inductive sp_asked_numbers (K:Fg) (vs:List V) (H:Hp) (Q:VK) (E:XK):Prop
 | mk (g:Addr) (a0 a1:Int):vs=[.ref g]→(SqL K H g [.int a0,.int a1]∨SqT K H g [.int a0,.int a1])→(∀ na H',Same H H'→H' na=some (.lst ((zcC a0 a1).map V.int))→Q (.ref na) H')→sp_asked_numbers K vs H Q E
theorem zeQ {f:Addr}{fd:FuncData}(B:Bl K mg) {C:Nat→Addr}(Z:Zt K mg C)  (F:Fun K "asked_numbers" "asked_numbers" s_asked_numbers f fd) (m:mg "asked_numbers"=some (.ref f)):Fn P w K mg base "asked_numbers" ["asked"] 1 (sp_asked_numbers K):=by
 refine Fn.of (k:=0) F zeL m (λ_ _ _ _ _ _ us hl=>match us,hl with | [_],_=>rfl) (λvs H Q E h=>?_) (λcdv A outer s H vs Q E hr h=>?_)
 ·first
  | (obtain⟨_,_,_,rfl,_⟩:=h;rfl)
 obtain⟨g,a0,a1,rfl,hg,q⟩:=h
 refine⟨_,(zai (zar (za6 (zab zaa (zab zaa (zab zaa (zab zaa (zaE (zaB (k_ix K) (pv 0) zaa (λ_ _=>rfl)) (zaE (zaB (k_ix K) (pv 0) zaa (λ_ _=>rfl)) (zab zaa (zab zaa zad))))))))))),?_⟩
 walk_at "gs"
 refine zix hg ?_
 walk_at "gs"
 refine ziy hg ?_
 walk_at "gs"
 exact⟨(by walk_at "sm"),λp hp=>q _ _ (zah hp _) zaf⟩
inductive sp_Run___init__ (K:Fg) (C:Nat→Addr) (vs:List V) (H:Hp) (Q:VK) (E:XK):Prop
 | mk (p dx ha la va g ia0:Addr) (n a0 a1:Int) (ks:List Int) (cr:Int→Cr) (ws:List Int) (fp:List Addr) (ins:List Int):vs=[.ref p,.ref ha,.int n,.ref g,.ref ia0]→H p=some (.ins (C 6) dx [])→HallAt (C 8) (C 7) H ha la va ks cr ws fp→(SqL K H g [.int a0,.int a1]∨SqT K H g [.int a0,.int a1])→SqL K H ia0 (ins.map V.int)→n.natAbs<zbN→(n∉ks→∀ H',OffA [p] H H'→E (.ref (C 2)) none H')→(n∈ks→zaH (cr n).needs (zcC a0 a1)≠none→∀ H',OffA [p] H H'→E (.ref (C 4)) none H')→(n∈ks→zaH (cr n).needs (zcC a0 a1)=none→∀ H' ka ia sa fas kfp ns,zaF [p] H (zap p ia sa fas) H'→RunX (C 6) (C 5) (C 7) H' p ka ia sa ns cr fas (zcK cr ⟨[],ins,0,none⟩ (zcD n a0 a1) []) kfp→ns.Perm ks→(∀ b∈ka::kfp,H b=none)→Q .non H')→sp_Run___init__ K C vs H Q E
theorem zjo {S:List Addr}{H:Hp}{b:Addr}{o:HO}(h:H b=none):OffA S H (upd H b o):=(zah h o).offA
theorem zpQ {f:Addr}{fd:FuncData}(B:Bl K mg) {C:Nat→Addr}(Z:Zt K mg C) (G_Hall_crafts:Mth CX0 P w K mg base (C 8) "crafts" ["self"] 5 (sp_Hall_crafts K C)) (G_Run_begin:Mth CX0 P w K mg base (C 6) "begin" ["self","number","given"] 7 (sp_Run_begin K C)) (G_first_unmet:Fn P w K mg base "first_unmet" ["lines","numbers"] 3 (sp_first_unmet K)) (G_asked_numbers:Fn P w K mg base "asked_numbers" ["asked"] 1 (sp_asked_numbers K)) (F:Fun K "__init__" "Run.__init__" s_Run___init__ f fd) (M:Mk K (C 6) f):Mkx P w K mg base "Run" (C 6) ["self","hall","number","given","inputs"] 8 (sp_Run___init__ K C):=by
 refine⟨f,fd,M,F.okx (k:=7) zfA (λvs H Q E h=>?_) (λcdv A outer s H vs Q E hr h=>?_),F.binds λ_ _ _ _ _ _ us hl=>match us,hl with | [_,_,_,_,_],_=>rfl,Z.m_Run⟩
 ·first
  | (obtain⟨_,_,_,_,_,_,_,_,_,_,_,_,_,_,_,rfl,_⟩:=h;rfl)
 obtain⟨p,dx,ha,la,va,g,ia0,n,a0,a1,ks,cr,ws,fp,ins,rfl,hp,hA,hg,hin,hn,q1,q2,q3⟩:=h
 refine⟨_,(zag (zbq (pv 0) (zbk G_Hall_crafts Z.c_Hall hr za2 (pv 1)) rfl)
   (zag (zbq (pv 0) (zbU (zhq K) rfl B.list L2.zbV (zae (pv 4) zad)) rfl)
   (zag (zbq (pv 0) (za6 zad) rfl)
   (zag (zbq (pv 0) zaa rfl)
   (zag (zbq (pv 0) zdC rfl)
   (zag (zaW (zg5 (zfb (hr_u hr) (pv 2) (zaD K (pv 0) rfl))) (zai (zeV Z.e_NoCraft rfl Z.m_NoCraft rfl zgJ (zbe (zla (pv 2) (by decide +kernel)) zad))) zav)
   (zag (zaW (zas zkq (zat G_first_unmet hr rfl (zbl (zaD K (zel (hr_u hr) (zaD K (pv 0) rfl) (pv 2) (λ_ _=>rfl)) rfl) (zaC (zat G_asked_numbers hr rfl (zae (pv 3) zad)) zad))) zdC (zau _)) (zai (zeV Z.e_Unfit rfl Z.m_Unfit rfl zgJ (zbe (zla (pv 2) (by decide +kernel)) zad))) zav)
   (zai (zaS (za1 G_Run_begin Z.c_Run hr za2 (pv 0) (zae (pv 2) (zae (pv 3) zad)))))))))))),?_⟩
 obtain⟨dh,hh⟩:=hA.ins
 walk_at "gs"
 walk_at "q"
 walk_at "gs"
 refine⟨ha,dh,_,rfl,hh,zeJ (by decide +kernel) (by decide +kernel),?_⟩
 walk_at "gs"
 refine⟨ha,la,va,ks,cr,ws,fp,rfl,hA,λca H1 kvs ns F s1 ca0 hca pm so hk f0 fn fd=>?_⟩
 walk_at "gs"
 have p1:=s1 _ _ hp
 refine⟨p,(C 6),dx,[],rfl,p1,Z.c_Run,Z.n_Run_known,by show 0<1000;decide,?_⟩
 have sq:∀ {H H':Hp}{fs:List (Str × V)},H p=some (.ins (C 6) dx fs)→OffA [p] H H'→Sq H H':=λ{H H' fs} e o b u eu su=>o b u (λz=>by rw[zms.mp z,e] at eu;cases eu;cases su) eu
 have o1:OffA [p] H1 (upd H1 p (.ins (C 6) dx (putF "known" (.ref ca) []))):=zbv (by simp)
 have p2:(upd H1 p (.ins (C 6) dx (putF "known" (.ref ca) []))) p=some (.ins (C 6) dx (putF "known" (.ref ca) [])):=zaf
 generalize upd H1 p (.ins (C 6) dx (putF "known" (.ref ca) []))=H2 at *
 walk_at "gs"
 walk_at "q"
 walk_at "gs"
 refine zdZ (.inl ((sq p1 o1).lst (s1.seq hin))) λia ia0'=>?_
 have nia:ia≠p:=(zam p2 ia0').symm
 walk_at "gs"
 refine⟨p,(C 6),dx,_,rfl,by rw[zak nia.symm];exact p2,Z.c_Run,Z.n_Run_inputs_left,Nat.lt_of_lt_of_le (za0 (n:=1) (by decide)) (by decide),?_⟩
 have o3:OffA [p] H1 (upd (upd H2 ia (.lst (ins.map V.int))) p (.ins (C 6) dx (putF "inputs_left" (.ref ia) (putF "known" (.ref ca) [])))):=o1.trans ((zjo ia0').trans (zbv (by simp)))
 have p3:(upd (upd H2 ia (.lst (ins.map V.int))) p (.ins (C 6) dx (putF "inputs_left" (.ref ia) (putF "known" (.ref ca) [])))) p=some (.ins (C 6) dx (putF "inputs_left" (.ref ia) (putF "known" (.ref ca) []))):=zaf
 have i3:(upd (upd H2 ia (.lst (ins.map V.int))) p (.ins (C 6) dx (putF "inputs_left" (.ref ia) (putF "known" (.ref ca) [])))) ia=some (.lst (ins.map V.int)):=by rw[zak nia,zaf]
 generalize upd (upd H2 ia (.lst (ins.map V.int))) p (.ins (C 6) dx (putF "inputs_left" (.ref ia) (putF "known" (.ref ca) [])))=H3 at *
 walk_at "gs"
 walk_at "q"
 walk_at "gs"
 refine⟨(by walk_at "sm"),λsa sa0=>?_⟩
 have nsa:sa≠p:=(zam p3 sa0).symm
 have nis:ia≠sa:=zam i3 sa0
 walk_at "gs"
 refine⟨p,(C 6),dx,_,rfl,by rw[zak nsa.symm];exact p3,Z.c_Run,Z.n_Run_stack,Nat.lt_of_lt_of_le (za0 (n:=2) (za0 (n:=1) (by decide))) (by decide),?_⟩
 walk_at "gs"
 walk_at "q"
 walk_at "gs"
 refine⟨p,(C 6),dx,_,rfl,zaf,Z.c_Run,Z.n_Run_steps_done,Nat.lt_of_lt_of_le (za0 (n:=3) (za0 (n:=2) (za0 (n:=1) (by decide)))) (by decide),?_⟩
 walk_at "gs"
 walk_at "q"
 walk_at "gs"
 refine⟨p,(C 6),dx,_,rfl,zaf,Z.c_Run,Z.n_Run_ending,Nat.lt_of_lt_of_le (za0 (n:=4) (za0 (n:=3) (za0 (n:=2) (za0 (n:=1) (by decide))))) (by decide),?_⟩
 rw[zoa]
 generalize hH6:upd (upd (upd (upd H3 sa (.lst [])) p (.ins (C 6) dx (putF "stack" (.ref sa) (putF "inputs_left" (.ref ia) (putF "known" (.ref ca) []))))) p (.ins (C 6) dx (putF "steps_done" (.int 0) (putF "stack" (.ref sa) (putF "inputs_left" (.ref ia) (putF "known" (.ref ca) [])))))) p (.ins (C 6) dx (rfls ca ia sa 0 .non))=H6
 have o6:OffA [p] H1 H6:=by
  rw[←hH6]
  exact o3.trans ((zjo sa0).trans ((zbv (by simp)).trans ((zbv (by simp)).trans (zbv (by simp)))))
 have p6:H6 p=some (.ins (C 6) dx (rfls ca ia sa 0 .non)):=by rw[←hH6,zaf]
 have i6:H6 ia=some (.lst (ins.map V.int)):=by rw[←hH6,zak nia,zak nia,zak nia,zak nis];exact i3
 have s6:H6 sa=some (.lst []):=by rw[←hH6,zak nsa,zak nsa,zak nsa,zaf]
 clear hH6
 have ia1:H1 ia=none:=by
  cases e:H1 ia with
  | none=>rfl
  | some o=>rw[o1 ia o (by simp[nia]) e] at ia0';cases ia0'
 have sa1:H1 sa=none:=by
  cases e:H1 sa with
  | none=>rfl
  | some o=>rw[o3 sa o (by simp[nsa]) e] at sa0;cases sa0
 have nF:∀ m∈ns,∀ b∈F m,b≠p∧∃ o,H1 b=some o:=λm hm b hb=>by
  obtain⟨v,_,p',_,hC⟩:=hk.2.2 m hm
  exact⟨λz=>(by have:=f0 m hm b hb;rw[z,hp] at this;cases this),hC.has b hb⟩
 have tk:Tups H1 H6:=λb xs e=>o6 b _ (λz=>by rw[zms.mp z,p1] at e;cases e) e
 have kn:KnownAt (C 7) H6 ca ns cr (ns.flatMap F):=⟨⟨kvs,o6 _ _ (by simp[zam hp ca0 |>.symm]) hca,hk.1,hk.2.1,λm hm=>by
  obtain⟨v,e,p',rfl,hC⟩:=hk.2.2 m hm
  exact⟨_,e,p',F m,rfl,hC.frame tk λb hb o ho=>o6 b o (by simp[(nF m hm b hb).1]) ho,λb hb=>List.mem_flatMap.mpr ⟨m,hm,hb⟩⟩⟩,λm hm=>hA.rt m (pm.mem_iff.mp hm),λb hb=>by
   obtain⟨m,hm,hb⟩:=List.mem_flatMap.mp hb
   obtain⟨nb,o,ho⟩:=nF m hm b hb
   exact⟨o,o6 b o (by simp[nb]) ho⟩⟩
 have A6:RunX (C 6) (C 5) (C 7) H6 p ca ia sa ns cr [] ⟨[],ins,0,none⟩ (ns.flatMap F):=by
  refine⟨⟨dx,.non,p6,rfl⟩,kn,i6,s6,trivial,?_,λb hb=>?_⟩
  ·simp only[zap,fasL,List.flatMap_nil,List.nodup_cons,List.mem_cons,List.not_mem_nil,or_false,not_or,not_false_eq_true,List.nodup_nil,and_true]
   exact⟨⟨nia.symm,nsa.symm⟩,nis⟩
  ·intro z
   obtain⟨m,hm,z⟩:=List.mem_flatMap.mp z
   obtain⟨nb,o,ho⟩:=nF m hm b z
   simp only[zap,fasL,List.flatMap_nil,List.mem_cons,List.not_mem_nil,or_false] at hb
   rcases hb with rfl | rfl | rfl
   ·exact nb rfl
   ·rw[ia1] at ho;cases ho
   ·rw[sa1] at ho;cases ho
 have o06:OffA [p] H H6:=s1.offA.trans o6
 have m06:zaF [p] H (zap p ia sa []) H6:=⟨o06,λb hb=>by
  simp only[zap,fasL,List.flatMap_nil,List.mem_cons,List.not_mem_nil,or_false] at hb
  rcases hb with rfl | rfl | rfl
  ·exact .inl (by simp)
  ·exact .inr (s1.free ia1)
  ·exact .inr (s1.free sa1),ze1 o06 λb hb=>by rw[zms.mp hb];exact⟨_,p6⟩⟩
 walk_at "gs"
 walk_at "q"
 walk_at "gs"
 refine⟨p,(C 6),dx,_,_,rfl,p6,Z.c_Run,Z.n_Run_known,zd8,?_⟩
 by_cases hm:n∈ks
 ·have hm':n∈ns:=pm.mem_iff.mpr hm
  obtain⟨kvs',o,g1,e1,e2,e3⟩:=kn.craft hm'
  refine⟨ca,some (.ref o),rfl,by rw[←e2];exact DGet.k (k:=.inl n) e1,?_⟩
  dsimp only[Option.isSome]
  walk_at "gs"
  have rtm:=kn.rt n hm'
  obtain⟨dc,y1,y2,b3,b4,dvs,nvs,ho,hL,_⟩:=e3.out (K:=K) rtm.nine.d9
  have hg6:=zeu ((s1.sq).trans (sq p1 o6)) hg
  walk_at "gs"
  walk_at "q"
  walk_at "gs"
  refine⟨p,(C 6),dx,_,_,rfl,p6,Z.c_Run,Z.n_Run_known,zd8,?_⟩
  walk_at "gs"
  refine⟨ca,.ref o,rfl,by rw[←e2];exact DGet.k (k:=.inl n) e1,?_⟩
  walk_at "gs"
  refine⟨o,(C 7),dc,_,_,rfl,ho,Z.c_Craft,Z.n_Craft_needs,zcz _ _ _ _,?_⟩
  walk_at "gs"
  refine⟨g,a0,a1,rfl,hg6,λna H7 s7 hna=>?_⟩
  walk_at "gs"
  refine zlE (hL.same s7) (SqL.of hna) rfl rtm.sm.1 λH8 s8=>?_
  have s68:=s7.trans s8
  walk_at "gs"
  cases hb:zaH (cr n).needs (zcC a0 a1) with
  | some i=>
   refine⟨rfl,?_⟩
   show ∃ k,V.bl (!decide (V.int (i:Int)=V.non))=.bl k∧_
   rw[show decide (V.int (i:Int)=V.non)=false from decide_eq_false (by intro z;cases z)]
   walk_at "gs"
   refine⟨hn,λz=>?_⟩
   walk_at "gs"
   exact⟨(by walk_at "sm"),q2 hm (by rw[hb];intro z;cases z) _ (o06.trans s68.offA)⟩
  | none=>
   refine⟨rfl,?_⟩
   show ∃ k,V.bl (!decide (V.non=V.non))=.bl k∧_
   rw[zih]
   walk_at "gs"
   refine⟨p,dx,_,rfl,s68 _ _ p6,zbn (by decide +kernel) (by decide +kernel) (by decide +kernel) (by decide +kernel) (by decide +kernel),?_⟩
   walk_at "gs"
   refine⟨p,ca,ia,sa,ns,cr,[],_,_,g,n,a0,a1,rfl,A6.same s68,zeu s68.sq hg6,rfl,⟨λk hk=>?_,λk hk=>by cases hk⟩,by show 0<20;decide,λH9 fas9 m9 A9=>?_⟩
   ·rw[zms.mp hk]
    exact⟨hm',by show (0:Int)≤0;omega,by show (0:Int)≤_;omega,rfl,rfl⟩
   ·walk_at "gs"
    refine q3 hm hb H9 ca ia sa fas9 _ ns (m06.trans ((zaF.same s68).trans m9)) A9 pm λb hb=>?_
    rcases List.mem_cons.mp hb with rfl | hb
    ·exact ca0
    ·obtain⟨m,hm,hb⟩:=List.mem_flatMap.mp hb
     exact f0 m hm b hb
 ·obtain⟨kvs',e1,e2⟩:=kn.no (λz=>hm (pm.mem_iff.mp z))
  refine⟨ca,none,rfl,by rw[←e2];exact DGet.k (k:=.inl n) e1,?_⟩
  dsimp only[Option.isSome]
  walk_at "gs"
  refine⟨hn,λz=>?_⟩
  walk_at "gs"
  exact⟨(by walk_at "sm"),q1 hm _ o06⟩
inductive sp_Run_put (K:Fg) (C:Nat→Addr) (vs:List V) (H:Hp) (Q:VK) (E:XK):Prop
 | mk (r ka ia sa:Addr) (ks:List Int) (cr:Int→Cr) (fas:List Fa) (s:Rs) (kfp:List Addr) (f:Fm) (st:List Fm) (hd x:Int):vs=[.ref r,.int hd,.int x]→RunX (C 6) (C 5) (C 7) H r ka ia sa ks cr fas s kfp→s.st=f::st→s.en=none→(0≤hd∧hd≤3)→Wf ks cr (f::st)→f.p<((cr f.n).deeds.length:Int)→(∀ H' fas',zaF (zap r ia sa fas) H (zap r ia sa fas') H'→RunX (C 6) (C 5) (C 7) H' r ka ia sa ks cr fas' (putR cr s f st hd x) kfp→Q .non H')→sp_Run_put K C vs H Q E
theorem zka {f:Addr}{fd:FuncData}(B:Bl K mg) {C:Nat→Addr}(Z:Zt K mg C) (G_Run_come_to:Mth CX0 P w K mg base (C 6) "come_to" ["self","place"] 6 (sp_Run_come_to K C)) (F:Fun K "put" "Run.put" s_Run_put f fd) (M:Meth K (C 6) "put" f):Mth CX0 P w K mg base (C 6) "put" ["self","hand","number"] 7 (sp_Run_put K C):=by
 refine⟨f,fd,M,F.ok (k:=6) zgu (λvs H Q E h=>?_) (λcdv A outer s H vs Q E hr h=>?_),F.binds λ_ _ _ _ _ _ us hl=>match us,hl with | [_,_,_],_=>rfl⟩
 ·first
  | (obtain⟨_,_,_,_,_,_,_,_,_,_,_,_,_,rfl,_⟩:=h;rfl)
 obtain⟨r,ka,ia,sa,ks,cr,fas,s',kfp,f,st,hd,x,rfl,A',hst,hen,hh,wfs,hp,q⟩:=h
 refine⟨_,(zag (zaA (i:=3) zgu.nd rfl (Or.inl rfl) (zaB (k_ix K) (zaD K (pv 0) rfl) (zdB zb2 zaa) (λ_ _=>rfl)))
   (zag (zey (pv 2) (zga (zaD K (pv 3) rfl) (pv 1) zdv))
   (zai (zaS (za1 G_Run_come_to Z.c_Run hr za2 (pv 0) (zaI (zao (zaM K) (zaD K (pv 3) rfl) zaa) zad)))))),?_⟩
 have wf:=wfs.1 f List.mem_cons_self
 have e4:=wf.h4
 obtain⟨dr,ev,hr',_⟩:=A'.ins
 have fr:=A'.fr
 rw[hst] at fr
 cases fas with
 | nil=>exact fr.elim
 | cons t fas=>
 obtain⟨p,ha,aa⟩:=t
 obtain⟨⟨dp,f1⟩,f2,f3,f4⟩:=fr
 walk_at "gs"
 walk_at "q"
 walk_at "gs"
 refine⟨r,(C 6),dr,_,_,rfl,hr',Z.c_Run,Z.n_Run_stack,zbs,?_⟩
 walk_at "gs"
 refine zbc (SqL.of A'.sta) (v:=.ref p) zd9 ?_
 walk_at "gs"
 walk_at "q"
 walk_at "gs"
 refine⟨p,(C 5),dp,_,_,rfl,f1,Z.c_Frame,Z.n_Frame_hands,zbP _ _ _ _,?_⟩
 walk_at "gs"
 refine zfi f2 (j:=hd.toNat) (zjc hh.1 (by rw[zlm];omega)) ?_
 rw[zgR]
 have A1:=A'.setH (xs:=f.hands.set hd.toNat x) hst
 obtain⟨⟨dp1,g1'⟩,_⟩:=A1.fr
 obtain⟨dr1,ev1,hr1,_⟩:=A1.ins
 have m1:zaF (zap r ia sa ((p,ha,aa)::fas)) H (zap r ia sa ((p,ha,aa)::fas)) (upd H ha (.lst ((f.hands.set hd.toNat x).map V.int))):=zaF.upd zog
 generalize upd H ha (.lst ((f.hands.set hd.toNat x).map V.int))=H1 at *
 walk_at "gs"
 refine⟨r,dr1,_,rfl,hr1,zbn (by decide +kernel) (by decide +kernel) (by decide +kernel) (by decide +kernel) (by decide +kernel),?_⟩
 walk_at "gs"
 refine⟨p,(C 5),dp1,_,_,rfl,g1',Z.c_Frame,Z.n_Frame_place,zbT _ _ _ _,?_⟩
 walk_at "gs"
 refine⟨r,ka,ia,sa,ks,cr,(p,ha,aa)::fas,_,kfp,{f with hands:=f.hands.set hd.toNat x},st,f.p+1,rfl,A1,rfl,hen,wfs.top ⟨wf.m,by have:=wf.p0;show 0≤f.p+1;omega,by show f.p+1≤((cr f.n).deeds.length:Int);omega,by show (f.hands.set hd.toNat x).length=4;rw[List.length_set];exact e4,wf.a2⟩,λH2 fas2 m2 A2=>?_⟩
 walk_at "gs"
 exact q H2 fas2 (m1.trans m2) A2
inductive sp_Run_draw (K:Fg) (C:Nat→Addr) (vs:List V) (H:Hp) (Q:VK) (E:XK):Prop
 | mk (r ka ia sa:Addr) (ks:List Int) (cr:Int→Cr) (fas:List Fa) (s:Rs) (kfp:List Addr) (f:Fm) (st:List Fm) (hd lo hi:Int):vs=[.ref r,.int hd,.int lo,.int hi]→RunX (C 6) (C 5) (C 7) H r ka ia sa ks cr fas s kfp→s.st=f::st→s.en=none→(0≤hd∧hd≤3)→Wf ks cr (f::st)→f.p<((cr f.n).deeds.length:Int)→(∀ H' fas',zaF (zap r ia sa fas) H (zap r ia sa fas') H'→RunX (C 6) (C 5) (C 7) H' r ka ia sa ks cr fas' (zc4 cr ks s f st (.draw hd lo hi)) kfp→Q .non H')→sp_Run_draw K C vs H Q E
theorem ziF {f:Addr}{fd:FuncData}(B:Bl K mg) {C:Nat→Addr}(Z:Zt K mg C) (G_Run_put:Mth CX0 P w K mg base (C 6) "put" ["self","hand","number"] 7 (sp_Run_put K C)) (F:Fun K "draw" "Run.draw" s_Run_draw f fd) (M:Meth K (C 6) "draw" f):Mth CX0 P w K mg base (C 6) "draw" ["self","hand","low","high"] 8 (sp_Run_draw K C):=by
 refine⟨f,fd,M,F.ok (k:=7) zfB (λvs H Q E h=>?_) (λcdv A outer s H vs Q E hr h=>?_),F.binds λ_ _ _ _ _ _ us hl=>match us,hl with | [_,_,_,_],_=>rfl⟩
 ·first
  | (obtain⟨_,_,_,_,_,_,_,_,_,_,_,_,_,_,rfl,_⟩:=h;rfl)
 obtain⟨r,ka,ia,sa,ks,cr,fas,s',kfp,f,st,hd,lo,hi,rfl,A',hst,hen,hh,wfs,hp,q⟩:=h
 refine⟨_,(zag (zaW (zg6 (zpJ K (zaD K (pv 0) rfl))) (zag (zbq (pv 0) (zaL (zab zaJ zad)) rfl)
   (zai zkj)) zav)
   (zag (zaA (i:=4) zfB.nd rfl (Or.inl rfl) (zl0 PySem.F.plainAttrs_list PySem.F.slot_list_pop PySem.F.type_list_pop zl2 (zaD K (pv 0) rfl) (zab zaa zad)))
   (zai (zaW (zlS zjv zjv (pv 2) (pv 4) (pv 3)) (zai (zaS (za1 G_Run_put Z.c_Run hr za2 (pv 0) (zae (pv 1) (zae (pv 4) zad))))) (zai (zbq (pv 0) (zaL (zab zaJ zad)) rfl)))))),?_⟩
 obtain⟨dr,ev,hr',_⟩:=A'.ins
 have inp:=A'.inp
 unfold zc4 at q
 walk_at "gs"
 walk_at "q"
 walk_at "gs"
 refine⟨r,(C 6),dr,_,_,rfl,hr',Z.c_Run,Z.n_Run_inputs_left,zhH,?_⟩
 refine znf (SqL.of inp) ?_
 cases hin:s'.ins with
 | nil=>
  rw[hin] at q inp
  dsimp only at q
  rw[show (!(([]:List Int).map V.int).isEmpty)=false from rfl]
  walk_at "gs"
  walk_at "q"
  walk_at "gs"
  refine⟨(by walk_at "sm"),λT hT=>?_⟩
  have t4:=zah hT (.tup [V.str "dry"])
  walk_at "gs"
  refine⟨r,(C 6),dr,_,rfl,t4 _ _ hr',Z.c_Run,Z.n_Run_ending,by show 5<1000;decide,?_⟩
  rw[zcm]
  walk_at "gs"
  have z:=(A'.same t4).setR (k':=s'.k) (en':=some [V.str "dry"]) (t4 _ _ hr') ⟨T,rfl,zaf⟩
  rw[hin] at z
  exact q _ fas ((zaF.same t4).trans (zaF.upd zgs)) z
 | cons x rs=>
 rw[hin] at q inp
 dsimp only at q
 rw[zmc] at inp
 rw[show (!((x::rs).map V.int).isEmpty)=true from rfl]
 walk_at "gs"
 walk_at "q"
 walk_at "gs"
 refine⟨r,(C 6),dr,_,_,rfl,hr',Z.c_Run,Z.n_Run_inputs_left,zhH,?_⟩
 walk_at "gs"
 refine⟨tyL inp,?_⟩
 walk_at "gs"
 refine zpK inp ?_
 have A1:=A'.setIn (xs:=rs)
 have m1:zaF (zap r ia sa fas) H (zap r ia sa fas) (upd H ia (.lst (rs.map V.int))):=zaF.upd zpO
 generalize upd H ia (.lst (rs.map V.int))=H1 at *
 obtain⟨dr1,ev1,hr1,_⟩:=A1.ins
 have bad:¬ (lo≤x∧x≤hi)→∀ T,H1 T=none→Q .non (upd (upd H1 T (.tup [V.str "stray"])) r (.ins (C 6) dr1 (rfls ka ia sa s'.k (.ref T)))):=λnb T hT=>by
  rw[if_neg nb] at q
  have t4:=zah hT (.tup [V.str "stray"])
  exact q _ fas (m1.trans ((zaF.same t4).trans (zaF.upd zgs))) ((A1.same t4).setR (k':=s'.k) (en':=some [V.str "stray"]) (t4 _ _ hr1) ⟨T,rfl,zaf⟩)
 walk_at "gs"
 by_cases h1:lo≤x
 ·rw[decide_eq_true h1]
  walk_at "gs"
  by_cases h2:x≤hi
  ·rw[decide_eq_true h2]
   rw[if_pos ⟨h1,h2⟩] at q
   walk_at "gs"
   refine⟨r,dr1,_,rfl,hr1,zbn (by decide +kernel) (by decide +kernel) (by decide +kernel) (by decide +kernel) (by decide +kernel),?_⟩
   walk_at "gs"
   refine⟨r,ka,ia,sa,ks,cr,fas,_,kfp,f,st,hd,x,rfl,A1,hst,hen,hh,wfs,hp,λH2 fas2 m2 A2=>?_⟩
   walk_at "gs"
   exact q H2 fas2 (m1.trans m2) A2
  ·rw[decide_eq_false h2]
   walk_at "gs"
   refine⟨(by walk_at "sm"),λT hT=>?_⟩
   walk_at "gs"
   refine⟨r,(C 6),dr1,_,rfl,zah hT _ _ _ hr1,Z.c_Run,Z.n_Run_ending,by show 5<1000;decide,?_⟩
   rw[zcm]
   exact bad (λz=>h2 z.2) T hT
 ·rw[decide_eq_false h1]
  walk_at "gs"
  refine⟨(by walk_at "sm"),λT hT=>?_⟩
  walk_at "gs"
  refine⟨r,(C 6),dr1,_,rfl,zah hT _ _ _ hr1,Z.c_Run,Z.n_Run_ending,by show 5<1000;decide,?_⟩
  rw[zcm]
  exact bad (λz=>h1 z.1) T hT
inductive sp_Run_hold (K:Fg) (C:Nat→Addr) (vs:List V) (H:Hp) (Q:VK) (E:XK):Prop
 | mk (r ka ia sa:Addr) (ks:List Int) (cr:Int→Cr) (fas:List Fa) (s:Rs) (kfp:List Addr) (f:Fm) (st:List Fm) (la:Addr) (l:List Int):vs=[.ref r,.ref la]→RunX (C 6) (C 5) (C 7) H r ka ia sa ks cr fas s kfp→s.st=f::st→s.en=none→H la=some (.lst (l.map V.int))→l.length=9→Sm l→Wf ks cr (f::st)→f.p<((cr f.n).deeds.length:Int)→(∀ H' fas',zaF (zap r ia sa fas) H (zap r ia sa fas') H'→RunX (C 6) (C 5) (C 7) H' r ka ia sa ks cr fas' (match zaH [l] (zcc f) with
  | some i=>{s with en:=some (brk "hold" f i)}
  | none=>zcK cr s {f with p:=f.p+1} st) kfp→Q .non H')→sp_Run_hold K C vs H Q E
theorem ziG {f:Addr}{fd:FuncData}(B:Bl K mg) {C:Nat→Addr}(Z:Zt K mg C) (G_Run_meets:Mth CX0 P w K mg base (C 6) "meets" ["self","word","lines","numbers"] 4 (sp_Run_meets K C)) (G_Frame_numbers:Mth CX0 P w K mg base (C 5) "numbers" ["self"] 1 (sp_Frame_numbers K C)) (G_Run_come_to:Mth CX0 P w K mg base (C 6) "come_to" ["self","place"] 6 (sp_Run_come_to K C)) (F:Fun K "hold" "Run.hold" s_Run_hold f fd) (M:Meth K (C 6) "hold" f):Mth CX0 P w K mg base (C 6) "hold" ["self","line"] 7 (sp_Run_hold K C):=by
 refine⟨f,fd,M,F.ok (k:=6) zfC (λvs H Q E h=>?_) (λcdv A outer s H vs Q E hr h=>?_),F.binds λ_ _ _ _ _ _ us hl=>match us,hl with | [_,_],_=>rfl⟩
 ·first
  | (obtain⟨_,_,_,_,_,_,_,_,_,_,_,_,_,rfl,_⟩:=h;rfl)
 obtain⟨r,ka,ia,sa,ks,cr,fas,s',kfp,f,st,la,l,rfl,A',hst,hen,hla,l9,lsm,wfs,hp,q⟩:=h
 refine⟨_,(zag (zaA (i:=2) zfC.nd rfl (Or.inl rfl) (zaB (k_ix K) (zaD K (pv 0) rfl) (zdB zb2 zaa) (λ_ _=>rfl)))
   (zai (zaW (zdD (za1 G_Run_meets Z.c_Run hr za2 (pv 0) (zab zaJ (zci (za6 (zae (pv 1) zad)) (zaC (zbk G_Frame_numbers Z.c_Frame hr za2 (pv 2)) zad))))) (zai (zaS (za1 G_Run_come_to Z.c_Run hr za2 (pv 0) (zaI (zao (zaM K) (zaD K (pv 2) rfl) zaa) zad)))) zav))),?_⟩
 have wf:=wfs.1 f List.mem_cons_self
 obtain⟨dr,ev,hr',_⟩:=A'.ins
 have fr:=A'.fr
 rw[hst] at fr
 cases fas with
 | nil=>exact fr.elim
 | cons t fas=>
 obtain⟨p,ha,aa⟩:=t
 obtain⟨⟨dp,f1⟩,f2,f3,f4⟩:=fr
 walk_at "gs"
 walk_at "q"
 walk_at "gs"
 refine⟨r,(C 6),dr,_,_,rfl,hr',Z.c_Run,Z.n_Run_stack,zbs,?_⟩
 walk_at "gs"
 refine zbc (SqL.of A'.sta) (v:=.ref p) zd9 ?_
 walk_at "gs"
 refine⟨r,dr,_,rfl,hr',zbn (by decide +kernel) (by decide +kernel) (by decide +kernel) (by decide +kernel) (by decide +kernel),?_⟩
 walk_at "gs"
 refine⟨(by walk_at "sm"),λb hb=>?_⟩
 have t1:=zah hb (.lst [V.ref la])
 have hb1:(upd H b (.lst [V.ref la])) b=some (.lst [V.ref la]):=zaf
 generalize upd H b (.lst [V.ref la])=H1 at *
 walk_at "gs"
 refine⟨p,dp,_,rfl,t1 _ _ f1,zj4 (by decide +kernel) (by decide +kernel) (by decide +kernel) (by decide +kernel),?_⟩
 walk_at "gs"
 refine⟨p,dp,ha,aa,f,rfl,t1 _ _ f1,t1 _ _ f2,t1 _ _ f3,wf.h4,wf.a2,λna H2 s2 hna=>?_⟩
 have s02:=t1.trans s2
 walk_at "gs"
 refine⟨r,ka,ia,sa,ks,cr,(p,ha,aa)::fas,s',kfp,"hold",b,na,[l],zcc f,f,st,rfl,A'.same s02,hst,hen,⟨_,s2 _ _ hb1,?_⟩,SqL.of hna,zcW wf,λz hz=>by rw[zms.mp hz];exact⟨l9,lsm⟩,λH3 o3 A3=>?_⟩
 ·show Reps K H2 [nums l] [.ref la]
  unfold Reps
  exact⟨_,_,rfl,zb4.mpr ⟨la,rfl,SqL.of (s02 _ _ hla)⟩,by unfold Reps;rfl⟩
 have m3:zaF (zap r ia sa ((p,ha,aa)::fas)) H (zap r ia sa ((p,ha,aa)::fas)) H3:=(zaF.same s02).trans (zaF.offR o3 A3)
 cases hb:zaH [l] (zcc f) with
 | some i=>
  rw[hb] at q A3
  dsimp only[Option.isNone]
  walk_at "gs"
  exact q H3 _ m3 A3
 | none=>
 rw[hb] at q A3
 have A3:RunX (C 6) (C 5) (C 7) H3 r ka ia sa ks cr ((p,ha,aa)::fas) s' kfp:=by
  rw[←Rs.quiet hen];exact A3
 dsimp only[Option.isNone]
 walk_at "gs"
 obtain⟨dr3,ev3,hr3,_⟩:=A3.ins
 have fr3:=A3.fr
 rw[hst] at fr3
 obtain⟨⟨dp3,k1⟩,_⟩:=fr3
 refine⟨r,dr3,_,rfl,hr3,zbn (by decide +kernel) (by decide +kernel) (by decide +kernel) (by decide +kernel) (by decide +kernel),?_⟩
 walk_at "gs"
 refine⟨p,(C 5),dp3,_,_,rfl,k1,Z.c_Frame,Z.n_Frame_place,zbT _ _ _ _,?_⟩
 walk_at "gs"
 refine⟨r,ka,ia,sa,ks,cr,(p,ha,aa)::fas,s',kfp,f,st,f.p+1,rfl,A3,hst,hen,wfs.top ⟨wf.m,by have:=wf.p0;show 0≤f.p+1;omega,by show f.p+1≤((cr f.n).deeds.length:Int);omega,wf.h4,wf.a2⟩,λH4 fas4 m4 A4=>?_⟩
 walk_at "gs"
 exact q H4 fas4 (m3.trans m4) A4
inductive sp_Run_call (K:Fg) (C:Nat→Addr) (vs:List V) (H:Hp) (Q:VK) (E:XK):Prop
 | mk (r ka ia sa:Addr) (ks:List Int) (cr:Int→Cr) (fas:List Fa) (s:Rs) (kfp:List Addr) (f:Fm) (st:List Fm) (g:Addr) (m a0 a1:Int):vs=[.ref r,.int m,.ref g]→RunX (C 6) (C 5) (C 7) H r ka ia sa ks cr fas s kfp→s.st=f::st→s.en=none→(SqL K H g [.int a0,.int a1]∨SqT K H g [.int a0,.int a1])→Wf ks cr (f::st)→zgq cr f→st.length<100→(∀ H' fas',zaF (zap r ia sa fas) H (zap r ia sa fas') H'→RunX (C 6) (C 5) (C 7) H' r ka ia sa ks cr fas' (zoi cr ks s f st m a0 a1) kfp→Q .non H')→sp_Run_call K C vs H Q E
theorem ziH {f:Addr}{fd:FuncData}(B:Bl K mg) {C:Nat→Addr}(Z:Zt K mg C) (G_Run_meets:Mth CX0 P w K mg base (C 6) "meets" ["self","word","lines","numbers"] 4 (sp_Run_meets K C)) (G_asked_numbers:Fn P w K mg base "asked_numbers" ["asked"] 1 (sp_asked_numbers K)) (G_Run_begin:Mth CX0 P w K mg base (C 6) "begin" ["self","number","given"] 7 (sp_Run_begin K C)) (F:Fun K "call" "Run.call" s_Run_call f fd) (M:Meth K (C 6) "call" f):Mth CX0 P w K mg base (C 6) "call" ["self","number","given"] 8 (sp_Run_call K C):=by
 refine⟨f,fd,M,F.ok (k:=7) ziC (λvs H Q E h=>?_) (λcdv A outer s H vs Q E hr h=>?_),F.binds λ_ _ _ _ _ _ us hl=>match us,hl with | [_,_,_],_=>rfl⟩
 ·first
  | (obtain⟨_,_,_,_,_,_,_,_,_,_,_,_,_,_,_,rfl,_⟩:=h;rfl)
 obtain⟨r,ka,ia,sa,ks,cr,fas,s',kfp,f,st,g,m,a0,a1,rfl,A',hst,hen,hg,wfs,hc,l100,q⟩:=h
 refine⟨_,(zai (zaW (zg5 (zfb (hr_u hr) (pv 1) (zaD K (pv 0) rfl))) (zai (zbq (pv 0) (zaL (zab zaJ zad)) rfl)) (zai (zaW (zas zoE (zaP (zdQ K) rfl B.len L2.boot_len (zbl (zaD K (pv 0) rfl) zad)) (zdh rfl B.c_MOST_FRAMES) (zau _)) (zai (zbq (pv 0) (zaL (zab zaJ zad)) rfl)) (zai (zaW (zdD (za1 G_Run_meets Z.c_Run hr za2 (pv 0) (zab zaJ (zbl (zaD K (zel (hr_u hr) (zaD K (pv 0) rfl) (pv 1) (λ_ _=>rfl)) rfl) (zaC (zat G_asked_numbers hr rfl (zae (pv 2) zad)) zad))))) (zai (zaS (za1 G_Run_begin Z.c_Run hr za2 (pv 0) (zae (pv 1) (zae (pv 2) zad))))) zav)))))),?_⟩
 obtain⟨dr,ev,hr',_⟩:=A'.ins
 have fl:=A'.fr.len
 rw[hst,List.length_cons] at fl
 unfold zoi at q
 have sete:∀ (x:List V) T,H T=none→(∀ H' fas',zaF (zap r ia sa fas) H (zap r ia sa fas') H'→RunX (C 6) (C 5) (C 7) H' r ka ia sa ks cr fas' {s' with en:=some x} kfp→Q .non H')→Q .non (upd (upd H T (.tup x)) r (.ins (C 6) dr (rfls ka ia sa s'.k (.ref T)))):=λx T hT q=>by
  have t4:=zah hT (.tup x)
  exact q _ fas ((zaF.same t4).trans (zaF.upd zgs)) ((A'.same t4).setR (k':=s'.k) (en':=some x) (t4 _ _ hr') ⟨T,rfl,zaf⟩)
 walk_at "gs"
 refine⟨r,(C 6),dr,_,_,rfl,hr',Z.c_Run,Z.n_Run_known,zd8,?_⟩
 by_cases hm:m∈ks
 ·rw[if_neg (λz=>z hm)] at q
  obtain⟨kvs,o,g1,e1,e2,e3⟩:=A'.kn.craft hm
  refine⟨ka,some (.ref o),rfl,by rw[←e2];exact DGet.k (k:=.inl m) e1,?_⟩
  dsimp only[Option.isSome]
  walk_at "gs"
  refine⟨r,(C 6),dr,_,_,rfl,hr',Z.c_Run,Z.n_Run_stack,zbs,?_⟩
  walk_at "gs"
  refine zdP (.inl (SqL.of A'.sta)) ?_
  walk_at "gs"
  rw[zlm,List.length_reverse,←fl]
  by_cases h20:20≤(f::st).length
  ·rw[if_pos h20] at q
   rw[List.length_cons] at h20
   rw[decide_eq_true (show (20:Int)≤((st.length+1:Nat):Int) by omega)]
   walk_at "gs"
   refine⟨(by walk_at "sm"),λT hT=>?_⟩
   walk_at "gs"
   refine⟨r,(C 6),dr,_,rfl,zah hT _ _ _ hr',Z.c_Run,Z.n_Run_ending,by show 5<1000;decide,?_⟩
   rw[zcm]
   exact sete _ T hT q
  ·rw[if_neg h20] at q
   rw[List.length_cons] at h20
   rw[decide_eq_false (show ¬ (20:Int)≤((st.length+1:Nat):Int) by omega)]
   have rtm:=A'.kn.rt m hm
   obtain⟨dx,y1,y2,b3,b4,dvs,nvs,ho,hL,_⟩:=e3.out (K:=K) rtm.nine.d9
   walk_at "gs"
   refine⟨r,dr,_,rfl,hr',zbn (by decide +kernel) (by decide +kernel) (by decide +kernel) (by decide +kernel) (by decide +kernel),?_⟩
   walk_at "gs"
   refine⟨r,(C 6),dr,_,_,rfl,hr',Z.c_Run,Z.n_Run_known,zd8,?_⟩
   walk_at "gs"
   refine⟨ka,.ref o,rfl,by rw[←e2];exact DGet.k (k:=.inl m) e1,?_⟩
   walk_at "gs"
   refine⟨o,(C 7),dx,_,_,rfl,ho,Z.c_Craft,Z.n_Craft_needs,zcz _ _ _ _,?_⟩
   walk_at "gs"
   refine⟨g,a0,a1,rfl,hg,λna H1 s1 hna=>?_⟩
   walk_at "gs"
   refine⟨r,ka,ia,sa,ks,cr,fas,s',kfp,"needs",y1,na,_,zcC a0 a1,f,st,rfl,A'.same s1,hst,hen,hL.same s1,SqL.of hna,rfl,rtm.sm.1,λH2 o2 A2=>?_⟩
   have m2:zaF (zap r ia sa fas) H (zap r ia sa fas) H2:=(zaF.same s1).trans (zaF.offR o2 A2)
   cases hb:zaH (cr m).needs (zcC a0 a1) with
   | some i=>
    rw[hb] at q A2
    dsimp only[Option.isNone]
    walk_at "gs"
    exact q H2 _ m2 A2
   | none=>
    rw[hb] at q A2
    have A2:RunX (C 6) (C 5) (C 7) H2 r ka ia sa ks cr fas s' kfp:=by
     rw[←Rs.quiet hen];exact A2
    obtain⟨dr2,ev2,hr2,_⟩:=A2.ins
    dsimp only[Option.isNone]
    walk_at "gs"
    refine⟨r,dr2,_,rfl,hr2,zbn (by decide +kernel) (by decide +kernel) (by decide +kernel) (by decide +kernel) (by decide +kernel),?_⟩
    walk_at "gs"
    have hg2:SqL K H2 g [.int a0,.int a1]∨SqT K H2 g [.int a0,.int a1]:=by
     refine zeu (λb o e so=>?_) hg
     refine o2 b o (λz=>?_) (s1 b o e)
     rw[zms.mp z,hr'] at e
     cases e
     cases so
    refine⟨r,ka,ia,sa,ks,cr,fas,s',kfp,g,m,a0,a1,rfl,A2,hg2,hen,⟨λk hk=>?_,λk hk=>?_⟩,by rw[hst,List.length_cons];omega,λH3 fas3 m3 A3=>?_⟩
    ·rcases List.mem_cons.mp hk with rfl | hk
     ·exact⟨hm,by show (0:Int)≤0;omega,by show (0:Int)≤_;omega,rfl,rfl⟩
     ·rw[hst] at hk;exact wfs.1 k hk
    ·rw[List.tail_cons,hst] at hk
     rcases List.mem_cons.mp hk with rfl | hk
     ·exact hc
     ·exact wfs.2 k hk
    ·walk_at "gs"
     rw[hst] at A3
     exact q H3 fas3 (m2.trans m3) A3
 ·rw[if_pos hm] at q
  obtain⟨kvs,e1,e2⟩:=A'.kn.no hm
  refine⟨ka,none,rfl,by rw[←e2];exact DGet.k (k:=.inl m) e1,?_⟩
  dsimp only[Option.isSome]
  walk_at "gs"
  refine⟨(by walk_at "sm"),λT hT=>?_⟩
  walk_at "gs"
  refine⟨r,(C 6),dr,_,rfl,zah hT _ _ _ hr',Z.c_Run,Z.n_Run_ending,by show 5<1000;decide,?_⟩
  rw[zcm]
  exact sete _ T hT q
theorem zjp {H:Hp}{Q:VK}{E:XK}{la na:Addr}{l ns:List Int}(h9:l.length=9) (sm:Sm l) (h1:H la=some (.lst (l.map V.int))) (h2:H na=some (.lst (ns.map V.int))) (h3:ns.length=8) (q:∀ H',Same H H'→Q (.int (zcj l ns)) H'):ze3 K [.ref la,.ref na] H Q E:=by
 cases l with
 | nil=>simp at h9
 | cons c fs=>
 refine⟨la,na,c,fs,ns,rfl,SqL.of h1,SqL.of h2,by simpa using h9,h3,zlv sm,λH' s=>?_⟩
 rw[←zdS]
 exact q H' s
theorem zmR {H:Hp}{Q:VK}{E:XK}{la na:Addr}{l ns:List Int}(h9:l.length=9) (sm:Sm l) (h1:H la=some (.lst (l.map V.int))) (h2:H na=some (.lst (ns.map V.int))) (h3:ns.length=8) (q:∀ H',Same H H'→Q (.bl (decide (0≤zcj l ns))) H'):ze4 K [.ref la,.ref na] H Q E:=by
 cases l with
 | nil=>simp at h9
 | cons c fs=>
 refine⟨la,na,c,fs,ns,rfl,SqL.of h1,SqL.of h2,by simpa using h9,h3,zlv sm,λH' s=>?_⟩
 rw[←zdS]
 exact q H' s
inductive sp_Run_step (K:Fg) (C:Nat→Addr) (vs:List V) (H:Hp) (Q:VK) (E:XK):Prop
 | mk (r ka ia sa:Addr) (ks:List Int) (cr:Int→Cr) (fas:List Fa) (s:Rs) (kfp:List Addr):vs=[.ref r]→RunX (C 6) (C 5) (C 7) H r ka ia sa ks cr fas s kfp→WfR ks cr s→s.en=none→s.st.length≤20→(∀ H' fas',zaF (zap r ia sa fas) H (zap r ia sa fas') H'→RunX (C 6) (C 5) (C 7) H' r ka ia sa ks cr fas' (zcL cr ks s) kfp→Q .non H')→sp_Run_step K C vs H Q E
theorem ziI {f:Addr}{fd:FuncData}(B:Bl K mg) {C:Nat→Addr}(Z:Zt K mg C) (G_Run_put:Mth CX0 P w K mg base (C 6) "put" ["self","hand","number"] 7 (sp_Run_put K C)) (G_Run_craft_of:Mth CX0 P w K mg base (C 6) "craft_of" ["self","frame"] 1 (sp_Run_craft_of K C)) (G_worth:Fn P w K mg base "worth" ["line","numbers"] 1 (ze3 K)) (G_Frame_numbers:Mth CX0 P w K mg base (C 5) "numbers" ["self"] 1 (sp_Frame_numbers K C)) (G_Run_draw:Mth CX0 P w K mg base (C 6) "draw" ["self","hand","low","high"] 8 (sp_Run_draw K C)) (G_Run_come_to:Mth CX0 P w K mg base (C 6) "come_to" ["self","place"] 6 (sp_Run_come_to K C)) (G_Run_hold:Mth CX0 P w K mg base (C 6) "hold" ["self","line"] 7 (sp_Run_hold K C)) (G_Run_call:Mth CX0 P w K mg base (C 6) "call" ["self","number","given"] 8 (sp_Run_call K C)) (G_holds:Fn P w K mg base "holds" ["line","numbers"] 2 (ze4 K)) (F:Fun K "step" "Run.step" s_Run_step f fd) (M:Meth K (C 6) "step" f):Mth CX0 P w K mg base (C 6) "step" ["self"] 9 (sp_Run_step K C):=by
 refine⟨f,fd,M,F.ok (k:=8) zco (λvs H Q E h=>?_) (λcdv A outer s H vs Q E hr h=>?_),F.binds λ_ _ _ _ _ _ us hl=>match us,hl with | [_],_=>rfl⟩
 ·first
  | (obtain⟨_,_,_,_,_,_,_,_,_,rfl,_⟩:=h;rfl)
 obtain⟨r,ka,ia,sa,ks,cr,fas,s',kfp,rfl,A',hW,hen,l20,q⟩:=h
 refine⟨_,(zag (zbq (pv 0) (zao (zaM K) (zaD K (pv 0) rfl) zaa) rfl)
   (zag (zaA (i:=1) zco.nd rfl (Or.inl rfl) (zaB (k_ix K) (zaD K (pv 0) rfl) (zdB zb2 zaa) (λ_ _=>rfl)))
   (zag (zaA (i:=2) zco.nd rfl (Or.inl rfl) (zaB (k_ix K) (zaD K (za1 G_Run_craft_of Z.c_Run hr za2 (pv 0) (zae (pv 1) zad)) rfl) (zaD K (pv 1) rfl) (λ_ _=>rfl)))
   (zag (zaA (i:=3) zco.nd rfl (Or.inl rfl) (zaB (k_ix K) (pv 2) zaa (λ_ _=>rfl)))
   (zai (zaW (zas (k_eq K hr) (pv 3) zaJ (zau _)) (zai (zaS (za1 G_Run_put Z.c_Run hr za2 (pv 0) (zaE (zaB (k_ix K) (pv 2) zaa (λ_ _=>rfl)) (zaC (zat G_worth hr rfl (zaE (zaB (k_ix K) (pv 2) zaa (λ_ _=>rfl)) (zaC (zbk G_Frame_numbers Z.c_Frame hr za2 (pv 1)) zad))) zad))))) (zai (zaW (zas (k_eq K hr) (pv 3) zaJ (zau _)) (zai (zaS (za1 G_Run_put Z.c_Run hr za2 (pv 0) (zaE (zaB (k_ix K) (pv 2) zaa (λ_ _=>rfl)) (zaI (zao zaG (zat G_worth hr rfl (zaE (zaB (k_ix K) (pv 2) zaa (λ_ _=>rfl)) (zaC (zbk G_Frame_numbers Z.c_Frame hr za2 (pv 1)) zad))) (zaB (k_ix K) (pv 2) zaa (λ_ _=>rfl))) zad))))) (zai (zaW (zas (k_eq K hr) (pv 3) zaJ (zau _)) (zai (zaS (za1 G_Run_draw Z.c_Run hr za2 (pv 0) (zaE (zaB (k_ix K) (pv 2) zaa (λ_ _=>rfl)) (zaE (zaB (k_ix K) (pv 2) zaa (λ_ _=>rfl)) (zaE (zaB (k_ix K) (pv 2) zaa (λ_ _=>rfl)) zad)))))) (zai (zaW (zas (k_eq K hr) (pv 3) zaJ (zau _)) (zai (zaS (za1 G_Run_come_to Z.c_Run hr za2 (pv 0) (pa_if (ziU (zdD (zat G_holds hr rfl (zaE (zaB (k_ix K) (pv 2) zaa (λ_ _=>rfl)) (zaC (zbk G_Frame_numbers Z.c_Frame hr za2 (pv 1)) zad)))) (zaB (k_ix K) (pv 2) zaa (λ_ _=>rfl)) (zao (zaM K) (zaD K (pv 1) rfl) zaa)) zad)))) (zai (zaW (zas (k_eq K hr) (pv 3) zaJ (zau _)) (zai (zaS (za1 G_Run_hold Z.c_Run hr za2 (pv 0) (zaE (zaB (k_ix K) (pv 2) zaa (λ_ _=>rfl)) zad)))) (zag (zaA (i:=4) zco.nd rfl (Or.inl rfl) (zaB (k_ix K) (pv 2) zaa (λ_ _=>rfl)))
   (zai (zaS (za1 G_Run_call Z.c_Run hr za2 (pv 0) (zaE (zaB (k_ix K) (pv 2) zaa (λ_ _=>rfl)) (zci (za6 (zaE (zaB (k_ix K) (zaD K (pv 1) rfl) (zaB (k_ix K) (pv 4) zaa (λ_ _=>rfl)) (λ_ _=>rfl)) (zaE (zaB (k_ix K) (zaD K (pv 1) rfl) (zaB (k_ix K) (pv 4) zaa (λ_ _=>rfl)) (λ_ _=>rfl)) zad))) zad)))))))))))))))))))),?_⟩
 obtain⟨f,st,hst,hp⟩:=hW.on hen
 have wfs:=hW.w
 rw[hst] at wfs l20
 rw[List.length_cons] at l20
 have wf:=wfs.1 f List.mem_cons_self
 have rt:=A'.kn.rt f.n wf.m
 obtain⟨dr,ev,hr',hev⟩:=A'.ins
 have fr:=A'.fr
 rw[hst] at fr
 cases fas with
 | nil=>exact fr.elim
 | cons t fas=>
 obtain⟨p,ha,aa⟩:=t
 obtain⟨⟨dp,f1⟩,f2,f3,f4⟩:=fr
 have hp0:=wf.p0
 have hlt:f.p.toNat<(cr f.n).deeds.length:=by omega
 have hd:zd7 (cr f.n) f.p=some (cr f.n).deeds[f.p.toNat]:=List.getElem?_eq_getElem hlt
 have hok:=rt.parts.2.2.2.2.2 _ (List.getElem_mem hlt)
 have h9:=rt.nine.d9 _ (List.getElem_mem hlt)
 rw[zmF hst hd] at q
 walk_at "gs"
 walk_at "q"
 walk_at "gs"
 refine⟨r,(C 6),dr,_,_,rfl,hr',Z.c_Run,Z.n_Run_steps_done,zjl,?_⟩
 walk_at "gs"
 refine⟨r,(C 6),dr,_,rfl,hr',Z.c_Run,Z.n_Run_steps_done,by show 5<1000;decide,?_⟩
 rw[zmC]
 have A1:=A'.setR (k':=s'.k+1) (en':=s'.en) hr' hev
 have m1:zaF (zap r ia sa ((p,ha,aa)::fas)) H (zap r ia sa ((p,ha,aa)::fas)) (upd H r (.ins (C 6) dr (rfls ka ia sa (s'.k+1) ev))):=zaF.upd zgs
 generalize upd H r (.ins (C 6) dr (rfls ka ia sa (s'.k+1) ev))=H1 at *
 have hst1:({s' with k:=s'.k+1,en:=s'.en} : Rs).st=f::st:=hst
 have hen1:({s' with k:=s'.k+1,en:=s'.en} : Rs).en=none:=hen
 have q:=λH' fas' m A=>q H' fas' (m1.trans m) A
 generalize ({s' with k:=s'.k+1,en:=s'.en} : Rs)=s1 at *
 clear f1 f2 f3 f4 hr' hev
 obtain⟨dr,ev,hr',hev⟩:=A1.ins
 have fr:=A1.fr
 rw[hst1] at fr
 obtain⟨⟨dp,f1⟩,f2,f3,f4⟩:=fr
 walk_at "gs"
 walk_at "q"
 walk_at "gs"
 refine⟨r,(C 6),dr,_,_,rfl,hr',Z.c_Run,Z.n_Run_stack,zbs,?_⟩
 walk_at "gs"
 refine zbc (SqL.of A1.sta) (v:=.ref p) zd9 ?_
 walk_at "gs"
 walk_at "q"
 walk_at "gs"
 refine⟨r,dr,_,rfl,hr',zbn (by decide +kernel) (by decide +kernel) (by decide +kernel) (by decide +kernel) (by decide +kernel),?_⟩
 walk_at "gs"
 refine⟨r,ka,ia,sa,ks,cr,(p,ha,aa)::fas,s1,kfp,p,dp,ha,aa,f,rfl,A1,f1,wf.m,λo gg hC=>?_⟩
 obtain⟨dx,y1,y2,b3,b4,dvs,nvs,ho,_,_,h3,hD,_⟩:=hC.out (K:=K) rt.nine.d9
 have ld:=hD.1
 have hx:=List.getElem?_eq_getElem (l:=dvs) (i:=f.p.toNat) (by omega)
 have hdr:=hD.2 _ _ _ hd hx
 have hat:=hd
 generalize (cr f.n).deeds[f.p.toNat]=d at *
 generalize dvs[f.p.toNat]=x at *
 walk_at "gs"
 refine⟨o,(C 7),dx,_,_,rfl,ho,Z.c_Craft,Z.n_Craft_deeds,zca _ _ _ _,?_⟩
 walk_at "gs"
 refine⟨p,(C 5),dp,_,_,rfl,f1,Z.c_Frame,Z.n_Frame_place,zbT _ _ _ _,?_⟩
 walk_at "gs"
 refine zbc (SqL.of h3) (v:=x) (zhv hp0 hx) ?_
 cases d with
 | set hh l=>
  obtain⟨T,ys,rfl,hT,px⟩:=zbO hdr
  obtain⟨x0,ys,rfl,e0,px⟩:=zax px
  obtain⟨x1,ys,rfl,e1,px⟩:=zax px
  obtain⟨x2,ys,rfl,e2,px⟩:=zax px
  cases zdm px
  cases zc1 e0
  cases zb8 e1
  obtain⟨la,rfl,hla⟩:=zd5 e2
  simp only[zaO,zbh,btw,Bool.and_eq_true,decide_eq_true_eq] at hok
  walk_at "gs"
  walk_at "q"
  walk_at "gs"
  refine za7 (SqT.of hT) (v:=.str "set") zbJ ?_
  walk_at "gs"
  rw[decide_eq_true rfl]
  walk_at "gs"
  refine⟨r,dr,_,rfl,hr',zbn (by decide +kernel) (by decide +kernel) (by decide +kernel) (by decide +kernel) (by decide +kernel),?_⟩
  walk_at "gs"
  refine za7 (SqT.of hT) (v:=.int hh) (zaV (j:=1) rfl) ?_
  walk_at "gs"
  refine za7 (SqT.of hT) (v:=.ref la) (zaV (j:=2) rfl) ?_
  walk_at "gs"
  refine⟨p,dp,_,rfl,f1,zj4 (by decide +kernel) (by decide +kernel) (by decide +kernel) (by decide +kernel),?_⟩
  walk_at "gs"
  refine⟨p,dp,ha,aa,f,rfl,f1,f2,f3,wf.h4,wf.a2,λna H2 s2 hna=>?_⟩
  walk_at "gs"
  refine zjp (H:=H2) h9 (ziq hok.2) (s2 _ _ hla) hna (zcW wf) λH3 s3=>?_
  have s23:=s2.trans s3
  walk_at "gs"
  refine⟨r,ka,ia,sa,ks,cr,(p,ha,aa)::fas,s1,kfp,f,st,hh,_,rfl,A1.same s23,hst1,hen1,hok.1,wfs,hp,λH4 fas4 m4 A4=>?_⟩
  walk_at "gs"
  exact q H4 fas4 ((zaF.same s23).trans m4) A4
 | part hh l b=>
  obtain⟨T,ys,rfl,hT,px⟩:=zbO hdr
  obtain⟨x0,ys,rfl,e0,px⟩:=zax px
  obtain⟨x1,ys,rfl,e1,px⟩:=zax px
  obtain⟨x2,ys,rfl,e2,px⟩:=zax px
  obtain⟨x3,ys,rfl,e3,px⟩:=zax px
  cases zdm px
  cases zc1 e0
  cases zb8 e1
  cases zb8 e3
  obtain⟨la,rfl,hla⟩:=zd5 e2
  simp only[zaO,zbh,btw,Bool.and_eq_true,decide_eq_true_eq] at hok
  obtain⟨hok1,hok2,hok3⟩:=hok
  walk_at "gs"
  walk_at "q"
  walk_at "gs"
  refine za7 (SqT.of hT) (v:=.str "part") zbJ ?_
  walk_at "gs"
  rw[zoj]
  walk_at "gs"
  rw[decide_eq_true rfl]
  walk_at "gs"
  refine⟨r,dr,_,rfl,hr',zbn (by decide +kernel) (by decide +kernel) (by decide +kernel) (by decide +kernel) (by decide +kernel),?_⟩
  walk_at "gs"
  refine za7 (SqT.of hT) (v:=.int hh) (zaV (j:=1) rfl) ?_
  walk_at "gs"
  refine za7 (SqT.of hT) (v:=.ref la) (zaV (j:=2) rfl) ?_
  walk_at "gs"
  refine⟨p,dp,_,rfl,f1,zj4 (by decide +kernel) (by decide +kernel) (by decide +kernel) (by decide +kernel),?_⟩
  walk_at "gs"
  refine⟨p,dp,ha,aa,f,rfl,f1,f2,f3,wf.h4,wf.a2,λna H2 s2 hna=>?_⟩
  walk_at "gs"
  refine zjp (H:=H2) h9 (ziq hok2) (s2 _ _ hla) hna (zcW wf) λH3 s3=>?_
  have s23:=s2.trans s3
  walk_at "gs"
  refine za7 (SqT.of (s23 _ _ hT)) (v:=.int b) (zaV (j:=3) rfl) ?_
  walk_at "gs"
  refine⟨r,ka,ia,sa,ks,cr,(p,ha,aa)::fas,s1,kfp,f,st,hh,_,rfl,A1.same s23,hst1,hen1,hok1,wfs,hp,λH4 fas4 m4 A4=>?_⟩
  walk_at "gs"
  exact q H4 fas4 ((zaF.same s23).trans m4) A4
 | draw hh lo hi=>
  obtain⟨T,ys,rfl,hT,px⟩:=zbO hdr
  obtain⟨x0,ys,rfl,e0,px⟩:=zax px
  obtain⟨x1,ys,rfl,e1,px⟩:=zax px
  obtain⟨x2,ys,rfl,e2,px⟩:=zax px
  obtain⟨x3,ys,rfl,e3,px⟩:=zax px
  cases zdm px
  cases zc1 e0
  cases zb8 e1
  cases zb8 e2
  cases zb8 e3
  simp only[zaO,zbh,btw,Bool.and_eq_true,decide_eq_true_eq] at hok
  walk_at "gs"
  walk_at "q"
  walk_at "gs"
  refine za7 (SqT.of hT) (v:=.str "draw") zbJ ?_
  walk_at "gs"
  rw[zlx.1]
  walk_at "gs"
  rw[zlx.2]
  walk_at "gs"
  rw[decide_eq_true rfl]
  walk_at "gs"
  refine⟨r,dr,_,rfl,hr',zbn (by decide +kernel) (by decide +kernel) (by decide +kernel) (by decide +kernel) (by decide +kernel),?_⟩
  walk_at "gs"
  refine za7 (SqT.of hT) (v:=.int hh) (zaV (j:=1) rfl) ?_
  walk_at "gs"
  refine za7 (SqT.of hT) (v:=.int lo) (zaV (j:=2) rfl) ?_
  walk_at "gs"
  refine za7 (SqT.of hT) (v:=.int hi) (zaV (j:=3) rfl) ?_
  walk_at "gs"
  refine⟨r,ka,ia,sa,ks,cr,(p,ha,aa)::fas,s1,kfp,f,st,hh,lo,hi,rfl,A1,hst1,hen1,hok.1,wfs,hp,λH4 fas4 m4 A4=>?_⟩
  walk_at "gs"
  exact q H4 fas4 m4 A4
 | turn l j=>
  obtain⟨T,ys,rfl,hT,px⟩:=zbO hdr
  obtain⟨x0,ys,rfl,e0,px⟩:=zax px
  obtain⟨x1,ys,rfl,e1,px⟩:=zax px
  obtain⟨x2,ys,rfl,e2,px⟩:=zax px
  cases zdm px
  cases zc1 e0
  cases zb8 e2
  obtain⟨la,rfl,hla⟩:=zd5 e1
  simp only[zaO,btw,Bool.and_eq_true,decide_eq_true_eq] at hok
  walk_at "gs"
  walk_at "q"
  walk_at "gs"
  refine za7 (SqT.of hT) (v:=.str "turn") zbJ ?_
  walk_at "gs"
  rw[ziz.1]
  walk_at "gs"
  rw[ziz.2.1]
  walk_at "gs"
  rw[ziz.2.2]
  walk_at "gs"
  rw[decide_eq_true rfl]
  walk_at "gs"
  refine⟨r,dr,_,rfl,hr',zbn (by decide +kernel) (by decide +kernel) (by decide +kernel) (by decide +kernel) (by decide +kernel),?_⟩
  walk_at "gs"
  refine za7 (SqT.of hT) (v:=.ref la) (zaV (j:=1) rfl) ?_
  walk_at "gs"
  refine⟨p,dp,_,rfl,f1,zj4 (by decide +kernel) (by decide +kernel) (by decide +kernel) (by decide +kernel),?_⟩
  walk_at "gs"
  refine⟨p,dp,ha,aa,f,rfl,f1,f2,f3,wf.h4,wf.a2,λna H2 s2 hna=>?_⟩
  walk_at "gs"
  refine zmR (H:=H2) h9 (ziq hok.1) (s2 _ _ hla) hna (zcW wf) λH3 s3=>?_
  have s23:=s2.trans s3
  have wj:∀ k,0≤k→k≤((cr f.n).deeds.length:Int)→Wf ks cr ({f with p:=k}::st):=λk z1 z2=>wfs.top ⟨wf.m,z1,z2,wf.h4,wf.a2⟩
  unfold zc4 at q
  by_cases hb:0≤zcj l (zcc f)
  ·rw[decide_eq_true hb]
   simp only[if_pos hb] at q
   walk_at "gs"
   refine za7 (SqT.of (s23 _ _ hT)) (v:=.int j) (zaV (j:=2) rfl) ?_
   walk_at "gs"
   refine⟨r,ka,ia,sa,ks,cr,(p,ha,aa)::fas,s1,kfp,f,st,j,rfl,A1.same s23,hst1,hen1,wj j hok.2.1 hok.2.2,λH4 fas4 m4 A4=>?_⟩
   walk_at "gs"
   exact q H4 fas4 ((zaF.same s23).trans m4) A4
  ·rw[decide_eq_false hb]
   simp only[if_neg hb] at q
   walk_at "gs"
   refine⟨p,(C 5),dp,_,_,rfl,s23 _ _ f1,Z.c_Frame,Z.n_Frame_place,zbT _ _ _ _,?_⟩
   walk_at "gs"
   refine⟨r,ka,ia,sa,ks,cr,(p,ha,aa)::fas,s1,kfp,f,st,f.p+1,rfl,A1.same s23,hst1,hen1,wj (f.p+1) (by omega) (by omega),λH4 fas4 m4 A4=>?_⟩
   walk_at "gs"
   exact q H4 fas4 ((zaF.same s23).trans m4) A4
 | hold l=>
  obtain⟨T,ys,rfl,hT,px⟩:=zbO hdr
  obtain⟨x0,ys,rfl,e0,px⟩:=zax px
  obtain⟨x1,ys,rfl,e1,px⟩:=zax px
  cases zdm px
  cases zc1 e0
  obtain⟨la,rfl,hla⟩:=zd5 e1
  simp only[zaO] at hok
  walk_at "gs"
  walk_at "q"
  walk_at "gs"
  refine za7 (SqT.of hT) (v:=.str "hold") zbJ ?_
  walk_at "gs"
  rw[zgS.1]
  walk_at "gs"
  rw[zgS.2.1]
  walk_at "gs"
  rw[zgS.2.2.1]
  walk_at "gs"
  rw[zgS.2.2.2]
  walk_at "gs"
  rw[decide_eq_true rfl]
  walk_at "gs"
  refine⟨r,dr,_,rfl,hr',zbn (by decide +kernel) (by decide +kernel) (by decide +kernel) (by decide +kernel) (by decide +kernel),?_⟩
  walk_at "gs"
  refine za7 (SqT.of hT) (v:=.ref la) (zaV (j:=1) rfl) ?_
  walk_at "gs"
  refine⟨r,ka,ia,sa,ks,cr,(p,ha,aa)::fas,s1,kfp,f,st,la,l,rfl,A1,hst1,hen1,hla,h9,ziq hok,wfs,hp,λH4 fas4 m4 A4=>?_⟩
  walk_at "gs"
  exact q H4 fas4 m4 A4
 | call m g0 g1 t0 t1=>
  obtain⟨T,ys,rfl,hT,px⟩:=zbO hdr
  obtain⟨x0,ys,rfl,e0,px⟩:=zax px
  obtain⟨x1,ys,rfl,e1,px⟩:=zax px
  obtain⟨x2,ys,rfl,e2,px⟩:=zax px
  obtain⟨x3,ys,rfl,e3,px⟩:=zax px
  cases zc1 e0
  cases zb8 e1
  obtain⟨gv,rfl,hgv⟩:=zhC e2
  obtain⟨b0,b1,_⟩:=zgr hok
  have e4:=wf.h4
  rw[zj5] at q
  walk_at "gs"
  walk_at "q"
  walk_at "gs"
  refine za7 (SqT.of hT) (v:=.str "call") zbJ ?_
  walk_at "gs"
  rw[zfx.1]
  walk_at "gs"
  rw[zfx.2.1]
  walk_at "gs"
  rw[zfx.2.2.1]
  walk_at "gs"
  rw[zfx.2.2.2.1]
  walk_at "gs"
  rw[zfx.2.2.2.2]
  walk_at "gs"
  walk_at "q"
  walk_at "gs"
  refine za7 (SqT.of hT) (v:=.ref gv) (zaV (j:=2) rfl) ?_
  walk_at "gs"
  refine⟨r,dr,_,rfl,hr',zbn (by decide +kernel) (by decide +kernel) (by decide +kernel) (by decide +kernel) (by decide +kernel),?_⟩
  walk_at "gs"
  refine za7 (SqT.of hT) (v:=.int m) (zaV (j:=1) rfl) ?_
  walk_at "gs"
  refine⟨p,(C 5),dp,_,_,rfl,f1,Z.c_Frame,Z.n_Frame_hands,zbP _ _ _ _,?_⟩
  walk_at "gs"
  refine za7 (SqT.of hgv) (v:=.int g0) zbJ ?_
  walk_at "gs"
  refine zbc (SqL.of f2) (zeq b0.1 (by omega)) ?_
  walk_at "gs"
  refine⟨p,(C 5),dp,_,_,rfl,f1,Z.c_Frame,Z.n_Frame_hands,zbP _ _ _ _,?_⟩
  walk_at "gs"
  refine za7 (SqT.of hgv) (v:=.int g1) (zaV (j:=1) rfl) ?_
  walk_at "gs"
  refine zbc (SqL.of f2) (zeq b1.1 (by omega)) ?_
  walk_at "gs"
  refine⟨(by walk_at "sm"),λg hg=>?_⟩
  have t2:=zah hg (.lst [V.int (f.hands.getD g0.toNat 0),.int (f.hands.getD g1.toNat 0)])
  walk_at "gs"
  refine⟨r,ka,ia,sa,ks,cr,(p,ha,aa)::fas,s1,kfp,f,st,g,m,_,_,rfl,A1.same t2,hst1,hen1,.inl (SqL.of zaf),wfs,⟨m,g0,g1,t0,t1,hat⟩,by omega,λH4 fas4 m4 A4=>?_⟩
  walk_at "gs"
  exact q H4 fas4 ((zaF.same t2).trans m4) A4
inductive sp_Run_go (K:Fg) (C:Nat→Addr) (vs:List V) (H:Hp) (Q:VK) (E:XK):Prop
 | mk (r ka ia sa:Addr) (ks:List Int) (cr:Int→Cr) (fas:List Fa) (s:Rs) (kfp:List Addr) (fuel:Int):vs=[.ref r,.int fuel]→RunX (C 6) (C 5) (C 7) H r ka ia sa ks cr fas s kfp→WfR ks cr s→s.st.length≤20→(∀ v H' fas',zaF (zap r ia sa fas) H (zap r ia sa fas') H'→RunX (C 6) (C 5) (C 7) H' r ka ia sa ks cr fas' (goR cr ks fuel.toNat s) kfp→zbY H' (goR cr ks fuel.toNat s).en v→WfR ks cr (goR cr ks fuel.toNat s)→(goR cr ks fuel.toNat s).st.length≤20→Q v H')→sp_Run_go K C vs H Q E
theorem zlF {f:Addr}{fd:FuncData}(B:Bl K mg) {C:Nat→Addr}(Z:Zt K mg C) (G_Run_step:Mth CX0 P w K mg base (C 6) "step" ["self"] 9 (sp_Run_step K C)) (F:Fun K "go" "Run.go" s_Run_go f fd) (M:Meth K (C 6) "go" f):Mth CX0 P w K mg base (C 6) "go" ["self","fuel"] 10 (sp_Run_go K C):=by
 refine⟨f,fd,M,F.ok (k:=9) zhL (λvs H Q E h=>?_) (λcdv A outer s H vs Q E hr h=>?_),F.binds λ_ _ _ _ _ _ us hl=>match us,hl with | [_,_],_=>rfl⟩
 ·first
  | (obtain⟨_,_,_,_,_,_,_,_,_,_,rfl,_⟩:=h;rfl)
 obtain⟨r,ka,ia,sa,ks,cr,fas,s',kfp,fuel,rfl,A',hW,l20,q⟩:=h
 refine⟨_,(zag (zgx PassesOwn.never (PW.pt (ziT (zas zoD (pv 1) zaa (zau _)) (zgw (zas zg8 (zaD K (pv 0) rfl) zdC (zau _))))) (zag (zaS (zbk G_Run_step Z.c_Run hr za2 (pv 0)))
   (zai (zaA (i:=1) zhL.nd rfl (Or.inl rfl) (zao zgb (pv 1) zaa)))))
   (zag (zaW (zas zg8 (zaD K (pv 0) rfl) zdC (zau _)) (zai (zar (zaL (zab zaJ zad)))) zav)
   (zai (zar (zaD K (pv 0) rfl))))),?_⟩
 with_reducible refine zd1 (λσ H2=>∃ fu fas2,A5 (σ=[some (.ref r),some (.int fu)]) (WfR ks cr (goR cr ks fuel.toNat s')) ((goR cr ks fuel.toNat s').st.length≤20) (zaF (zap r ia sa fas) H (zap r ia sa fas2) H2) (RunX (C 6) (C 5) (C 7) H2 r ka ia sa ks cr fas2 (goR cr ks fuel.toNat s') kfp)) (λNX tail=>?_) ?_
 ·refine⟨(λm σ H2=>E3 λfu fas2 s2=>A7 (σ=[some (.ref r),some (.int fu)]) (m=fu.toNat) (goR cr ks fu.toNat s2=goR cr ks fuel.toNat s') (WfR ks cr s2) (s2.st.length≤20) (zaF (zap r ia sa fas) H (zap r ia sa fas2) H2) (RunX (C 6) (C 5) (C 7) H2 r ka ia sa ks cr fas2 s2 kfp)),⟨_,fuel,fas,s',rfl,rfl,rfl,hW,l20,zaF.refl,A'⟩,?_⟩
  rintro m σ H2 ⟨fu,fas2,s2,rfl,rfl,eg,w2,l2,m2,A2⟩
  obtain⟨dr2,ev2,hr2,en2⟩:=A2.ins
  have en2:=en2.none_iff
  walk_at "gs"
  by_cases hf:0<fu
  ·rw[decide_eq_true hf]
   walk_at "gs"
   refine⟨r,(C 6),dr2,_,_,rfl,hr2,Z.c_Run,Z.n_Run_ending,zdp,?_⟩
   walk_at "gs"
   refine⟨rfl,?_⟩
   rw[en2]
   walk_at "gs"
   have e1:fu.toNat=(fu - 1).toNat+1:=by omega
   cases he:s2.en with
   | some x=>
    dsimp only[Option.isNone]
    walk_at "gs"
    rw[zfv (by rw[he];intro z;cases z)] at eg
    subst eg
    exact tail _ _ ⟨fu,fas2,rfl,w2,l2,m2,A2⟩
   | none=>
    dsimp only[Option.isNone]
    walk_at "gs"
    refine⟨(λσ H3=>∃ fas3 s3,A6 (σ=[some (.ref r),some (.int (fu - 1))]) (goR cr ks (fu - 1).toNat s3=goR cr ks fuel.toNat s') (WfR ks cr s3) (s3.st.length≤20) (zaF (zap r ia sa fas) H (zap r ia sa fas3) H3) (RunX (C 6) (C 5) (C 7) H3 r ka ia sa ks cr fas3 s3 kfp)),λσ' H' ⟨fas3,s3,z1,z2,z3,z4,z5,z6⟩=>⟨(fu - 1).toNat,by omega,fu - 1,fas3,s3,z1,rfl,z2,z3,z4,z5,z6⟩,?_⟩
    walk_at "gs"
    walk_at "q"
    walk_at "gs"
    refine⟨r,dr2,_,rfl,hr2,zbn (by decide +kernel) (by decide +kernel) (by decide +kernel) (by decide +kernel) (by decide +kernel),?_⟩
    walk_at "gs"
    refine⟨r,ka,ia,sa,ks,cr,fas2,s2,kfp,rfl,A2,w2,he,l2,λH3 fas3 m3 A3=>?_⟩
    walk_at "gs"
    rw[e1] at eg
    have e2:goR cr ks ((fu - 1).toNat+1) s2=goR cr ks (fu - 1).toNat (zcL cr ks s2):=by
     show (if s2.en=none then _ else _)=_
     rw[if_pos he]
    rw[e2] at eg
    exact⟨fas3,_,rfl,eg,zgO A2.kn.rt w2 he,zhJ l2,m2.trans m3,A3⟩
  ·rw[decide_eq_false hf]
   walk_at "gs"
   have e0:fu.toNat=0:=by omega
   rw[e0] at eg
   have eg:s2=goR cr ks fuel.toNat s':=eg
   subst eg
   exact tail _ _ ⟨fu,fas2,rfl,w2,l2,m2,A2⟩
 ·rintro σ H2 ⟨fu,fas2,rfl,w2,l2,m2,A2⟩
  obtain⟨dr2,ev2,hr2,en2⟩:=A2.ins
  have en2':=en2.none_iff
  have q:=λv H' m A t=>q v H' fas2 m A t w2 l2
  generalize goR cr ks fuel.toNat s'=s2 at *
  walk_at "gs"
  walk_at "q"
  walk_at "gs"
  refine⟨r,(C 6),dr2,_,_,rfl,hr2,Z.c_Run,Z.n_Run_ending,zdp,?_⟩
  walk_at "gs"
  refine⟨rfl,?_⟩
  rw[en2']
  walk_at "gs"
  cases he:s2.en with
  | some x=>
   dsimp only[Option.isNone]
   rw[he] at en2 q
   obtain⟨T,rfl,hT⟩:=en2
   walk_at "gs"
   refine⟨r,(C 6),dr2,_,_,rfl,hr2,Z.c_Run,Z.n_Run_ending,zdp,?_⟩
   exact q _ H2 m2 A2 ⟨T,rfl,hT⟩
  | none=>
   dsimp only[Option.isNone]
   rw[he] at q
   walk_at "gs"
   refine⟨(by walk_at "sm"),λT hT=>?_⟩
   have t3:=zah hT (.tup [V.str "cut"])
   exact q _ _ (m2.trans (zaF.same t3)) (A2.same t3) ⟨T,rfl,zaf⟩
inductive sp_Run_steps (K:Fg) (C:Nat→Addr) (vs:List V) (H:Hp) (Q:VK) (E:XK):Prop
 | mk (r ka ia sa:Addr) (ks:List Int) (cr:Int→Cr) (fas:List Fa) (s:Rs) (kfp:List Addr):vs=[.ref r]→RunX (C 6) (C 5) (C 7) H r ka ia sa ks cr fas s kfp→Q (.int s.k) H→sp_Run_steps K C vs H Q E
theorem zhV {f:Addr}{fd:FuncData}(B:Bl K mg) {C:Nat→Addr}(Z:Zt K mg C)  (F:Fun K "steps" "Run.steps" s_Run_steps f fd) (M:Meth K (C 6) "steps" f):Mth CX0 P w K mg base (C 6) "steps" ["self"] 1 (sp_Run_steps K C):=by
 refine⟨f,fd,M,F.ok (k:=0) zhM (λvs H Q E h=>?_) (λcdv A outer s H vs Q E hr h=>?_),F.binds λ_ _ _ _ _ _ us hl=>match us,hl with | [_],_=>rfl⟩
 ·first
  | (obtain⟨_,_,_,_,_,_,_,_,_,rfl,_⟩:=h;rfl)
 obtain⟨r,ka,ia,sa,ks,cr,fas,s',kfp,rfl,A',q⟩:=h
 refine⟨_,(zai (zar (zaD K (pv 0) rfl))),?_⟩
 obtain⟨dr,ev,hr',_⟩:=A'.ins
 walk_at "gs"
 refine⟨r,(C 6),dr,_,_,rfl,hr',Z.c_Run,Z.n_Run_steps_done,zjl,?_⟩
 exact q
def fmD (f:Fm):D:=.tup [.int f.n,.int f.p]
inductive sp_Run_frames (K:Fg) (C:Nat→Addr) (vs:List V) (H:Hp) (Q:VK) (E:XK):Prop
 | mk (r ka ia sa:Addr) (ks:List Int) (cr:Int→Cr) (fas:List Fa) (s:Rs) (kfp:List Addr):vs=[.ref r]→RunX (C 6) (C 5) (C 7) H r ka ia sa ks cr fas s kfp→s.st.length≤20→(∀ v H',Same H H'→New H H' (.lst (s.st.reverse.map fmD)) v→Q v H')→sp_Run_frames K C vs H Q E
theorem zcn.at {cF:Addr}{H:Hp} : ∀ {st:List Fm}{fas:List Fa},zcn cF H st fas→∀ (i:Nat) f t,st[i]?=some f→fas[i]?=some t→∃ dx,H t.1=some (.ins cF dx (ffl f.n f.p t.2.1 t.2.2))
 | [],[],_,i,f,t,e,_=>by simp at e
 | f::st,(p,ha,aa)::r,h,0,g,t,e1,e2=>by simp at e1 e2;subst e1;subst e2;exact h.1
 | f::st,(p,ha,aa)::r,h,i+1,g,t,e1,e2=>zcn.at h.2.2.2 i g t (by simpa using e1) (by simpa using e2)
 | [],_::_,h,_,_,_,_,_=>h.elim
 | _::_,[],h,_,_,_,_,_=>h.elim
theorem zgW {f:Addr}{fd:FuncData}(B:Bl K mg) {C:Nat→Addr}(Z:Zt K mg C)  (F:Fun K "frames" "Run.frames" s_Run_frames f fd) (M:Meth K (C 6) "frames" f):Mth CX0 P w K mg base (C 6) "frames" ["self"] 1 (sp_Run_frames K C):=by
 refine⟨f,fd,M,F.ok (k:=0) zgU (λvs H Q E h=>?_) (λcdv A outer s H vs Q E hr h=>?_),F.binds λ_ _ _ _ _ _ us hl=>match us,hl with | [_],_=>rfl⟩
 ·first
  | (obtain⟨_,_,_,_,_,_,_,_,_,rfl,_⟩:=h;rfl)
 obtain⟨r,ka,ia,sa,ks,cr,fas,s',kfp,rfl,A',l20,q⟩:=h
 refine⟨_,(zai (zar (zbI rfl (CompOk.m (sc0:=zac s_Run_frames) (N:=["self"]) (N':=["self","frame"]) (ms:=[false,true])) (zbp K (zaD K (pv 0) rfl)) (λ_ _ _ _ _=>(zay (i:=1) (ndS (N:=["self","frame"])) rfl (Or.inl rfl))) (λ_ _ _ _ _=>zaY) (λ_ _ _ _ _=>(zaL (zbl (zaD K (pv 1) rfl) (zbl (zaD K (pv 1) rfl) zad))))))),?_⟩
 obtain⟨dr,ev,hr',_⟩:=A'.ins
 have fl:=A'.fr.len
 walk_at "gs"
 refine⟨r,(C 6),dr,_,_,rfl,hr',Z.c_Run,Z.n_Run_stack,zbs,?_⟩
 refine⟨sa,rfl,⟨_,SqL.of A'.sta⟩,?_⟩
 refine zaZ (zbg (SqL.of A'.sta)) (s'.st.reverse.map fmD) (by simp[fl]) (zaz (by simp;omega)) (λj x d H2 R hj hd s2 hx hR=>?_) (λv H2 s2 n2=>?_)
 ·have hj':j<fas.length:=by simpa using hj
  rw[zgm] at hd hx
  obtain⟨f,hf,rfl⟩:=zme.mp hd
  obtain⟨t,ht,rfl⟩:=zme.mp hx
  rw[List.getElem?_reverse (by omega)] at hf
  rw[List.getElem?_reverse hj'] at ht
  rw[fl] at hf
  obtain⟨dx,hp⟩:=A'.fr.at _ f t hf ht
  have hp:=s2 _ _ hp
  walk_at "gs"
  refine⟨t.1,(C 5),dx,_,_,rfl,hp,Z.c_Frame,Z.n_Frame_number,zfw _ _ _ _,?_⟩
  walk_at "gs"
  refine⟨t.1,(C 5),dx,_,_,rfl,hp,Z.c_Frame,Z.n_Frame_place,zbT _ _ _ _,?_⟩
  walk_at "gs"
  refine⟨(by walk_at "sm"),λT hT=>?_⟩
  exact hR _ _ (zah hT _) (New.tup (zaj.cint (zaj.cint zaj.nil)) List.nodup_nil (λ_ z=>by cases z) zaf)
 ·exact q v H2 s2 n2
def zcG (deeds:List Dd) (i:Nat):Bool:=match deeds[i]? with
 | some d=>(zck d).isSome
 | none=>false
def zeG (deeds:List Dd) (i:Nat):D:=match deeds[i]? with
 | some d=>.int ((zck d).getD 0)
 | none=>.int 0
theorem zgv:∀ (deeds:List Dd),((List.range deeds.length).filter (zcG deeds)).map (zeG deeds)=(zcI deeds).map D.int
 | []=>rfl
 | d::ds=>by
  have ih:=zgv ds
  have f:(List.map Nat.succ (List.range ds.length)).filter (zcG (d::ds))=((List.range ds.length).filter (zcG ds)).map Nat.succ:=by
   rw[List.filter_map];rfl
  have g:(((List.range ds.length).filter (zcG ds)).map Nat.succ).map (zeG (d::ds))=(zcI ds).map D.int:=by
   rw[List.map_map,←ih];rfl
  rw[List.length_cons,List.range_succ_eq_map,List.filter_cons,f]
  unfold zcI at g ⊢
  cases e:zck d with
  | none=>
   rw[show zcG (d::ds) 0=false by unfold zcG;simp[e],if_neg (by decide),List.filterMap_cons,e]
   exact g
  | some m=>
   rw[show zcG (d::ds) 0=true by unfold zcG;simp[e],if_pos rfl,List.filterMap_cons,e,zmc,zmc,g,show zeG (d::ds) 0=.int m by unfold zeG;simp[e]]
theorem zlG (deeds:List Dd) (n:Nat) (h:n=deeds.length):((List.range n).filter (zcG deeds)).map (zeG deeds)=(zcI deeds).map D.int:=by
 subst h;exact zgv deeds
inductive sp_called_by (K:Fg) (C:Nat→Addr) (vs:List V) (H:Hp) (Q:VK) (E:XK):Prop
 | mk (p:Addr) (dx b3:Addr) (w1 w2 w4:V) (dvs:List V) (deeds:List Dd):vs=[.ref p]→H p=some (.ins (C 7) dx (flds w1 w2 (.ref b3) w4))→H b3=some (.lst dvs)→zdn H deeds dvs→deeds.length≤1000→(∀ v H',Same H H'→New H H' (nums (zcI deeds)) v→Q v H')→sp_called_by K C vs H Q E
theorem zhW {f:Addr}{fd:FuncData}(B:Bl K mg) {C:Nat→Addr}(Z:Zt K mg C)  (F:Fun K "called_by" "called_by" s_called_by f fd) (m:mg "called_by"=some (.ref f)):Fn P w K mg base "called_by" ["craft"] 1 (sp_called_by K C):=by
 refine Fn.of (k:=0) F zhO m (λ_ _ _ _ _ _ us hl=>match us,hl with | [_],_=>rfl) (λvs H Q E h=>?_) (λcdv A outer s H vs Q E hr h=>?_)
 ·first
  | (obtain⟨_,_,_,_,_,_,_,_,rfl,_⟩:=h;rfl)
 obtain⟨p,dx,b3,w1,w2,w4,dvs,deeds,rfl,hp,hb3,hD,hl,q⟩:=h
 refine⟨_,(zai (zar (zbI rfl (CompOk.m (sc0:=zac s_called_by) (N:=["craft"]) (N':=["craft","deed"]) (ms:=[false,true])) (zbp K (zaD K (pv 0) rfl)) (λ_ _ _ _ _=>(zay (i:=1) (ndS (N:=["craft","deed"])) rfl (Or.inl rfl))) (λ_ _ _ _ _=>(zl9 (zas (k_eq K hr) (zaB (k_ix K) (pv 1) zaa (λ_ _=>rfl)) zaJ (zau _)))) (λ_ _ _ _ _=>(zaB (k_ix K) (pv 1) zaa (λ_ _=>rfl)))))),?_⟩
 have ld:=hD.1
 walk_at "go"
 refine⟨p,(C 7),dx,_,_,rfl,hp,Z.c_Craft,Z.n_Craft_deeds,zca _ _ _ _,?_⟩
 refine⟨b3,rfl,⟨_,SqL.of hb3⟩,?_⟩
 refine zkZ (zbg (SqL.of hb3)) (zcG deeds) (zeG deeds) (zaz (by omega)) (λi x H1 R1 R2' hi s1 hx hy hn=>?_) (λv H1 s1 n1=>?_)
 ·have hi':i<deeds.length:=by omega
  have drx:=(hD.2 i deeds[i] x (by simp) hx).sq s1.sq
  have ek:zcG deeds i=(zck deeds[i]).isSome:=by unfold zcG;simp[hi']
  have en:zeG deeds i=.int ((zck deeds[i]).getD 0):=by unfold zeG;simp[hi']
  generalize deeds[i]=d at drx ek en
  obtain⟨t,xs,rfl,ht⟩:=zlg drx
  walk_at "gs"
  refine za7 (SqT.of ht) zbJ ?_
  walk_at "gs"
  have ew:decide (zn5 d ="call")=zcG deeds i:=by
   rw[ek]
   cases d <;> first | rfl | (unfold zn5 zck;decide +kernel)
  rw[ew]
  cases hk:zcG deeds i with
  | false=>
   rw[if_neg (by decide)]
   exact hn hk _ (Same.refl _)
  | true=>
   rw[if_pos rfl]
   rw[hk] at ek
   cases d with
   | call m g0 g1 t0 t1=>
    obtain⟨t',ys,et,hT2,px⟩:=zbO drx
    cases et
    obtain⟨x0,r,rfl,e0,px⟩:=zax px
    obtain⟨x1,r,rfl,e1,px⟩:=zax px
    cases zb8 e1
    walk_at "gs"
    refine za7 (SqT.of hT2) (v:=.int m) (zaV (j:=1) rfl) ?_
    refine hy hk _ _ (Same.refl _) ?_
    rw[en]
    exact New.int
   | _=>cases ek
 ·walk_at "go"
  rw[zlG deeds _ ld.symm] at n1
  exact q _ _ s1 n1
inductive sp_between (K:Fg) (vs:List V) (H:Hp) (Q:VK) (E:XK):Prop
 | mk (a b c:Int):vs=[.int a,.int b,.int c]→Q (.bl (decide (a≤b) && decide (b≤c))) H→sp_between K vs H Q E
theorem zcY {H:Hp}{Q:VK}{E:XK}{a b c:Int}(q:Q (.bl (decide (a≤b) && decide (b≤c))) H):sp_between K [.int a,.int b,.int c] H Q E:=⟨a,b,c,rfl,q⟩
theorem zkb {f:Addr}{fd:FuncData}(B:Bl K mg) {C:Nat→Addr}(Z:Zt K mg C)  (F:Fun K "between" "between" s_between f fd) (m:mg "between"=some (.ref f)):Fn P w K mg base "between" ["low","number","high"] 1 (sp_between K):=by
 refine Fn.of (k:=0) F zj9 m (λ_ _ _ _ _ _ us hl=>match us,hl with | [_,_,_],_=>rfl) (λvs H Q E h=>?_) (λcdv A outer s H vs Q E hr h=>?_)
 ·first
  | (obtain⟨_,_,_,rfl,_⟩:=h;rfl)
 obtain⟨a,b,c,rfl,q⟩:=h
 refine⟨_,(zai (zar (zlR zjv zjv (pv 0) (pv 1) (pv 2)))),?_⟩
 walk_at "go"
 cases h:decide (a≤b) with
 | false=>rw[h] at q;walk_at "go";exact q
 | true=>rw[h] at q;walk_at "go";exact q
def zbR (K:Fg):Sp:=λvs H Q _=>∃ n:Int,vs=[.int n]∧Q (.bl (zcx n)) H
theorem ziJ {H:Hp}{Q:VK}{E:XK}{n:Int}(q:Q (.bl (zcx n)) H):zbR K [.int n] H Q E:=⟨n,rfl,q⟩
theorem zfN {f:Addr}{fd:FuncData}(B:Bl K mg) {C:Nat→Addr}(Z:Zt K mg C) (G_between:Fn P w K mg base "between" ["low","number","high"] 1 (sp_between K)) (F:Fun K "small_enough" "small_enough" s_small_enough f fd) (m:mg "small_enough"=some (.ref f)):Fn P w K mg base "small_enough" ["number"] 2 (zbR K):=by
 refine Fn.of (k:=1) F zfG m (λ_ _ _ _ _ _ us hl=>match us,hl with | [_],_=>rfl) (λvs H Q E h=>?_) (λcdv A outer s H vs Q E hr h=>?_)
 ·first
  | (obtain⟨_,rfl,_⟩:=h;rfl)
 obtain⟨n,rfl,q⟩:=h
 refine⟨_,(zai (zar (zat G_between hr rfl (zjR (zdB zb2 (zdh rfl B.c_GREATEST)) (zae (pv 0) (zae (zdh rfl B.c_GREATEST) zad)))))),?_⟩
 walk_at "go"
 refine zcY ?_
 exact q
inductive sp_line_right (K:Fg) (vs:List V) (H:Hp) (Q:VK) (E:XK):Prop
 | mk (a t:Addr) (l:List Int) (spots:List Nat):vs=[.ref a,.ref t]→SqL K H a (l.map V.int)→SqT K H t (spots.map λ(s:Nat)=>V.int (s:Int))→l.length=9→spots.length≤9→(∀ s∈spots,s<9)→(∀ H',Same H H'→Q (.bl (zbX spots l)) H')→sp_line_right K vs H Q E
theorem zgX {f:Addr}{fd:FuncData}(B:Bl K mg) {C:Nat→Addr}(Z:Zt K mg C) (G_small_enough:Fn P w K mg base "small_enough" ["number"] 2 (zbR K)) (F:Fun K "line_right" "line_right" s_line_right f fd) (m:mg "line_right"=some (.ref f)):Fn P w K mg base "line_right" ["line","nought_spots"] 3 (sp_line_right K):=by
 refine Fn.of (k:=2) F zec m (λ_ _ _ _ _ _ us hl=>match us,hl with | [_,_],_=>rfl) (λvs H Q E h=>?_) (λcdv A outer s H vs Q E hr h=>?_)
 ·first
  | (obtain⟨_,_,_,_,rfl,_⟩:=h;rfl)
 obtain⟨a,t,l,spots,rfl,hA,hT,l9,ls9,hs,q⟩:=h
 refine⟨_,(zag (zaA (i:=2) zec.nd rfl (Or.inl rfl) (zaP (zjP K rfl) rfl B.all L2.zdx (zdk (zbI rfl (CompOk.m (sc0:=zac s_line_right) (N:=["line","nought_spots","small"]) (N':=["line","nought_spots","small","number"]) (ms:=[false,false,false,true])) (zbp K (pv 0)) (λ_ _ _ _ _=>(zay (i:=3) (ndS (N:=["line","nought_spots","small","number"])) rfl (Or.inl rfl))) (λ_ _ _ _ _=>zaY) (λ_ _ _ _ _=>(zat G_small_enough hr rfl (zae (pv 3) zad)))) zad)))
   (zai (zar (zbw (pv 2) (zb1 (zaP (zjP K rfl) rfl B.all L2.zdx (zdk (zbI rfl (CompOk.m (sc0:=zac s_line_right) (N:=["line","nought_spots","small"]) (N':=["line","nought_spots","small","spot"]) (ms:=[false,false,false,true])) (zi4 K (pv 1)) (λ_ _ _ _ _=>(zay (i:=3) (ndS (N:=["line","nought_spots","small","spot"])) rfl (Or.inl rfl))) (λ_ _ _ _ _=>zaY) (λ_ _ _ _ _=>(zbB (k_eq K hr) (zaB (k_ix K) (pv 0) (pv 3) (λ_ _=>rfl)) zaa (zau _)))) zad))))))),?_⟩
 unfold zbX at q
 walk_at "go"
 refine⟨a,rfl,⟨_,hA⟩,?_⟩
 refine zaZ (zbg hA) ((l.map zcx).map D.bl) (by simp) (zaz (by simp;omega)) (λk x d H1 R hk hd s1 hx hR=>?_) (λv H1 s1 n1=>?_)
 ·rw[zgm] at hx
  obtain⟨y,hy,rfl⟩:=zme.mp hx
  rw[zgm,zgm,hy] at hd
  cases hd
  walk_at "go"
  refine ziJ ?_
  exact hR _ _ (Same.refl _) New.bl
 obtain⟨la,rfl,la0,la1⟩:=New.bls n1
 walk_at "go"
 refine zjO (SqL.of la1) ?_
 walk_at "go"
 refine zen (λe=>?_) (λe=>by have q1:=q _ s1;rw[e] at q1;exact q1)
 rw[e,Bool.true_and] at q
 walk_at "go"
 refine⟨t,rfl,⟨_,s1.tup hT⟩,?_⟩
 refine zaZ (zgG (s1.tup hT)) ((spots.map λs=>decide (l.getD s 0=0)).map D.bl) (by simp) (zaz (by simp;omega)) (λk x d H2 R hk hd s2 hx hR=>?_) (λv H2 s2 n2=>?_)
 ·rw[zgm] at hx
  obtain⟨sp,hsp,rfl⟩:=zme.mp hx
  rw[zgm,zgm,hsp] at hd
  cases hd
  have sl:sp<l.length:=by have:=hs sp (zmg hsp);omega
  walk_at "go"
  refine zbc ((s1.trans s2).seq hA) (v:=.int (l.getD sp 0)) (zaV (by simp[sl])) ?_
  walk_at "go"
  exact hR _ _ (Same.refl _) New.bl
 obtain⟨lb,rfl,lb0,lb1⟩:=New.bls n2
 walk_at "go"
 refine zjO (SqL.of lb1) ?_
 exact q _ (s1.trans s2)
inductive sp_lines_right (K:Fg) (vs:List V) (H:Hp) (Q:VK) (E:XK):Prop
 | mk (a t:Addr) (ls:List (List Int)) (spots:List Nat):vs=[.ref a,.ref t]→Rep K H (zaN ls) (.ref a)→SqT K H t (spots.map λ(s:Nat)=>V.int (s:Int))→ls.length≤1000→(∀ l∈ls,l.length=9)→spots.length≤9→(∀ s∈spots,s<9)→(∀ H',Same H H'→Q (.bl (zc0 spots ls)) H')→sp_lines_right K vs H Q E
theorem zf4 {f:Addr}{fd:FuncData}(B:Bl K mg) {C:Nat→Addr}(Z:Zt K mg C) (G_line_right:Fn P w K mg base "line_right" ["line","nought_spots"] 3 (sp_line_right K)) (F:Fun K "lines_right" "lines_right" s_lines_right f fd) (m:mg "lines_right"=some (.ref f)):Fn P w K mg base "lines_right" ["lines","nought_spots"] 4 (sp_lines_right K):=by
 refine Fn.of (k:=3) F zfX m (λ_ _ _ _ _ _ us hl=>match us,hl with | [_,_],_=>rfl) (λvs H Q E h=>?_) (λcdv A outer s H vs Q E hr h=>?_)
 ·first
  | (obtain⟨_,_,_,_,rfl,_⟩:=h;rfl)
 obtain⟨a,t,ls,spots,rfl,hA,hT,l1000,h9,ls9,hs,q⟩:=h
 refine⟨_,(zai (zar (zbw (zbB zjv (zaP (zdQ K) rfl B.len L2.boot_len (zae (pv 0) zad)) (zdh rfl B.c_MOST_LINES) (zau _)) (zb1 (zaP (zjP K rfl) rfl B.all L2.zdx (zdk (zbI rfl (CompOk.m (sc0:=zac s_lines_right) (N:=["lines","nought_spots"]) (N':=["lines","nought_spots","line"]) (ms:=[false,false,true])) (zbp K (pv 0)) (λ_ _ _ _ _=>(zay (i:=2) (ndS (N:=["lines","nought_spots","line"])) rfl (Or.inl rfl))) (λ_ _ _ _ _=>zaY) (λ_ _ _ _ _=>(zat G_line_right hr rfl (zae (pv 2) (zae (pv 1) zad))))) zad)))))),?_⟩
 unfold zaN Rep at hA
 obtain⟨a',xs,e,hA,hx⟩:=hA
 cases e
 have lx:=hx.length
 rw[zlm] at lx
 unfold zc0 at q
 walk_at "go"
 refine zdP (.inl hA) ?_
 walk_at "go"
 rw[←lx]
 refine zen (λe=>?_) (λe=>by have q1:=q _ (Same.refl _);rw[e] at q1;exact q1)
 rw[e,Bool.true_and] at q
 walk_at "go"
 refine⟨a,rfl,⟨_,hA⟩,?_⟩
 refine zaZ (zbg hA) ((ls.map (zbX spots)).map D.bl) (by simp;omega) (zaz (by omega)) (λk x d H1 R hk hd s1 hx' hR=>?_) (λv H1 s1 n1=>?_)
 ·obtain⟨d2,hd2,hrx⟩:=Reps.get' hx hx'
  rw[zgm] at hd2
  obtain⟨l,hl,rfl⟩:=zme.mp hd2
  rw[zgm,zgm,hl] at hd
  cases hd
  obtain⟨xa,rfl,hxa⟩:=zb4.mp (Rep.same s1 _ hrx)
  walk_at "go"
  refine⟨xa,t,l,spots,rfl,hxa,s1.tup hT,h9 l (zmg hl),ls9,hs,λH2 s2=>?_⟩
  exact hR _ _ s2 New.bl
 obtain⟨la,rfl,la0,la1⟩:=New.bls n1
 walk_at "go"
 refine zjO (SqL.of la1) ?_
 exact q _ s1
inductive sp_oath_right (K:Fg) (C:Nat→Addr) (vs:List V) (H:Hp) (Q:VK) (E:XK):Prop
 | mk (p:Addr) (needs leaves:List (List Int)) (ds:List D) (notes:List (List (List Int))):vs=[.ref p]→zbL K (C 7) H p needs leaves ds notes→needs.length≤1000→leaves.length≤1000→(∀ l∈needs,l.length=9)→(∀ l∈leaves,l.length=9)→(∀ H',Same H H'→Q (.bl (zgl needs leaves)) H')→sp_oath_right K C vs H Q E
theorem zgY {f:Addr}{fd:FuncData}(B:Bl K mg) {C:Nat→Addr}(Z:Zt K mg C) (G_lines_right:Fn P w K mg base "lines_right" ["lines","nought_spots"] 4 (sp_lines_right K)) (F:Fun K "oath_right" "oath_right" s_oath_right f fd) (m:mg "oath_right"=some (.ref f)):Fn P w K mg base "oath_right" ["craft"] 5 (sp_oath_right K C):=by
 refine Fn.of (k:=4) F zeb m (λ_ _ _ _ _ _ us hl=>match us,hl with | [_],_=>rfl) (λvs H Q E h=>?_) (λcdv A outer s H vs Q E hr h=>?_)
 ·first
  | (obtain⟨_,_,_,_,_,rfl,_⟩:=h;rfl)
 obtain⟨p,needs,leaves,ds,notes,rfl,hC,ln,ll,h9n,h9l,q⟩:=h
 obtain⟨gl,g_LEFT_SPOTS,hL⟩:=B.t_LEFT_SPOTS
 obtain⟨gh,g_HAND_SPOTS,hH⟩:=B.t_HAND_SPOTS
 have sp9:∀ s∈([1,2,3,4,7,8]:List Nat),s<9:=by decide
 have sp4:∀ s∈([1,2,3,4]:List Nat),s<9:=by decide
 refine⟨_,(zag (zaA (i:=1) zeb.nd rfl (Or.inl rfl) (zat G_lines_right hr rfl (zbl (zaD K (pv 0) rfl) (zaI (zao (zaM K) (zdj rfl g_HAND_SPOTS) (zdj rfl g_LEFT_SPOTS)) zad))))
   (zai (zar (zbw (pv 1) (zb1 (zat G_lines_right hr rfl (zbl (zaD K (pv 0) rfl) (zae (zdj rfl g_HAND_SPOTS) zad)))))))),?_⟩
 obtain⟨dx,w1,w2,w3,w4,hp,r1,r2,r3,r4⟩:=hC
 obtain⟨b1,rfl⟩:∃ b,w1=.ref b:=by unfold zaN Rep at r1;obtain⟨a,_,e,_⟩:=r1;exact⟨a,e⟩
 obtain⟨b2,rfl⟩:∃ b,w2=.ref b:=by unfold zaN Rep at r2;obtain⟨a,_,e,_⟩:=r2;exact⟨a,e⟩
 unfold zgl at q
 walk_at "go"
 refine⟨p,(C 7),dx,_,_,rfl,hp,Z.c_Craft,Z.n_Craft_needs,zcz _ _ _ _,?_⟩
 walk_at "go"
 refine zpw (hH _) (hL _) (by simp) (by simp) ((by walk_at "sm")) λt t0=>?_
 have s0:=zah t0 (.tup ([V.int 1,.int 2,.int 3,.int 4]++[V.int 7,.int 8]))
 walk_at "go"
 refine⟨b1,t,needs,[1,2,3,4,7,8],rfl,Rep.same s0 _ r1,.inl (.inl zaf),ln,h9n,by decide,sp9,λH1 s1=>?_⟩
 have s2:=s0.trans s1
 walk_at "go"
 refine zen (λe=>?_) (λe=>by have q1:=q _ s2;rw[e] at q1;exact q1)
 rw[e,Bool.true_and] at q
 walk_at "go"
 refine⟨p,(C 7),dx,_,_,rfl,s2 _ _ hp,Z.c_Craft,Z.n_Craft_leaves,zcl _ _ _ _,?_⟩
 walk_at "go"
 exact⟨b2,gh,leaves,[1,2,3,4],rfl,Rep.same s2 _ r2,hH _,ll,h9l,by decide,sp4,λH3 s3=>q _ (s2.trans s3)⟩
def zcd (K:Fg):Sp:=λvs H Q _=>∃ n:Int,vs=[.int n]∧Q (.bl (zbh n)) H
theorem zjq {H:Hp}{Q:VK}{E:XK}{n:Int}(q:Q (.bl (zbh n)) H):zcd K [.int n] H Q E:=⟨n,rfl,q⟩
theorem zgZ {f:Addr}{fd:FuncData}(B:Bl K mg) {C:Nat→Addr}(Z:Zt K mg C) (G_between:Fn P w K mg base "between" ["low","number","high"] 1 (sp_between K)) (F:Fun K "hand_right" "hand_right" s_hand_right f fd) (m:mg "hand_right"=some (.ref f)):Fn P w K mg base "hand_right" ["hand"] 2 (zcd K):=by
 refine Fn.of (k:=1) F zgV m (λ_ _ _ _ _ _ us hl=>match us,hl with | [_],_=>rfl) (λvs H Q E h=>?_) (λcdv A outer s H vs Q E hr h=>?_)
 ·first
  | (obtain⟨_,rfl,_⟩:=h;rfl)
 obtain⟨n,rfl,q⟩:=h
 refine⟨_,(zai (zar (zat G_between hr rfl (zab zaa (zae (pv 0) (zae (zdh rfl B.c_LAST_HAND) zad)))))),?_⟩
 walk_at "go"
 refine zcY ?_
 exact q
inductive sp_two_hands_right (K:Fg) (vs:List V) (H:Hp) (Q:VK) (E:XK):Prop
 | mk (a:Addr) (i j:Int):vs=[.ref a]→SqT K H a [.int i,.int j]→(∀ H',Same H H'→Q (.bl ([zbh i,zbh j].all id)) H')→sp_two_hands_right K vs H Q E
theorem zeh {f:Addr}{fd:FuncData}(B:Bl K mg) {C:Nat→Addr}(Z:Zt K mg C) (G_hand_right:Fn P w K mg base "hand_right" ["hand"] 2 (zcd K)) (F:Fun K "two_hands_right" "two_hands_right" s_two_hands_right f fd) (m:mg "two_hands_right"=some (.ref f)):Fn P w K mg base "two_hands_right" ["hands"] 3 (sp_two_hands_right K):=by
 refine Fn.of (k:=2) F zef m (λ_ _ _ _ _ _ us hl=>match us,hl with | [_],_=>rfl) (λvs H Q E h=>?_) (λcdv A outer s H vs Q E hr h=>?_)
 ·first
  | (obtain⟨_,_,_,rfl,_⟩:=h;rfl)
 obtain⟨a,i,j,rfl,hA,q⟩:=h
 refine⟨_,(zai (zar (zbw (zbB (k_eq K hr) (zaP (zdQ K) rfl B.len L2.boot_len (zae (pv 0) zad)) zaa (zau _)) (zb1 (zaP (zjP K rfl) rfl B.all L2.zdx (zdk (zbI rfl (CompOk.m (sc0:=zac s_two_hands_right) (N:=["hands"]) (N':=["hands","hand"]) (ms:=[false,true])) (zi4 K (pv 0)) (λ_ _ _ _ _=>(zay (i:=1) (ndS (N:=["hands","hand"])) rfl (Or.inl rfl))) (λ_ _ _ _ _=>zaY) (λ_ _ _ _ _=>(zat G_hand_right hr rfl (zae (pv 1) zad)))) zad)))))),?_⟩
 walk_at "go"
 refine zdP (.inr hA) ?_
 walk_at "go"
 rw[show decide ((([V.int i,.int j].length:Nat):Int)=2)=true from rfl]
 walk_at "go"
 refine⟨a,rfl,⟨_,hA⟩,?_⟩
 refine zaZ (zgG hA) ([zbh i,zbh j].map D.bl) rfl ((by walk_at "sm")) (λk x d H1 R hk hd s1 hx hR=>?_) (λv H1 s1 n1=>?_)
 ·have hx':([i,j].map V.int)[k]?=some x:=hx
  have hd':([i,j].map λz=>D.bl (zbh z))[k]?=some d:=hd
  rw[zgm] at hx' hd'
  obtain⟨y,hy,rfl⟩:=zme.mp hx'
  rw[hy] at hd'
  cases hd'
  walk_at "go"
  refine zjq ?_
  exact hR _ _ (Same.refl _) New.bl
 obtain⟨la,rfl,la0,la1⟩:=New.bls n1
 walk_at "go"
 refine zjO (SqL.of la1) ?_
 exact q _ s1
inductive sp_call_right (K:Fg) (vs:List V) (H:Hp) (Q:VK) (E:XK):Prop
 | mk (m:Int) (a b:Addr) (g0 g1 t0 t1:Int):vs=[.int m,.ref a,.ref b]→SqT K H a [.int g0,.int g1]→SqT K H b [.int t0,.int t1]→(∀ H',Same H H'→Q (.bl (([zbh g0,zbh g1].all id && [zbh t0,zbh t1].all id) && (btw 0 m 99 && !decide (t0=t1)))) H')→sp_call_right K vs H Q E
theorem zg0 {f:Addr}{fd:FuncData}(B:Bl K mg) {C:Nat→Addr}(Z:Zt K mg C) (G_two_hands_right:Fn P w K mg base "two_hands_right" ["hands"] 3 (sp_two_hands_right K)) (G_between:Fn P w K mg base "between" ["low","number","high"] 1 (sp_between K)) (F:Fun K "call_right" "call_right" s_call_right f fd) (m:mg "call_right"=some (.ref f)):Fn P w K mg base "call_right" ["number","given","taken"] 4 (sp_call_right K):=by
 refine Fn.of (k:=3) F zee m (λ_ _ _ _ _ _ us hl=>match us,hl with | [_,_,_],_=>rfl) (λvs H Q E h=>?_) (λcdv A outer s H vs Q E hr h=>?_)
 ·first
  | (obtain⟨_,_,_,_,_,_,_,rfl,_⟩:=h;rfl)
 obtain⟨m,a,b,g0,g1,t0,t1,rfl,hA,hB,q⟩:=h
 refine⟨_,(zag (zaA (i:=3) zee.nd rfl (Or.inl rfl) (zbw (zat G_two_hands_right hr rfl (zae (pv 1) zad)) (zb1 (zat G_two_hands_right hr rfl (zae (pv 2) zad)))))
   (zai (zar (zbw (pv 3) (zbw (zat G_between hr rfl (zab zaa (zae (pv 0) (zae (zdh rfl B.c_LAST_NUMBER) zad)))) (zb1 (zbB (k_ne K hr) (zaB (k_ix K) (pv 2) zaa (λ_ _=>rfl)) (zaB (k_ix K) (pv 2) zaa (λ_ _=>rfl)) (zau _)))))))),?_⟩
 generalize eg:[zbh g0,zbh g1].all id=bg at q
 generalize et:[zbh t0,zbh t1].all id=bt at q
 walk_at "go"
 refine⟨a,g0,g1,rfl,hA,λH1 s1=>?_⟩
 rw[eg]
 -- hands=.. and ..
 refine zcT (λe=>?_) (λe=>?_)
 ·subst e
  walk_at "go"
  refine⟨b,t0,t1,rfl,s1.tup hB,λH2 s2=>?_⟩
  rw[et]
  walk_at "go"
  have s3:=s1.trans s2
  rw[Bool.true_and] at q
  refine zen (λe=>?_) (λe=>by have q1:=q _ s3;rw[e] at q1;exact q1)
  rw[e,Bool.true_and] at q
  walk_at "go"
  refine zcY ?_
  refine zcT (λe=>?_) (λe=>by have q1:=q _ s3;unfold btw at q1;rw[e] at q1;exact q1)
  unfold btw at q
  rw[e,Bool.true_and] at q
  walk_at "go"
  refine za7 (s3.tup hB) (v:=.int t0) rfl ?_
  walk_at "go"
  refine za7 (s3.tup hB) (v:=.int t1) rfl ?_
  walk_at "go"
  exact q _ s3
 ·subst e
  walk_at "go"
  exact q _ s1
inductive sp_range_right (K:Fg) (vs:List V) (H:Hp) (Q:VK) (E:XK):Prop
 | mk (lo hi:Int):vs=[.int lo,.int hi]→Q (.bl (zcx lo && (zcx hi && decide (lo≤hi)))) H→sp_range_right K vs H Q E
theorem zf5 {f:Addr}{fd:FuncData}(B:Bl K mg) {C:Nat→Addr}(Z:Zt K mg C) (G_small_enough:Fn P w K mg base "small_enough" ["number"] 2 (zbR K)) (F:Fun K "range_right" "range_right" s_range_right f fd) (m:mg "range_right"=some (.ref f)):Fn P w K mg base "range_right" ["low","high"] 3 (sp_range_right K):=by
 refine Fn.of (k:=2) F zfY m (λ_ _ _ _ _ _ us hl=>match us,hl with | [_,_],_=>rfl) (λvs H Q E h=>?_) (λcdv A outer s H vs Q E hr h=>?_)
 ·first
  | (obtain⟨_,_,rfl,_⟩:=h;rfl)
 obtain⟨lo,hi,rfl,q⟩:=h
 refine⟨_,(zai (zar (zbw (zat G_small_enough hr rfl (zae (pv 0) zad)) (zbw (zat G_small_enough hr rfl (zae (pv 1) zad)) (zb1 (zbB zjv (pv 0) (pv 1) (zau _))))))),?_⟩
 walk_at "go"
 refine ziJ ?_
 refine zcT (λe=>?_) (λe=>by rw[e] at q;exact q)
 rw[e,Bool.true_and] at q
 walk_at "go"
 refine ziJ ?_
 refine zcT (λe=>?_) (λe=>by rw[e] at q;exact q)
 rw[e,Bool.true_and] at q
 walk_at "go"
 exact q
inductive sp_deed_right (K:Fg) (vs:List V) (H:Hp) (Q:VK) (E:XK):Prop
 | mk (v:V) (n:Int) (d:Dd):vs=[v,.int n]→Rep K H (toD d) v→zcs d→(∀ H',Same H H'→Q (.bl (zaO n d)) H')→sp_deed_right K vs H Q E
theorem zaR {K:Fg}{H:Hp}{d:D}{ds:List D}{xs:List V}(h:Reps K H (d::ds) xs):∃ v r,xs=v::r∧Rep K H d v∧Reps K H ds r:=by unfold Reps at h;exact h
theorem zc5 {K:Fg}{H:Hp}{xs:List V}(h:Reps K H [] xs):xs=[]:=by unfold Reps at h;exact h
theorem zcQ {K:Fg}{H:Hp}{i:Int}{v:V}(h:Rep K H (.int i) v):v=.int i:=by unfold Rep at h;exact h
theorem zew {K:Fg}{H:Hp}{i:Str}{v:V}(h:Rep K H (.str i) v):v=.str i:=by unfold Rep at h;exact h
theorem zjr {K:Fg}{H:Hp}{i j:Int}{v:V}(h:Rep K H (.tup [.int i,.int j]) v):∃ a,v=.ref a∧SqT K H a [.int i,.int j]:=by
 obtain⟨a,xs,rfl,h1,h2⟩:=zdR h
 obtain⟨v1,r1,rfl,e1,h2⟩:=zaR h2
 obtain⟨v2,r2,rfl,e2,h2⟩:=zaR h2
 cases zc5 h2;cases zcQ e1;cases zcQ e2
 exact⟨a,rfl,h1⟩
theorem zom:decide (("part" : Str) ="set")=false:=by decide +kernel
theorem zlH:decide (("draw" : Str) ="set")=false∧decide (("draw" : Str) ="part")=false:=by decide +kernel
theorem ziK:decide (("turn" : Str) ="set")=false∧decide (("turn" : Str) ="part")=false∧decide (("turn" : Str) ="draw")=false:=by decide +kernel
theorem zg1:decide (("hold" : Str) ="set")=false∧decide (("hold" : Str) ="part")=false∧decide (("hold" : Str) ="draw")=false∧decide (("hold" : Str) ="turn")=false:=by decide +kernel
theorem zfO:decide (("call" : Str) ="set")=false∧decide (("call" : Str) ="part")=false∧decide (("call" : Str) ="draw")=false∧decide (("call" : Str) ="turn")=false∧decide (("call" : Str) ="hold")=false:=by decide +kernel
theorem zg2 {f:Addr}{fd:FuncData}(B:Bl K mg) {C:Nat→Addr}(Z:Zt K mg C) (G_call_right:Fn P w K mg base "call_right" ["number","given","taken"] 4 (sp_call_right K)) (G_line_right:Fn P w K mg base "line_right" ["line","nought_spots"] 3 (sp_line_right K)) (G_hand_right:Fn P w K mg base "hand_right" ["hand"] 2 (zcd K)) (G_between:Fn P w K mg base "between" ["low","number","high"] 1 (sp_between K)) (G_range_right:Fn P w K mg base "range_right" ["low","high"] 3 (sp_range_right K)) (F:Fun K "deed_right" "deed_right" s_deed_right f fd) (m:mg "deed_right"=some (.ref f)):Fn P w K mg base "deed_right" ["deed","last_place"] 5 (sp_deed_right K):=by
 refine Fn.of (k:=4) F zed m (λ_ _ _ _ _ _ us hl=>match us,hl with | [_,_],_=>rfl) (λvs H Q E h=>?_) (λcdv A outer s H vs Q E hr h=>?_)
 ·first
  | (obtain⟨_,_,_,rfl,_⟩:=h;rfl)
 obtain⟨v,n,d,rfl,hR,h9,q⟩:=h
 obtain⟨gl,g_LEFT_SPOTS,hL⟩:=B.t_LEFT_SPOTS
 refine⟨_,(zag (zaA (i:=2) zed.nd rfl (Or.inl rfl) (zaB (k_ix K) (pv 0) zaa (λ_ _=>rfl)))
   (zag (zaW (zas (k_eq K hr) (pv 2) zaJ (zau _)) (zai (zar (zbw (zat G_hand_right hr rfl (zaE (zaB (k_ix K) (pv 0) zaa (λ_ _=>rfl)) zad)) (zb1 (zat G_line_right hr rfl (zaE (zaB (k_ix K) (pv 0) zaa (λ_ _=>rfl)) (zae (zdj rfl g_LEFT_SPOTS) zad))))))) zav)
   (zag (zaW (zas (k_eq K hr) (pv 2) zaJ (zau _)) (zai (zar (zbw (zat G_hand_right hr rfl (zaE (zaB (k_ix K) (pv 0) zaa (λ_ _=>rfl)) zad)) (zbw (zat G_line_right hr rfl (zaE (zaB (k_ix K) (pv 0) zaa (λ_ _=>rfl)) (zae (zdj rfl g_LEFT_SPOTS) zad))) (zb1 (zat G_between hr rfl (zab zaa (zaE (zaB (k_ix K) (pv 0) zaa (λ_ _=>rfl)) (zae (zdh rfl B.c_GREATEST_BY) zad))))))))) zav)
   (zag (zaW (zas (k_eq K hr) (pv 2) zaJ (zau _)) (zai (zar (zbw (zat G_hand_right hr rfl (zaE (zaB (k_ix K) (pv 0) zaa (λ_ _=>rfl)) zad)) (zb1 (zat G_range_right hr rfl (zaE (zaB (k_ix K) (pv 0) zaa (λ_ _=>rfl)) (zaE (zaB (k_ix K) (pv 0) zaa (λ_ _=>rfl)) zad))))))) zav)
   (zag (zaW (zas (k_eq K hr) (pv 2) zaJ (zau _)) (zai (zar (zbw (zat G_line_right hr rfl (zaE (zaB (k_ix K) (pv 0) zaa (λ_ _=>rfl)) (zae (zdj rfl g_LEFT_SPOTS) zad))) (zb1 (zat G_between hr rfl (zab zaa (zaE (zaB (k_ix K) (pv 0) zaa (λ_ _=>rfl)) (zae (pv 1) zad)))))))) zav)
   (zag (zaW (zas (k_eq K hr) (pv 2) zaJ (zau _)) (zai (zar (zat G_line_right hr rfl (zaE (zaB (k_ix K) (pv 0) zaa (λ_ _=>rfl)) (zae (zdj rfl g_LEFT_SPOTS) zad))))) zav)
   (zai (zar (zat G_call_right hr rfl (zaE (zaB (k_ix K) (pv 0) zaa (λ_ _=>rfl)) (zaE (zaB (k_ix K) (pv 0) zaa (λ_ _=>rfl)) (zaE (zaB (k_ix K) (pv 0) zaa (λ_ _=>rfl)) zad)))))))))))),?_⟩
 have sp9:∀ s∈([7,8]:List Nat),s<9:=by decide
 cases d with
 | set hd l=>
  obtain⟨a,xs,rfl,hA,hx⟩:=zdR hR
  obtain⟨v1,r1,rfl,e1,hx⟩:=zaR hx
  obtain⟨v2,r2,rfl,e2,hx⟩:=zaR hx
  obtain⟨v3,r3,rfl,e3,hx⟩:=zaR hx
  cases zc5 hx;cases zew e1;cases zcQ e2
  obtain⟨la,rfl,hla⟩:=zb4.mp e3
  walk_at "go"
  refine za7 hA (v:=.str "set") rfl ?_
  walk_at "go"
  rw[decide_eq_true rfl]
  walk_at "go"
  refine za7 hA (v:=.int hd) rfl ?_
  walk_at "go"
  refine zjq ?_
  show ∃ c,V.bl (zbh hd)=.bl c∧_
  simp only[zaO] at q
  refine zcT (λe=>?_) (λe=>by have q1:=q _ (Same.refl _);rw[e] at q1;exact q1)
  rw[e,Bool.true_and] at q
  walk_at "go"
  refine za7 hA (v:=.ref la) rfl ?_
  walk_at "go"
  exact⟨la,gl,l,[7,8],rfl,hla,hL _,h9,by decide,sp9,λH1 s1=>q _ s1⟩
 | part hd l b=>
  obtain⟨a,xs,rfl,hA,hx⟩:=zdR hR
  obtain⟨v1,r1,rfl,e1,hx⟩:=zaR hx
  obtain⟨v2,r2,rfl,e2,hx⟩:=zaR hx
  obtain⟨v3,r3,rfl,e3,hx⟩:=zaR hx
  obtain⟨v4,r4,rfl,e4,hx⟩:=zaR hx
  cases zc5 hx;cases zew e1;cases zcQ e2;cases zcQ e4
  obtain⟨la,rfl,hla⟩:=zb4.mp e3
  walk_at "go"
  refine za7 hA (v:=.str "part") rfl ?_
  walk_at "go"
  rw[zom]
  walk_at "go"
  rw[decide_eq_true rfl]
  walk_at "go"
  refine za7 hA (v:=.int hd) rfl ?_
  walk_at "go"
  refine zjq ?_
  show ∃ c,V.bl (zbh hd)=.bl c∧_
  simp only[zaO] at q
  refine zcT (λe=>?_) (λe=>by have q1:=q _ (Same.refl _);rw[e] at q1;exact q1)
  rw[e,Bool.true_and] at q
  walk_at "go"
  refine za7 hA (v:=.ref la) rfl ?_
  walk_at "go"
  refine⟨la,gl,l,[7,8],rfl,hla,hL _,h9,by decide,sp9,λH1 s1=>?_⟩
  refine zcT (λe=>?_) (λe=>by have q1:=q _ s1;rw[e] at q1;exact q1)
  rw[e,Bool.true_and] at q
  walk_at "go"
  refine za7 (s1.tup hA) (v:=.int b) rfl ?_
  walk_at "go"
  refine zcY ?_
  exact q _ s1
 | draw hd lo hi=>
  obtain⟨a,xs,rfl,hA,hx⟩:=zdR hR
  obtain⟨v1,r1,rfl,e1,hx⟩:=zaR hx
  obtain⟨v2,r2,rfl,e2,hx⟩:=zaR hx
  obtain⟨v3,r3,rfl,e3,hx⟩:=zaR hx
  obtain⟨v4,r4,rfl,e4,hx⟩:=zaR hx
  cases zc5 hx;cases zew e1;cases zcQ e2;cases zcQ e3;cases zcQ e4
  walk_at "go"
  refine za7 hA (v:=.str "draw") rfl ?_
  walk_at "go"
  rw[zlH.1]
  walk_at "go"
  rw[zlH.2]
  walk_at "go"
  rw[decide_eq_true rfl]
  walk_at "go"
  refine za7 hA (v:=.int hd) rfl ?_
  walk_at "go"
  refine zjq ?_
  show ∃ c,V.bl (zbh hd)=.bl c∧_
  simp only[zaO] at q
  refine zcT (λe=>?_) (λe=>by have q1:=q _ (Same.refl _);rw[e] at q1;exact q1)
  rw[e,Bool.true_and] at q
  walk_at "go"
  refine za7 hA (v:=.int lo) rfl ?_
  walk_at "go"
  refine za7 hA (v:=.int hi) rfl ?_
  walk_at "go"
  exact⟨lo,hi,rfl,q _ (Same.refl _)⟩
 | turn l p=>
  obtain⟨a,xs,rfl,hA,hx⟩:=zdR hR
  obtain⟨v1,r1,rfl,e1,hx⟩:=zaR hx
  obtain⟨v2,r2,rfl,e2,hx⟩:=zaR hx
  obtain⟨v3,r3,rfl,e3,hx⟩:=zaR hx
  cases zc5 hx;cases zew e1;cases zcQ e3
  obtain⟨la,rfl,hla⟩:=zb4.mp e2
  walk_at "go"
  refine za7 hA (v:=.str "turn") rfl ?_
  walk_at "go"
  rw[ziK.1]
  walk_at "go"
  rw[ziK.2.1]
  walk_at "go"
  rw[ziK.2.2]
  walk_at "go"
  rw[decide_eq_true rfl]
  walk_at "go"
  refine za7 hA (v:=.ref la) rfl ?_
  walk_at "go"
  simp only[zaO] at q
  refine⟨la,gl,l,[7,8],rfl,hla,hL _,h9,by decide,sp9,λH1 s1=>?_⟩
  refine zcT (λe=>?_) (λe=>by have q1:=q _ s1;rw[e] at q1;exact q1)
  rw[e,Bool.true_and] at q
  walk_at "go"
  refine za7 (s1.tup hA) (v:=.int p) rfl ?_
  walk_at "go"
  refine zcY ?_
  exact q _ s1
 | hold l=>
  obtain⟨a,xs,rfl,hA,hx⟩:=zdR hR
  obtain⟨v1,r1,rfl,e1,hx⟩:=zaR hx
  obtain⟨v2,r2,rfl,e2,hx⟩:=zaR hx
  cases zc5 hx;cases zew e1
  obtain⟨la,rfl,hla⟩:=zb4.mp e2
  walk_at "go"
  refine za7 hA (v:=.str "hold") rfl ?_
  walk_at "go"
  rw[zg1.1]
  walk_at "go"
  rw[zg1.2.1]
  walk_at "go"
  rw[zg1.2.2.1]
  walk_at "go"
  rw[zg1.2.2.2]
  walk_at "go"
  rw[decide_eq_true rfl]
  walk_at "go"
  refine za7 hA (v:=.ref la) rfl ?_
  walk_at "go"
  exact⟨la,gl,l,[7,8],rfl,hla,hL _,h9,by decide,sp9,λH1 s1=>q _ s1⟩
 | call m g0 g1 t0 t1=>
  obtain⟨a,xs,rfl,hA,hx⟩:=zdR hR
  obtain⟨v1,r1,rfl,e1,hx⟩:=zaR hx
  obtain⟨v2,r2,rfl,e2,hx⟩:=zaR hx
  obtain⟨v3,r3,rfl,e3,hx⟩:=zaR hx
  obtain⟨v4,r4,rfl,e4,hx⟩:=zaR hx
  cases zc5 hx;cases zew e1;cases zcQ e2
  obtain⟨ga,rfl,hga⟩:=zjr e3
  obtain⟨ta,rfl,hta⟩:=zjr e4
  walk_at "go"
  refine za7 hA (v:=.str "call") rfl ?_
  walk_at "go"
  rw[zfO.1]
  walk_at "go"
  rw[zfO.2.1]
  walk_at "go"
  rw[zfO.2.2.1]
  walk_at "go"
  rw[zfO.2.2.2.1]
  walk_at "go"
  rw[zfO.2.2.2.2]
  walk_at "go"
  refine za7 hA (v:=.int m) rfl ?_
  walk_at "go"
  refine za7 hA (v:=.ref ga) rfl ?_
  walk_at "go"
  refine za7 hA (v:=.ref ta) rfl ?_
  walk_at "go"
  exact⟨m,ga,ta,g0,g1,t0,t1,rfl,hga,hta,λH1 s1=>q _ s1⟩
inductive sp_deeds_right (K:Fg) (vs:List V) (H:Hp) (Q:VK) (E:XK):Prop
 | mk (a:Addr) (ds:List Dd):vs=[.ref a]→Rep K H (.lst (ds.map toD)) (.ref a)→ds.length≤1000→(∀ d∈ds,zcs d)→(∀ H',Same H H'→Q (.bl (zdT ds)) H')→sp_deeds_right K vs H Q E
theorem zf6 {f:Addr}{fd:FuncData}(B:Bl K mg) {C:Nat→Addr}(Z:Zt K mg C) (G_between:Fn P w K mg base "between" ["low","number","high"] 1 (sp_between K)) (G_deed_right:Fn P w K mg base "deed_right" ["deed","last_place"] 5 (sp_deed_right K)) (F:Fun K "deeds_right" "deeds_right" s_deeds_right f fd) (m:mg "deeds_right"=some (.ref f)):Fn P w K mg base "deeds_right" ["deeds"] 6 (sp_deeds_right K):=by
 refine Fn.of (k:=5) F zdL m (λ_ _ _ _ _ _ us hl=>match us,hl with | [_],_=>rfl) (λvs H Q E h=>?_) (λcdv A outer s H vs Q E hr h=>?_)
 ·first
  | (obtain⟨_,_,rfl,_⟩:=h;rfl)
 obtain⟨a,ds,rfl,hA,l1000,h9,q⟩:=h
 refine⟨_,(zag (zaA (i:=1) zdL.nd rfl (Or.inr rfl) (zaP (zdQ K) rfl B.len L2.boot_len (zae (pv 0) zad)))
   (zai (zar (zbw (zat G_between hr rfl (zab zaa (zae (pv 1) (zae (zdh rfl B.c_MOST_DEEDS) zad)))) (zb1 (zaP (zjP K rfl) rfl B.all L2.zdx (zdk (zbI rfl (CompOk.m (sc0:=zac s_deeds_right) (N:=["deeds","count"]) (N':=["deeds","count","deed"]) (ms:=[false,false,true])) (zbp K (pv 0)) (λ_ _ _ _ _=>(zay (i:=2) (ndS (N:=["deeds","count","deed"])) rfl (Or.inl rfl))) (λ_ _ _ _ _=>zaY) (λ_ _ _ _ _=>(zat G_deed_right hr rfl (zae (pv 2) (zae (pv 1) zad))))) zad))))))),?_⟩
 unfold Rep at hA
 obtain⟨a',xs,e,hA,hx⟩:=hA
 cases e
 have lx:=hx.length
 rw[zlm] at lx
 unfold zdT btw at q
 walk_at "go"
 refine zdP (.inl hA) ?_
 rw[←lx]
 walk_at "go"
 refine zcY ?_
 refine zcT (λe=>?_) (λe=>by have q1:=q _ (Same.refl _);rw[e] at q1;exact q1)
 rw[e,Bool.true_and] at q
 walk_at "go"
 refine⟨a,rfl,⟨_,hA⟩,?_⟩
 refine zaZ (zbg hA) ((ds.map (zaO (ds.length:Int))).map D.bl) (by simp;omega) (zaz (by omega)) (λk x d H1 R hk hd s1 hx' hR=>?_) (λv H1 s1 n1=>?_)
 ·obtain⟨d2,hd2,hrx⟩:=Reps.get' hx hx'
  rw[zgm] at hd2
  obtain⟨l,hl,rfl⟩:=zme.mp hd2
  rw[zgm,zgm,hl] at hd
  cases hd
  walk_at "go"
  refine⟨_,_,l,rfl,Rep.same s1 _ hrx,h9 l (zmg hl),λH2 s2=>?_⟩
  exact hR _ _ s2 New.bl
 obtain⟨la,rfl,la0,la1⟩:=New.bls n1
 walk_at "go"
 refine zjO (SqL.of la1) ?_
 exact q _ s1
inductive sp_notes_right (K:Fg) (C:Nat→Addr) (vs:List V) (H:Hp) (Q:VK) (E:XK):Prop
 | mk (p:Addr) (needs leaves:List (List Int)) (ds:List Dd) (notes:List (List (List Int))):vs=[.ref p]→zbL K (C 7) H p needs leaves (ds.map toD) notes→notes.length≤1000→(∀ ls∈notes,ls.length≤1000∧∀ l∈ls,l.length=9)→(∀ H',Same H H'→Q (.bl (zdU ds notes)) H')→sp_notes_right K C vs H Q E
theorem zf7 {f:Addr}{fd:FuncData}(B:Bl K mg) {C:Nat→Addr}(Z:Zt K mg C) (G_lines_right:Fn P w K mg base "lines_right" ["lines","nought_spots"] 4 (sp_lines_right K)) (F:Fun K "notes_right" "notes_right" s_notes_right f fd) (m:mg "notes_right"=some (.ref f)):Fn P w K mg base "notes_right" ["craft"] 5 (sp_notes_right K C):=by
 refine Fn.of (k:=4) F zdM m (λ_ _ _ _ _ _ us hl=>match us,hl with | [_],_=>rfl) (λvs H Q E h=>?_) (λcdv A outer s H vs Q E hr h=>?_)
 ·first
  | (obtain⟨_,_,_,_,_,rfl,_⟩:=h;rfl)
 obtain⟨p,needs,leaves,ds,notes,rfl,hC,l1000,h9,q⟩:=h
 obtain⟨gl,g_LEFT_SPOTS,hL⟩:=B.t_LEFT_SPOTS
 have sp9:∀ s∈([7,8]:List Nat),s<9:=by decide
 refine⟨_,(zag (zaA (i:=1) zdM.nd rfl (Or.inl rfl) (zbB (k_eq K hr) (zaP (zdQ K) rfl B.len L2.boot_len (zbl (zaD K (pv 0) rfl) zad)) (zaP (zdQ K) rfl B.len L2.boot_len (zbl (zaD K (pv 0) rfl) zad)) (zau _)))
   (zai (zar (zbw (pv 1) (zb1 (zaP (zjP K rfl) rfl B.all L2.zdx (zdk (zbI rfl (CompOk.m (sc0:=zac s_notes_right) (N:=["craft","as_many"]) (N':=["craft","as_many","lines"]) (ms:=[false,false,true])) (zbp K (zaD K (pv 0) rfl)) (λ_ _ _ _ _=>(zay (i:=2) (ndS (N:=["craft","as_many","lines"])) rfl (Or.inl rfl))) (λ_ _ _ _ _=>zaY) (λ_ _ _ _ _=>(zat G_lines_right hr rfl (zae (pv 2) (zae (zdj rfl g_LEFT_SPOTS) zad))))) zad))))))),?_⟩
 obtain⟨dx,w1,w2,w3,w4,hp,r1,r2,r3,r4⟩:=hC
 unfold Rep at r3 r4
 obtain⟨b3,xs3,rfl,q3,z3⟩:=r3
 obtain⟨b4,xs4,rfl,q4,z4⟩:=r4
 have m3:=z3.length
 have m4:=z4.length
 rw[zlm] at m3 m4
 unfold zdU at q
 walk_at "go"
 refine⟨p,(C 7),dx,_,_,rfl,hp,Z.c_Craft,Z.n_Craft_notes,zdy _ _ _ _,?_⟩
 walk_at "go"
 refine zdP (.inl q4) ?_
 walk_at "go"
 refine⟨p,(C 7),dx,_,_,rfl,hp,Z.c_Craft,Z.n_Craft_deeds,zca _ _ _ _,?_⟩
 walk_at "go"
 refine zdP (.inl q3) ?_
 rw[←m3,←m4]
 walk_at "go"
 refine zen (λe=>?_) (λe=>by have q1:=q _ (Same.refl _);rw[e] at q1;exact q1)
 rw[e,Bool.true_and] at q
 walk_at "go"
 refine⟨p,(C 7),dx,_,_,rfl,hp,Z.c_Craft,Z.n_Craft_notes,zdy _ _ _ _,?_⟩
 refine⟨b4,rfl,⟨_,q4⟩,?_⟩
 refine zaZ (zbg q4) ((notes.map (zc0 [7,8])).map D.bl) (by simp;omega) (zaz (by omega)) (λk x d H1 R hk hd s1 hx' hR=>?_) (λv H1 s1 n1=>?_)
 ·obtain⟨d2,hd2,hrx⟩:=Reps.get' z4 hx'
  rw[zgm] at hd2
  obtain⟨l,hl,rfl⟩:=zme.mp hd2
  rw[zgm,zgm,hl] at hd
  cases hd
  have hr':=Rep.same s1 _ hrx
  obtain⟨xa,rfl⟩:∃ b,x=.ref b:=by unfold zaN Rep at hrx;obtain⟨a,_,e,_⟩:=hrx;exact⟨a,e⟩
  have h9':=h9 l (zmg hl)
  walk_at "go"
  refine⟨xa,gl,l,[7,8],rfl,hr',hL _,h9'.1,h9'.2,by decide,sp9,λH2 s2=>?_⟩
  exact hR _ _ s2 New.bl
 obtain⟨la,rfl,la0,la1⟩:=New.bls n1
 walk_at "go"
 refine zjO (SqL.of la1) ?_
 exact q _ s1
inductive sp_right (K:Fg) (C:Nat→Addr) (vs:List V) (H:Hp) (Q:VK) (E:XK):Prop
 | mk (p:Addr) (needs leaves:List (List Int)) (ds:List Dd) (notes:List (List (List Int))):vs=[.ref p]→zbL K (C 7) H p needs leaves (ds.map toD) notes→needs.length≤1000→leaves.length≤1000→ds.length≤1000→notes.length≤1000→(∀ l∈needs,l.length=9)→(∀ l∈leaves,l.length=9)→(∀ d∈ds,zcs d)→(∀ ls∈notes,ls.length≤1000∧∀ l∈ls,l.length=9)→(∀ H',Same H H'→Q (.bl (zcV needs leaves ds notes)) H')→sp_right K C vs H Q E
theorem zmS {f:Addr}{fd:FuncData}(B:Bl K mg) {C:Nat→Addr}(Z:Zt K mg C) (G_oath_right:Fn P w K mg base "oath_right" ["craft"] 5 (sp_oath_right K C)) (G_deeds_right:Fn P w K mg base "deeds_right" ["deeds"] 6 (sp_deeds_right K)) (G_notes_right:Fn P w K mg base "notes_right" ["craft"] 5 (sp_notes_right K C)) (F:Fun K "right" "right" s_right f fd) (m:mg "right"=some (.ref f)):Fn P w K mg base "right" ["craft"] 7 (sp_right K C):=by
 refine Fn.of (k:=6) F zmK m (λ_ _ _ _ _ _ us hl=>match us,hl with | [_],_=>rfl) (λvs H Q E h=>?_) (λcdv A outer s H vs Q E hr h=>?_)
 ·first
  | (obtain⟨_,_,_,_,_,rfl,_⟩:=h;rfl)
 obtain⟨p,needs,leaves,ds,notes,rfl,hC,ln,ll,ld,lo,h9n,h9l,h9d,h9o,q⟩:=h
 refine⟨_,(zai (zar (zbw (zat G_oath_right hr rfl (zae (pv 0) zad)) (zbw (zat G_deeds_right hr rfl (zbl (zaD K (pv 0) rfl) zad)) (zb1 (zat G_notes_right hr rfl (zae (pv 0) zad))))))),?_⟩
 unfold zcV at q
 walk_at "go"
 refine⟨p,needs,leaves,_,notes,rfl,hC,ln,ll,h9n,h9l,λH1 s1=>?_⟩
 refine zcT (λe=>?_) (λe=>by have q1:=q _ s1;rw[e] at q1;exact q1)
 rw[e,Bool.true_and] at q
 walk_at "go"
 obtain⟨dx,w1,w2,w3,w4,hp,r1,r2,r3,r4⟩:=zbL.same s1 hC
 obtain⟨b3,rfl⟩:∃ b,w3=.ref b:=by unfold Rep at r3;obtain⟨a,_,e,_⟩:=r3;exact⟨a,e⟩
 refine⟨p,(C 7),dx,_,_,rfl,hp,Z.c_Craft,Z.n_Craft_deeds,zca _ _ _ _,?_⟩
 walk_at "go"
 refine⟨b3,ds,rfl,r3,ld,h9d,λH2 s2=>?_⟩
 have s3:=s1.trans s2
 refine zcT (λe=>?_) (λe=>by have q1:=q _ s3;rw[e] at q1;exact q1)
 rw[e,Bool.true_and] at q
 walk_at "go"
 exact⟨p,needs,leaves,ds,notes,rfl,zbL.same s3 hC,lo,h9o,λH4 s4=>q _ (s3.trans s4)⟩
inductive sp_Hall___init__ (K:Fg) (C:Nat→Addr) (vs:List V) (H:Hp) (Q:VK) (E:XK):Prop
 | mk (ha dx:Addr):vs=[.ref ha]→H ha=some (.ins (C 8) dx [])→(∀ la va H',H la=none→H va=none→la≠va→OffA [ha] H H'→H' ha=some (.ins (C 8) dx (hfl la va))→H' la=some (.dK [])→H' va=some (.dK [])→Q .non H')→sp_Hall___init__ K C vs H Q E
theorem zon {f:Addr}{fd:FuncData}(B:Bl K mg) {C:Nat→Addr}(Z:Zt K mg C)  (F:Fun K "__init__" "Hall.__init__" s_Hall___init__ f fd) (M:Mk K (C 8) f):Mkr P w K mg base "Hall" (C 8) ["self"] 1 (sp_Hall___init__ K C):=by
 refine⟨f,fd,M,F.ok (k:=0) zeM (λvs H Q E h=>?_) (λcdv A outer s H vs Q E hr h=>?_),F.binds λ_ _ _ _ _ _ us hl=>match us,hl with | [_],_=>rfl,Z.m_Hall⟩
 ·first
  | (obtain⟨_,_,rfl,_⟩:=h;rfl)
 obtain⟨ha,dx,rfl,hh,q⟩:=h
 refine⟨_,(zag (zbq (pv 0) zgE rfl)
   (zai (zbq (pv 0) zgE rfl))),?_⟩
 walk_at "q"
 walk_at "gs"
 intro la la0
 have e1:(upd H la (.dK [])) ha=some (.ins (C 8) dx []):=by rw[zak (zam hh la0)];exact hh
 walk_at "gs"
 refine⟨ha,(C 8),dx,[],rfl,e1,Z.c_Hall,Z.n_Hall_laid,by show 0<1000;decide,?_⟩
 walk_at "gs"
 intro va va0
 have nha:va≠ha:=λz=>by rw[z,zaf] at va0;cases va0
 have nla:va≠la:=λz=>by rw[z,zak (zam hh la0).symm,zaf] at va0;cases va0
 have v0:H va=none:=by rw[zak nha,zak nla] at va0;exact va0
 walk_at "gs"
 refine⟨ha,(C 8),dx,_,rfl,by rw[zak nha.symm,zaf],Z.c_Hall,Z.n_Hall_vouched,Nat.lt_of_lt_of_le (za0 (n:=1) (by decide)) (by decide),?_⟩
 have nl:la≠ha:=(zam hh la0).symm
 refine q la va _ la0 v0 nla.symm (λb o n e=>?_) zaf ?_ ?_
 ·have n1:b≠ha:=λz=>n (by simp[z])
  rw[zak n1,zak (zam e v0),zak n1,zak (zam e la0)]
  exact e
 ·rw[zak nl,zak nla.symm,zak nl,zaf]
 ·rw[zak nha,zaf]
inductive sp_Hall_release (K:Fg) (C:Nat→Addr) (vs:List V) (H:Hp) (Q:VK) (E:XK):Prop
 | mk (ha la va:Addr) (n:Int) (ks:List Int) (cr:Int→Cr) (ws:List Int) (fp:List Addr):vs=[.ref ha,.int n]→HallAt (C 8) (C 7) H ha la va ks cr ws fp→(∀ H' ws',OffA [va] H H'→HallAt (C 8) (C 7) H' ha la va ks cr ws' fp→(∀ m,m∈ws'↔m∈ws∧m≠n)→Q .non H')→sp_Hall_release K C vs H Q E
theorem zfP {f:Addr}{fd:FuncData}(B:Bl K mg) {C:Nat→Addr}(Z:Zt K mg C)  (F:Fun K "release" "Hall.release" s_Hall_release f fd) (M:Meth K (C 8) "release" f):Mth CX0 P w K mg base (C 8) "release" ["self","number"] 1 (sp_Hall_release K C):=by
 refine⟨f,fd,M,F.ok (k:=0) zfH (λvs H Q E h=>?_) (λcdv A outer s H vs Q E hr h=>?_),F.binds λ_ _ _ _ _ _ us hl=>match us,hl with | [_,_],_=>rfl⟩
 ·first
  | (obtain⟨_,_,_,_,_,_,_,_,rfl,_⟩:=h;rfl)
 obtain⟨ha,la,va,n,ks,cr,ws,fp,rfl,hA,q⟩:=h
 refine⟨_,(zai (zaS (zl6 (zaD K (pv 0) rfl) (pv 1) zdC ⟨rfl,rfl,rfl,rfl⟩))),?_⟩
 obtain⟨dx,hh⟩:=hA.ins
 obtain⟨kvs,hva,hk⟩:=hA.vou
 walk_at "gs"
 refine⟨ha,(C 8),dx,_,_,rfl,hh,Z.c_Hall,Z.n_Hall_vouched,zgo _ _,?_⟩
 refine⟨va,rfl,.inl ⟨_,.inl hva⟩,?_⟩
 walk_at "gs"
 refine⟨kvs,.inl n,hva,rfl,λv hv=>?_,λhv=>?_⟩
 ·walk_at "gs"
  refine q _ _ (zbv (by simp)) (hA.putV hk.drop λm hm=>hA.sub m (List.mem_filter.mp hm).1) λm=>?_
  rw[List.mem_filter,decide_eq_true_eq]
 ·walk_at "gs"
  refine q _ ws (Same.refl _).offA hA λm=>⟨λhm=>⟨hm,λz=>?_⟩,λhm=>hm.1⟩
  subst z
  obtain⟨v,e,_⟩:=hk.2.2 m hm
  rw[e] at hv;cases hv
inductive sp_Hall_called_at (K:Fg) (C:Nat→Addr) (vs:List V) (H:Hp) (Q:VK) (E:XK):Prop
 | mk (ha la va:Addr) (n:Int) (ks:List Int) (cr:Int→Cr) (ws:List Int) (fp:List Addr):vs=[.ref ha,.int n]→HallAt (C 8) (C 7) H ha la va ks cr ws fp→(∀ v H',Same H H'→New H H' (nums (zdo ks cr n)) v→Q v H')→sp_Hall_called_at K C vs H Q E
theorem zex {f:Addr}{fd:FuncData}(B:Bl K mg) {C:Nat→Addr}(Z:Zt K mg C) (G_called_by:Fn P w K mg base "called_by" ["craft"] 1 (sp_called_by K C)) (F:Fun K "called_at" "Hall.called_at" s_Hall_called_at f fd) (M:Meth K (C 8) "called_at" f):Mth CX0 P w K mg base (C 8) "called_at" ["self","number"] 2 (sp_Hall_called_at K C):=by
 refine⟨f,fd,M,F.ok (k:=1) zet (λvs H Q E h=>?_) (λcdv A outer s H vs Q E hr h=>?_),F.binds λ_ _ _ _ _ _ us hl=>match us,hl with | [_,_],_=>rfl⟩
 ·first
  | (obtain⟨_,_,_,_,_,_,_,_,rfl,_⟩:=h;rfl)
 obtain⟨ha,la,va,n,ks,cr,ws,fp,rfl,hA,q⟩:=h
 refine⟨_,(zag (zaW (zg5 (zm1 (hr_u hr) (pv 1) (zaD K (pv 0) rfl))) (zai (zar (zat G_called_by hr rfl (zaE (zel (hr_u hr) (zaD K (pv 0) rfl) (pv 1) (λ_ _=>rfl)) zad)))) zav)
   (zai (zar (za6 zad)))),?_⟩
 obtain⟨dx,hh⟩:=hA.ins
 obtain⟨kvs,hla,hk⟩:=hA.laid
 unfold zdo at q
 walk_at "q"
 walk_at "gs"
 refine⟨ha,(C 8),dx,_,_,rfl,hh,Z.c_Hall,Z.n_Hall_laid,zc3 _ _,?_⟩
 refine⟨la,_,rfl,DGet.k (k:=.inl n) hla,?_⟩
 by_cases hm:n∈ks
 ·obtain⟨v,hv,p,f,rfl,hC,hf⟩:=hk.2.2 n hm
  rw[if_pos hm] at q
  have rt:=hA.rt n hm
  obtain⟨_,dx',w1,w2,b3,w4,dvs,hp,hb3,hD⟩:=hC.t (K:=K) rt.nine.d9
  rw[hv]
  walk_at "gs"
  refine zen (λ_=>?_) (λz=>by cases z)
  walk_at "gs"
  refine⟨ha,(C 8),dx,_,_,rfl,hh,Z.c_Hall,Z.n_Hall_laid,zc3 _ _,?_⟩
  walk_at "gs"
  refine⟨la,.ref p,rfl,by rw[←hv];exact DGet.k (k:=.inl n) hla,?_⟩
  walk_at "gs"
  exact⟨p,dx',b3,w1,w2,w4,dvs,(cr n).deeds,rfl,hp,hb3,hD,by have:=rt.nine.d;omega,q⟩
 ·rw[if_neg hm] at q
  rw[hk.no hm]
  walk_at "gs"
  refine zen (λz=>by cases z) (λ_=>?_)
  walk_at "gs"
  refine⟨(by walk_at "sm"),λp hp=>?_⟩
  exact q _ _ (zah hp _) (New.ints_iff.mpr ⟨p,rfl,hp,zaf⟩)
inductive sp_Hall_release_callers (K:Fg) (C:Nat→Addr) (vs:List V) (H:Hp) (Q:VK) (E:XK):Prop
 | mk (ha la va:Addr) (n:Int) (ks:List Int) (cr:Int→Cr) (ws:List Int) (fp:List Addr):vs=[.ref ha,.int n]→HallAt (C 8) (C 7) H ha la va ks cr ws fp→(∀ H' ws',OffA [va] H H'→HallAt (C 8) (C 7) H' ha la va ks cr ws' fp→(∀ m,m∈ws'↔m∈ws∧n∉zdo ks cr m)→Q .non H')→sp_Hall_release_callers K C vs H Q E
theorem zc6 {f:Addr}{fd:FuncData}(B:Bl K mg) {C:Nat→Addr}(Z:Zt K mg C) (G_Hall_called_at:Mth CX0 P w K mg base (C 8) "called_at" ["self","number"] 2 (sp_Hall_called_at K C)) (G_Hall_release:Mth CX0 P w K mg base (C 8) "release" ["self","number"] 1 (sp_Hall_release K C)) (F:Fun K "release_callers" "Hall.release_callers" s_Hall_release_callers f fd) (M:Meth K (C 8) "release_callers" f):Mth CX0 P w K mg base (C 8) "release_callers" ["self","number"] 3 (sp_Hall_release_callers K C):=by
 refine⟨f,fd,M,F.ok (k:=2) zbQ (λvs H Q E h=>?_) (λcdv A outer s H vs Q E hr h=>?_),F.binds λ_ _ _ _ _ _ us hl=>match us,hl with | [_,_],_=>rfl⟩
 ·first
  | (obtain⟨_,_,_,_,_,_,_,_,rfl,_⟩:=h;rfl)
 obtain⟨ha,la,va,n,ks,cr,ws,fp,rfl,hA,q⟩:=h
 refine⟨_,(zai (zdW PassesOwn.never rfl (zbp K (zbU (zjS rfl) rfl B.list L2.zbV (zbl (zaD K (pv 0) rfl) zad))) (zay (i:=2) zbQ.nd rfl (Or.inl rfl)) (zai (zaW (zas (k_in K) (pv 1) (za1 G_Hall_called_at Z.c_Hall hr za2 (pv 0) (zae (pv 2) zad)) rfl) (zai (zaS (za1 G_Hall_release Z.c_Hall hr za2 (pv 0) (zae (pv 2) zad)))) zav)))),?_⟩
 obtain⟨dx,hh⟩:=hA.ins
 obtain⟨kvs,hva,hk⟩:=hA.vou
 have nd:=hk.2.1
 walk_at "gs"
 refine⟨ha,(C 8),dx,_,_,rfl,hh,Z.c_Hall,Z.n_Hall_vouched,zgo _ _,?_⟩
 walk_at "gs"
 refine zn1 hva hk.1 λl hl=>?_
 have s0:=zah hl (.lst (ws.map V.int))
 have nlv:l≠va:=(zam hva hl).symm
 refine⟨l,rfl,⟨_,SqL.of zaf⟩,?_⟩
 refine zfj (xs:=ws.map V.int) (λi σ H'=>∃ x ws',A4 (σ=[some (.ref ha),some (.int n),x]) (OffA [va] (upd H l (.lst (ws.map V.int))) H') (HallAt (C 8) (C 7) H' ha la va ks cr ws' fp) (∀ m,m∈ws'↔m∈ws∧(m∈ws.take i→n∉zdo ks cr m)))
  ⟨none,ws,rfl,(Same.refl _).offA,hA.same s0,λm=>by simp⟩ (λi σ H' _ ⟨_,_,_,e,_,_⟩=>SqL.of (e _ _ (by simp[nlv]) zaf)) ?_ ?_
 ·rintro i v σ H2 hv ⟨x,ws',rfl,o2,hA2,hm2⟩
  rw[zgm] at hv
  obtain⟨m0,hm0,rfl⟩:=zme.mp hv
  obtain⟨dx2,hh2⟩:=hA2.ins
  walk_at "gs"
  refine⟨ha,dx2,_,rfl,hh2,zeJ (by decide +kernel) (by decide +kernel),?_⟩
  walk_at "gs"
  refine⟨ha,la,va,m0,ks,cr,ws',fp,rfl,hA2,λv H3 s3 n3=>?_⟩
  obtain⟨ca,rfl,ca0,ca1⟩:=New.ints_iff.mp n3
  refine zpM (SqL.of ca1) ?_
  have tk:∀ m,m∈ws.take (i+1)↔m∈ws.take i∨m=m0:=λm=>by
   rw[List.take_add_one,hm0];simp
  by_cases hc:n∈zdo ks cr m0
  ·rw[decide_eq_true hc]
   walk_at "gs"
   refine⟨ha,dx2,_,rfl,s3 _ _ hh2,zeJ (by decide +kernel) (by decide +kernel),?_⟩
   walk_at "gs"
   refine⟨ha,la,va,m0,ks,cr,ws',fp,rfl,hA2.same s3,λH4 ws4 o4 hA4 hm4=>?_⟩
   walk_at "gs"
   refine⟨_,ws4,rfl,o2.trans (s3.offA.trans o4),hA4,λm=>?_⟩
   rw[hm4,hm2,tk]
   constructor
   ·rintro⟨⟨h1,h2⟩,h3⟩
    exact⟨h1,λz=>by rcases z with z | z;exact h2 z;exact absurd z h3⟩
   ·rintro⟨h1,h2⟩
    exact⟨⟨h1,λz=>h2 (.inl z)⟩,λz=>h2 (.inr z) (by rw[z];exact hc)⟩
  ·rw[decide_eq_false hc]
   walk_at "gs"
   refine⟨_,ws',rfl,o2.trans s3.offA,hA2.same s3,λm=>?_⟩
   rw[hm2,tk]
   constructor
   ·rintro⟨h1,h2⟩
    exact⟨h1,λz=>by rcases z with z | z;exact h2 z;rw[z];exact hc⟩
   ·rintro⟨h1,h2⟩
    exact⟨h1,λz=>h2 (.inl z)⟩
 ·rintro σ H2 ⟨x,ws',rfl,o2,hA2,hm2⟩
  walk_at "gs"
  refine q _ ws' (s0.offA.trans o2) hA2 λm=>?_
  rw[hm2,zlm,List.take_of_length_le (Nat.le_refl _)]
  exact⟨λh=>⟨h.1,h.2 h.1⟩,λh=>⟨h.1,λ_=>h.2⟩⟩
inductive sp_same_oath (K:Fg) (C:Nat→Addr) (vs:List V) (H:Hp) (Q:VK) (E:XK):Prop
 | mk (p q:Addr) (n1 l1 n2 l2:List (List Int)) (d1 d2:List D) (o1 o2:List (List (List Int))):vs=[.ref p,.ref q]→zbL K (C 7) H p n1 l1 d1 o1→zbL K (C 7) H q n2 l2 d2 o2→Q (.bl (decide (n1=n2) && decide (l1=l2))) H→sp_same_oath K C vs H Q E
theorem zhX {f:Addr}{fd:FuncData}(B:Bl K mg) {C:Nat→Addr}(Z:Zt K mg C)  (F:Fun K "same_oath" "same_oath" s_same_oath f fd) (m:mg "same_oath"=some (.ref f)):Fn P w K mg base "same_oath" ["craft","other"] 1 (sp_same_oath K C):=by
 refine Fn.of (k:=0) F zhQ m (λ_ _ _ _ _ _ us hl=>match us,hl with | [_,_],_=>rfl) (λvs H Q E h=>?_) (λcdv A outer s H vs Q E hr h=>?_)
 ·first
  | (obtain⟨_,_,_,_,_,_,_,_,_,_,rfl,_⟩:=h;rfl)
 obtain⟨p,q,n1,l1,n2,l2,d1,d2,o1,o2,rfl,hP,hQ,k⟩:=h
 refine⟨_,(zai (zar (zbw (zbB (k_eq K hr) (zaD K (pv 0) rfl) (zaD K (pv 1) rfl) (zau _)) (zb1 (zbB (k_eq K hr) (zaD K (pv 0) rfl) (zaD K (pv 1) rfl) (zau _)))))),?_⟩
 obtain⟨dx,w1,w2,w3,w4,hp,r1,r2,_,_⟩:=hP
 obtain⟨dy,u1,u2,u3,u4,hq,t1,t2,_,_⟩:=hQ
 obtain⟨a1,rfl⟩:∃ b,w1=.ref b:=by unfold zaN Rep at r1;obtain⟨a,_,e,_⟩:=r1;exact⟨a,e⟩
 obtain⟨a2,rfl⟩:∃ b,w2=.ref b:=by unfold zaN Rep at r2;obtain⟨a,_,e,_⟩:=r2;exact⟨a,e⟩
 obtain⟨b1,rfl⟩:∃ b,u1=.ref b:=by unfold zaN Rep at t1;obtain⟨a,_,e,_⟩:=t1;exact⟨a,e⟩
 obtain⟨b2,rfl⟩:∃ b,u2=.ref b:=by unfold zaN Rep at t2;obtain⟨a,_,e,_⟩:=t2;exact⟨a,e⟩
 walk_at "gs"
 refine⟨p,(C 7),dx,_,_,rfl,hp,Z.c_Craft,Z.n_Craft_needs,zcz _ _ _ _,?_⟩
 walk_at "gs"
 refine⟨q,(C 7),dy,_,_,rfl,hq,Z.c_Craft,Z.n_Craft_needs,zcz _ _ _ _,?_⟩
 refine zk3 r1 t1 (Nat.le_trans (zhr _) (by decide)) ?_
 rw[zgp]
 refine zcT (λe=>?_) (λe=>by rw[e,Bool.false_and] at k;exact k)
 rw[e,Bool.true_and] at k
 walk_at "gs"
 refine⟨p,(C 7),dx,_,_,rfl,hp,Z.c_Craft,Z.n_Craft_leaves,zcl _ _ _ _,?_⟩
 walk_at "gs"
 refine⟨q,(C 7),dy,_,_,rfl,hq,Z.c_Craft,Z.n_Craft_leaves,zcl _ _ _ _,?_⟩
 refine zk3 r2 t2 (Nat.le_trans (zhr _) (by decide)) ?_
 rw[zgp]
 exact k
inductive sp_Hall_lay (K:Fg) (C:Nat→Addr) (vs:List V) (H:Hp) (Q:VK) (E:XK):Prop
 | mk (ha la va p:Addr) (n:Int) (ks:List Int) (cr:Int→Cr) (ws:List Int) (fp:List Addr) (c:Cr):vs=[.ref ha,.int n,.ref p]→HallAt (C 8) (C 7) H ha la va ks cr ws fp→zeD K (C 7) H p c.needs c.leaves c.deeds c.notes→c.Nine→n.natAbs<zbN→(n∈ks∨ks.length<60)→(c.right=false→∀ H',Same H H'→E (.ref (C 1)) none H')→(c.right=true→∀ H' ks' ws' fp',OffA [la,va] H H'→HallAt (C 8) (C 7) H' ha la va ks' (setC cr n c) ws' fp'→(∀ m,m∈ks'↔m∈ks∨m=n)→(n∈ks→ks'=ks)→(n∉ks→ks'=ks++[n])→
  (∀ m,m∈ws'↔m∈ws∧m≠n∧(n∈ks→¬ ((cr n).needs=c.needs∧(cr n).leaves=c.leaves)→n∉zdo ks cr m))→(∀ b∈fp',b∈fp∨H b=none)→Q .non H')→sp_Hall_lay K C vs H Q E
theorem ziL {f:Addr}{fd:FuncData}(B:Bl K mg) {C:Nat→Addr}(Z:Zt K mg C) (G_Hall_release:Mth CX0 P w K mg base (C 8) "release" ["self","number"] 1 (sp_Hall_release K C)) (G_copied_craft:Fn P w K mg base "copied_craft" ["craft"] 4 (sp_copied_craft K C)) (G_right:Fn P w K mg base "right" ["craft"] 7 (sp_right K C)) (G_Hall_release_callers:Mth CX0 P w K mg base (C 8) "release_callers" ["self","number"] 3 (sp_Hall_release_callers K C)) (G_same_oath:Fn P w K mg base "same_oath" ["craft","other"] 1 (sp_same_oath K C)) (F:Fun K "lay" "Hall.lay" s_Hall_lay f fd) (M:Meth K (C 8) "lay" f):Mth (CX1 P w) P w K mg base (C 8) "lay" ["self","number","craft"] 8 (sp_Hall_lay K C):=by
 refine⟨f,fd,M,F.okx (k:=7) ziD (λvs H Q E h=>?_) (λcdv A outer s H vs Q E hr h=>?_),F.binds λ_ _ _ _ _ _ us hl=>match us,hl with | [_,_,_],_=>rfl⟩
 ·first
  | (obtain⟨_,_,_,_,_,_,_,_,_,_,rfl,_⟩:=h;rfl)
 obtain⟨ha,la,va,p,n,ks,cr,ws,fp,c,rfl,hA,hT,nine,hn,hfew,qE,qQ⟩:=h
 refine⟨_,(zag (zaW (zg6 (zdD (zat G_right hr rfl (zae (pv 2) zad)))) (zai (zeV Z.e_BadSheet rfl Z.m_BadSheet rfl zgJ (zbe (pe_fs (pv 1) (by decide +kernel) (by decide +kernel)) zad))) zav)
   (zag (zaW (PW.pt (ziT (zg5 (zm1 (hr_u hr) (pv 1) (zaD K (pv 0) rfl))) (zgw (zg6 (zdD (zat G_same_oath hr rfl (zaE (zel (hr_u hr) (zaD K (pv 0) rfl) (pv 1) (λ_ _=>rfl)) (zae (pv 2) zad)))))))) (zai (zaS (za1 G_Hall_release_callers Z.c_Hall hr za2 (pv 0) (zae (pv 1) zad)))) zav)
   (zag (zaS (za1 G_Hall_release Z.c_Hall hr za2 (pv 0) (zae (pv 1) zad)))
   (zai (zkM (hr_u hr) (zaD K (pv 0) rfl) (pv 1) (zat G_copied_craft hr rfl (zae (pv 2) zad)) rfl))))),?_⟩
 have g1:=nine.n
 have g2:=nine.l
 have g3:=nine.d
 have g4:=nine.o
 walk_at "q"
 walk_at "gs"
 refine⟨p,c.needs,c.leaves,c.deeds,c.notes,rfl,hT.1,by omega,by omega,by omega,by omega,nine.n9,nine.l9,nine.d9,λls hl=>⟨by have:=(nine.o9 ls hl).1;omega,(nine.o9 ls hl).2⟩,λH1 s1=>?_⟩
 cases hr':zcV c.needs c.leaves c.deeds c.notes with
 | false=>
  walk_at "gs"
  refine⟨hn,λz=>?_⟩
  walk_at "gs"
  exact⟨(by walk_at "sm"),qE hr' _ s1⟩
 | true=>
 have qQ:=qQ hr'
 clear qE
 have rtc:c.Rt:=⟨nine,hr'⟩
 walk_at "gs"
 have hA1:=hA.same s1
 have hT1:=zeD.same s1 hT
 have oA:∀ {Hx:Hp},OffA [va] H1 Hx→zeD K (C 7) Hx p c.needs c.leaves c.deeds c.notes:=λ{Hx} o=>by
  obtain⟨kv,hv,_⟩:=hA1.vou
  have nd:=o.nod λa ha=>by rw[zms.mp ha];exact⟨_,hv⟩
  obtain⟨k0,dx,w1,w2,b3,w4,dvs,k1,k2,k3⟩:=hT1
  exact⟨k0.nod nd,dx,w1,w2,b3,w4,dvs,nd _ _ k1 (λ_ z=>by cases z),nd _ _ k2 (λ_ z=>by cases z),R2.mono k3 λ_ _ z=>z.sq nd.sq⟩
 -- who called it by another oath is let go
 with_reducible refine zd1 (λσ H'=>σ=[some (.ref ha),some (.int n),some (.ref p)]∧∃ ws',OffA [va] H1 H'∧HallAt (C 8) (C 7) H' ha la va ks cr ws' fp∧∀ m,m∈ws'↔m∈ws∧(n∈ks→¬ ((cr n).needs=c.needs∧(cr n).leaves=c.leaves)→n∉zdo ks cr m)) (λNX tail=>?_) ?_
 ·obtain⟨dx,hh⟩:=hA1.ins
  obtain⟨kvs,hla,hk⟩:=hA1.laid
  walk_at "gs"
  refine⟨ha,(C 8),dx,_,_,rfl,hh,Z.c_Hall,Z.n_Hall_laid,zc3 _ _,?_⟩
  refine⟨la,_,rfl,DGet.k (k:=.inl n) hla,?_⟩
  by_cases hm:n∈ks
  ·obtain⟨v,hv,q,f,rfl,hC,hf⟩:=hk.2.2 n hm
   rw[hv]
   walk_at "gs"
   refine zen (λ_=>?_) (λz=>by cases z)
   walk_at "gs"
   refine⟨ha,(C 8),dx,_,_,rfl,hh,Z.c_Hall,Z.n_Hall_laid,zc3 _ _,?_⟩
   walk_at "gs"
   refine⟨la,.ref q,rfl,by rw[←hv];exact DGet.k (k:=.inl n) hla,?_⟩
   walk_at "gs"
   refine⟨q,p,(cr n).needs,(cr n).leaves,c.needs,c.leaves,_,_,_,_,rfl,hC.at,hT1.1,?_⟩
   cases hs:(decide ((cr n).needs=c.needs) && decide ((cr n).leaves=c.leaves)) with
   | true=>
    walk_at "gs"
    rw[Bool.and_eq_true,decide_eq_true_eq,decide_eq_true_eq] at hs
    exact tail _ _ ⟨rfl,ws,(Same.refl _).offA,hA1,λm=>⟨λz=>⟨z,λ_ w=>absurd hs w⟩,λz=>z.1⟩⟩
   | false=>
    have hs':¬ ((cr n).needs=c.needs∧(cr n).leaves=c.leaves):=λz=>by
     rw[decide_eq_true z.1,decide_eq_true z.2] at hs;cases hs
    walk_at "gs"
    refine⟨ha,dx,_,rfl,hh,zeJ (by decide +kernel) (by decide +kernel),?_⟩
    walk_at "gs"
    refine⟨ha,la,va,n,ks,cr,ws,fp,rfl,hA1,λH2 ws2 o2 hA2 hm2=>?_⟩
    walk_at "gs"
    refine tail _ _ ⟨rfl,ws2,o2,hA2,λm=>?_⟩
    rw[hm2]
    exact⟨λz=>⟨z.1,λ_ _=>z.2⟩,λz=>⟨z.1,z.2 hm hs'⟩⟩
  ·rw[hk.no hm]
   walk_at "gs"
   refine zen (λz=>by cases z) (λ_=>?_)
   walk_at "gs"
   exact tail _ _ ⟨rfl,ws,(Same.refl _).offA,hA1,λm=>⟨λz=>⟨z,λw=>absurd w hm⟩,λz=>z.1⟩⟩
 rintro σ H2 ⟨rfl,ws2,o2,hA2,hm2⟩
 obtain⟨dx2,hh2⟩:=hA2.ins
 walk_at "q"
 walk_at "gs"
 refine⟨ha,dx2,_,rfl,hh2,zeJ (by decide +kernel) (by decide +kernel),?_⟩
 walk_at "gs"
 refine⟨ha,la,va,n,ks,cr,ws2,fp,rfl,hA2,λH3 ws3 o3 hA3 hm3=>?_⟩
 have o13:=o2.trans o3
 walk_at "gs"
 refine⟨p,c,rfl,oA o13,nine,λq f H4 s4 hC hf fn=>?_⟩
 have hA4:=hA3.same s4
 obtain⟨dx4,hh4⟩:=hA4.ins
 obtain⟨kvs,hla,hk⟩:=hA4.laid
 walk_at "gs"
 refine⟨ha,(C 8),dx4,_,_,rfl,hh4,Z.c_Hall,Z.n_Hall_laid,zc3 _ _,?_⟩
 walk_at "gs"
 have hkl:=hk.len
 have h60:=hA.few
 refine⟨la,_,rfl,DPut.k (k:=.inl n) hla (zcg (by omega)),?_⟩
 have nd5:NoD H4 (upd H4 la (.dK (putK kvs (.inl n) (.ref q)))):=zep hla
 obtain⟨kv,hva,hkv⟩:=hA4.vou
 have put:=hk.put' (m:=n) (v:=.ref q) (P':=CrIn (C 7) (upd H4 la (.dK (putK kvs (.inl n) (.ref q)))) (setC cr n c) (f++fp)) ⟨q,f,rfl,by unfold setC;rw[if_pos rfl];exact hC.nod nd5,λb hb=>List.mem_append_left _ hb⟩ (λk v ne ⟨p',f',e1,e2,e3⟩=>⟨p',f',e1,by unfold setC;rw[if_neg ne];exact e2.nod nd5,λb hb=>List.mem_append_right _ (e3 b hb)⟩)
 have kss:∀ m,m∈(if n∈ks then ks else ks++[n])↔m∈ks∨m=n:=λm=>by
  by_cases z:n∈ks
  ·rw[if_pos z]
   exact⟨.inl,λw=>by rcases w with w | w;exact w;rw[w];exact z⟩
  ·rw[if_neg z];simp
 refine qQ _ (if n∈ks then ks else ks++[n]) ws3 (f++fp) ?_ ⟨?_,⟨_,zaf,put⟩,⟨kv,by rw[zak hA4.ne.symm];exact hva,hkv⟩,hA4.ne,λm hm=>?_,?_,λm hm=>?_,λb hb=>?_⟩ kss (λz=>by rw[if_pos z]) (λz=>by rw[if_neg z]) (λm=>?_) (λb hb=>?_)
 ·refine OffA.trans (s1.offA.trans ?_) (s4.offA.trans (zbv (by simp)))
  exact OffA.putDict o13 λb hb=>by rw[zms.mp hb];simp
 ·exact⟨dx4,nd5 _ _ hh4 (λ_ z=>by cases z)⟩
 ·unfold setC
  by_cases z:m=n
  ·rw[if_pos z];exact rtc
  ·rw[if_neg z]
   exact hA.rt m (by rcases (kss m).mp hm with w | w;exact w;exact absurd w z)
 ·by_cases z:n∈ks
  ·rw[if_pos z];exact hA.few
  ·rw[if_neg z,List.length_append,List.length_singleton]
   rcases hfew with w | w
   ·exact absurd w z
   ·omega
 ·exact (kss m).mpr (.inl (hA4.sub m hm))
 ·rcases zma.mp hb with z | z
  ·obtain⟨o,e,n⟩:=hC.hasN b z
   exact⟨o,nd5 b o e n,n⟩
  ·obtain⟨o,e,n⟩:=hA4.has b z
   exact⟨o,nd5 b o e n,n⟩
 ·rw[hm3,hm2]
  exact⟨λz=>⟨z.1.1,z.2,z.1.2⟩,λz=>⟨⟨z.1,z.2.2⟩,z.2.1⟩⟩
 ·rcases zma.mp hb with z | z
  ·right
   have e3:=hf b z
   cases eb:H b with
   | none=>rfl
   | some o=>
    exfalso
    by_cases nb:b=va
    ·obtain⟨kv3,hv3,_⟩:=hA3.vou
     rw[nb,hv3] at e3;cases e3
    ·have:=o13 b o (by simp[nb]) (s1 _ _ eb)
     rw[this] at e3;cases e3
  ·exact .inl z
inductive sp_Hall_must_stand (K:Fg) (C:Nat→Addr) (vs:List V) (H:Hp) (Q:VK) (E:XK):Prop
 | mk (ha dx la va:Addr) (n:Int) (kvs:List (Key × V)):vs=[.ref ha,.int n]→H ha=some (.ins (C 8) dx (hfl la va))→H la=some (.dK kvs)→n.natAbs<zbN→(valV kvs (.inl n)=none→E (.ref (C 2)) none H)→((valV kvs (.inl n)).isSome=true→Q .non H)→sp_Hall_must_stand K C vs H Q E
theorem zei {f:Addr}{fd:FuncData}(B:Bl K mg) {C:Nat→Addr}(Z:Zt K mg C)  (F:Fun K "must_stand" "Hall.must_stand" s_Hall_must_stand f fd) (M:Meth K (C 8) "must_stand" f):Mth (CX1 P w) P w K mg base (C 8) "must_stand" ["self","number"] 1 (sp_Hall_must_stand K C):=by
 refine⟨f,fd,M,F.okx (k:=0) zeg (λvs H Q E h=>?_) (λcdv A outer s H vs Q E hr h=>?_),F.binds λ_ _ _ _ _ _ us hl=>match us,hl with | [_,_],_=>rfl⟩
 ·first
  | (obtain⟨_,_,_,_,_,_,rfl,_⟩:=h;rfl)
 obtain⟨ha,dx,la,va,n,kvs,rfl,hh,hla,hn,qE,qQ⟩:=h
 refine⟨_,(zai (zaW (zg5 (zfb (hr_u hr) (pv 1) (zaD K (pv 0) rfl))) (zai (zeV Z.e_NoCraft rfl Z.m_NoCraft rfl zgJ (zbe (zla (pv 1) (by decide +kernel)) zad))) zav)),?_⟩
 walk_at "gs"
 refine⟨ha,(C 8),dx,_,_,rfl,hh,Z.c_Hall,Z.n_Hall_laid,zc3 _ _,?_⟩
 refine⟨la,_,rfl,DGet.k (k:=.inl n) hla,?_⟩
 cases hv:valV kvs (.inl n) with
 | none=>
  walk_at "gs"
  refine zen (λ_=>?_) (λz=>by cases z)
  walk_at "gs"
  refine⟨hn,λz=>?_⟩
  walk_at "gs"
  exact⟨(by walk_at "sm"),qE hv⟩
 | some y=>
  walk_at "gs"
  refine zen (λz=>by cases z) (λ_=>?_)
  walk_at "gs"
  exact qQ (by rw[hv];rfl)
inductive sp_Hall_tear (K:Fg) (C:Nat→Addr) (vs:List V) (H:Hp) (Q:VK) (E:XK):Prop
 | mk (ha la va:Addr) (n:Int) (ks:List Int) (cr:Int→Cr) (ws:List Int) (fp:List Addr):vs=[.ref ha,.int n]→HallAt (C 8) (C 7) H ha la va ks cr ws fp→n.natAbs<zbN→(n∉ks→E (.ref (C 2)) none H)→(n∈ks→∀ H' ws',OffA [la,va] H H'→HallAt (C 8) (C 7) H' ha la va (ks.filter λk=>decide (k≠n)) cr ws' fp→(∀ m,m∈ws'↔m∈ws∧m≠n∧n∉zdo ks cr m)→Q .non H')→sp_Hall_tear K C vs H Q E
theorem HallAt.dropL {cH cC:Addr}{H:Hp}{h la va:Addr}{ks vs:List Int}{cr:Int→Cr}{fp:List Addr}{kvs:List (Key × V)}{n:Int}(A:HallAt cH cC H h la va ks cr vs fp) (hl:H la=some (.dK kvs)) (s:∀ m∈vs,m≠n):HallAt cH cC (upd H la (.dK (zcr kvs (.inl n)))) h la va (ks.filter λk=>decide (k≠n)) cr vs fp where
 ins:=by
  obtain⟨dx,z⟩:=A.ins
  exact⟨dx,by rw[zak (zjs z hl (by intro w;cases w))];exact z⟩
 laid:=by
  obtain⟨kl,z,q⟩:=A.laid
  rw[hl] at z
  cases z
  exact⟨_,zaf,(q.mono λm v ⟨p,f,e1,e2,e3⟩=>(⟨p,f,e1,e2.nod (zep hl),e3⟩:CrIn cC (upd H la (.dK (zcr kvs (.inl n)))) cr fp m v)).drop⟩
 vou:=by
  obtain⟨kv,z,q⟩:=A.vou
  exact⟨kv,by rw[zak A.ne.symm];exact z,q⟩
 ne:=A.ne
 rt:=λm hm=>A.rt m (List.mem_filter.mp hm).1
 few:=Nat.le_trans (List.length_filter_le _ _) A.few
 sub:=λm hm=>List.mem_filter.mpr ⟨A.sub m hm,decide_eq_true (s m hm)⟩
 has:=λb hb=>by
  obtain⟨o,z,n⟩:=A.has b hb
  exact⟨o,zep hl b o z n,n⟩
theorem zhY {f:Addr}{fd:FuncData}(B:Bl K mg) {C:Nat→Addr}(Z:Zt K mg C) (G_Hall_must_stand:Mth (CX1 P w) P w K mg base (C 8) "must_stand" ["self","number"] 1 (sp_Hall_must_stand K C)) (G_Hall_release_callers:Mth CX0 P w K mg base (C 8) "release_callers" ["self","number"] 3 (sp_Hall_release_callers K C)) (G_Hall_release:Mth CX0 P w K mg base (C 8) "release" ["self","number"] 1 (sp_Hall_release K C)) (F:Fun K "tear" "Hall.tear" s_Hall_tear f fd) (M:Meth K (C 8) "tear" f):Mth (CX1 P w) P w K mg base (C 8) "tear" ["self","number"] 4 (sp_Hall_tear K C):=by
 refine⟨f,fd,M,F.okx (k:=3) zhP (λvs H Q E h=>?_) (λcdv A outer s H vs Q E hr h=>?_),F.binds λ_ _ _ _ _ _ us hl=>match us,hl with | [_,_],_=>rfl⟩
 ·first
  | (obtain⟨_,_,_,_,_,_,_,_,rfl,_⟩:=h;rfl)
 obtain⟨ha,la,va,n,ks,cr,ws,fp,rfl,hA,hn,qE,qQ⟩:=h
 refine⟨_,(zag (zaS (za1 G_Hall_must_stand Z.c_Hall hr zk8 (pv 0) (zae (pv 1) zad)))
   (zag (zaS (za1 G_Hall_release_callers Z.c_Hall hr za2 (pv 0) (zae (pv 1) zad)))
   (zag (zaS (za1 G_Hall_release Z.c_Hall hr za2 (pv 0) (zae (pv 1) zad)))
   (zai (zaS (zl5 (zaD K (pv 0) rfl) (pv 1) ⟨rfl,rfl,rfl,rfl⟩)))))),?_⟩
 obtain⟨dx,hh⟩:=hA.ins
 obtain⟨kvs,hla,hk⟩:=hA.laid
 walk_at "gs"
 walk_at "q"
 walk_at "gs"
 refine⟨ha,dx,_,rfl,hh,zeJ (by decide +kernel) (by decide +kernel),?_⟩
 walk_at "gs"
 refine⟨ha,dx,la,va,n,kvs,rfl,hh,hla,hn,λz=>qE λhm=>?_,λz=>?_⟩
 ·obtain⟨v,e,_⟩:=hk.2.2 n hm
  rw[e] at z;cases z
 have hm:n∈ks:=Classical.byContradiction λw=>by rw[hk.no w] at z;cases z
 walk_at "gs"
 walk_at "q"
 walk_at "gs"
 refine⟨ha,dx,_,rfl,hh,zeJ (by decide +kernel) (by decide +kernel),?_⟩
 walk_at "gs"
 refine⟨ha,la,va,n,ks,cr,ws,fp,rfl,hA,λH1 ws1 o1 hA1 hm1=>?_⟩
 obtain⟨dx1,hh1⟩:=hA1.ins
 walk_at "gs"
 walk_at "q"
 walk_at "gs"
 refine⟨ha,dx1,_,rfl,hh1,zeJ (by decide +kernel) (by decide +kernel),?_⟩
 walk_at "gs"
 refine⟨ha,la,va,n,ks,cr,ws1,fp,rfl,hA1,λH2 ws2 o2 hA2 hm2=>?_⟩
 obtain⟨dx2,hh2⟩:=hA2.ins
 obtain⟨kv2,hla2,hk2⟩:=hA2.laid
 obtain⟨v,hv,_⟩:=hk2.2.2 n hm
 walk_at "gs"
 refine⟨ha,(C 8),dx2,_,_,rfl,hh2,Z.c_Hall,Z.n_Hall_laid,zc3 _ _,?_⟩
 refine⟨la,rfl,.inl ⟨_,.inl hla2⟩,?_⟩
 walk_at "gs"
 refine⟨kv2,.inl n,v,hla2,rfl,hv,?_⟩
 walk_at "gs"
 have o12:OffA [la,va] H H2:=(o1.trans o2).putDict λb hb=>by rw[zms.mp hb];simp
 refine qQ hm _ ws2 (o12.trans (zbv (by simp))) (hA2.dropL hla2 λm hm'=>((hm2 m).mp hm').2) λm=>?_
 rw[hm2,hm1]
 exact⟨λz=>⟨z.1.1,z.2,z.1.2⟩,λz=>⟨⟨z.1,z.2.2⟩,z.2.1⟩⟩
inductive sp_l_mix (K:Fg) (vs:List V) (H:Hp) (Q:VK) (E:XK):Prop
 | mk (c k m:Int):vs=[.int c,.int k,.int m]→0<m→Q (.int (mix c k m)) H→sp_l_mix K vs H Q E
theorem zc7 {H:Hp}{Q:VK}{E:XK}{c k m:Int}(h:0<m) (q:Q (.int (mix c k m)) H):sp_l_mix K [.int c,.int k,.int m] H Q E:=⟨c,k,m,rfl,h,q⟩
theorem zmT {f:Addr}{fd:FuncData}(B:Bl K mg) {C:Nat→Addr}(Z:Zt K mg C)  (F:Fun K "_law_mix" "_law_mix" s_l_mix f fd) (m:mg "_law_mix"=some (.ref f)):Fn P w K mg base "_law_mix" ["cell","k","many"] 1 (sp_l_mix K):=by
 refine Fn.of (k:=0) F zmL m (λ_ _ _ _ _ _ us hl=>match us,hl with | [_,_,_],_=>rfl) (λvs H Q E h=>?_) (λcdv A outer s H vs Q E hr h=>?_)
 ·first
  | (obtain⟨_,_,_,rfl,_⟩:=h;rfl)
 obtain⟨c,k,m,rfl,hm,q⟩:=h
 refine⟨_,(zai (zar (zao zaU (zao zaG (zao zaU (zao zb5 (zao (zaM K) (zao zaU (pv 0) zaa) zaa) (zao (zaM K) zaa (zao zb5 zaa (pv 1)))) zaa) zaa) (pv 2)))),?_⟩
 have h1:=Int.emod_nonneg c (show (2147483647:Int)≠0 by decide)
 have h2:=Int.emod_lt_of_pos c (show (0:Int)<2147483647 by decide)
 walk_at "go"
 exact q
inductive sp_l_cell_at (K:Fg) (vs:List V) (H:Hp) (Q:VK) (E:XK):Prop
 | mk (a:Addr) (k:Int) (ns:List Int):vs=[.ref a,.int k]→SqL K H a (ns.map V.int)→0≤k→Q (.int (cell ns k)) H→sp_l_cell_at K vs H Q E
theorem zcp {H:Hp}{Q:VK}{E:XK}{a:Addr}{k:Int}{ns:List Int}(h:SqL K H a (ns.map V.int)) (hk:0≤k) (q:Q (.int (cell ns k)) H):sp_l_cell_at K [.ref a,.int k] H Q E:=⟨a,k,ns,rfl,h,hk,q⟩
theorem zhZ {f:Addr}{fd:FuncData}(B:Bl K mg) {C:Nat→Addr}(Z:Zt K mg C)  (F:Fun K "_law_cell_at" "_law_cell_at" s_l_cell_at f fd) (m:mg "_law_cell_at"=some (.ref f)):Fn P w K mg base "_law_cell_at" ["script","k"] 1 (sp_l_cell_at K):=by
 refine Fn.of (k:=0) F zhR m (λ_ _ _ _ _ _ us hl=>match us,hl with | [_,_],_=>rfl) (λvs H Q E h=>?_) (λcdv A outer s H vs Q E hr h=>?_)
 ·first
  | (obtain⟨_,_,_,rfl,_⟩:=h;rfl)
 obtain⟨a,k,ns,rfl,hS,hk,q⟩:=h
 refine⟨_,(zag (zaW (zas op_lt (pv 1) (zaP (zdQ K) rfl B.len L2.boot_len (zae (pv 0) zad)) (zau _)) (zai (zar (zaB (k_ix K) (pv 0) (pv 1) (λ_ _=>rfl)))) zav)
   (zai (zar zaa))),?_⟩
 walk_at "go"
 refine zdP (.inl hS) ?_
 walk_at "go"
 rw[zlm]
 unfold cell at q
 refine ite2 (λe=>?_) (λe=>?_)
 ·have e':k<(ns.length:Int):=of_decide_eq_true e
  walk_at "go"
  have hl:k.toNat<ns.length:=by omega
  refine zbc hS (v:=.int (ns.getD k.toNat 0)) ?_ q
  have z:atI (ns.map V.int) ((k.toNat:Nat):Int)=some (.int (ns.getD k.toNat 0)):=zaV (by simp[hl])
  rwa [show ((k.toNat:Nat):Int)=k by omega] at z
 ·have e':¬ k<(ns.length:Int):=of_decide_eq_false (Bool.eq_false_iff.mpr e)
  walk_at "go"
  have hl:ns.getD k.toNat 0=0:=by simp[List.getD,List.getElem?_eq_none (show ns.length≤k.toNat by omega)]
  rw[hl] at q
  exact q
inductive sp_l_number (K:Fg) (vs:List V) (H:Hp) (Q:VK) (E:XK):Prop
 | mk (c k:Int):vs=[.int c,.int k]→(∀ H',Same H H'→Q (.int (number c k)) H')→sp_l_number K vs H Q E
theorem zdA {H:Hp}{Q:VK}{E:XK}{c k:Int}(q:∀ H',Same H H'→Q (.int (number c k)) H'):sp_l_number K [.int c,.int k] H Q E:=⟨c,k,rfl,q⟩
theorem ziM {f:Addr}{fd:FuncData}(B:Bl K mg) {C:Nat→Addr}(Z:Zt K mg C) (G_l_mix:Fn P w K mg base "_law_mix" ["cell","k","many"] 1 (sp_l_mix K)) (F:Fun K "_law_number" "_law_number" s_l_number f fd) (m:mg "_law_number"=some (.ref f)):Fn P w K mg base "_law_number" ["cell","k"] 2 (sp_l_number K):=by
 refine Fn.of (k:=1) F zfI m (λ_ _ _ _ _ _ us hl=>match us,hl with | [_,_],_=>rfl) (λvs H Q E h=>?_) (λcdv A outer s H vs Q E hr h=>?_)
 ·first
  | (obtain⟨_,_,rfl,_⟩:=h;rfl)
 obtain⟨c,k,rfl,q⟩:=h
 refine⟨_,(zag (zaA (i:=2) zfI.nd rfl (Or.inl rfl) (zat G_l_mix hr rfl (zae (pv 0) (zae (pv 1) (zab zaa zad)))))
   (zag (zaW (zas (k_eq K hr) (pv 2) zaa (zau _)) (zai (zar (zao zgb (zao zaU (pv 0) (zao (zaM K) (zao zb5 zaa (zao zgc zaa zaa)) zaa)) (zao zgc zaa zaa)))) zav)
   (zag (zaW (zas (k_eq K hr) (pv 2) zaa (zau _)) (zai (zar (zaB (k_ix K) (za6 (zaI (zao zgc zaa zaa) (zjR (zdB zb2 (zao zgc zaa zaa)) (zab zaa (zjR (zdB zb2 zaa) zad))))) (zat G_l_mix hr rfl (zae (pv 0) (zaI (zao (zaM K) (pv 1) zaa) (zab zaa zad)))) (λ_ _=>rfl)))) zav)
   (zai (zar (zao zgb (zat G_l_mix hr rfl (zae (pv 0) (zaI (zao (zaM K) (pv 1) zaa) (zab zaa zad)))) zaa)))))),?_⟩
 have n1:=za3 (c:=c) (k:=k+1) (m:=4) (by decide)
 have n2:=zcw (c:=c) (k:=k+1) (m:=4) (by decide)
 walk_at "go"
 refine zc7 (by decide) ?_
 walk_at "go"
 refine ite2 (λe=>?_) (λe=>?_)
 ·have e':mix c k 9=0:=of_decide_eq_true e
  walk_at "go"
  have q':=q H (Same.refl H)
  unfold number at q'
  rw[if_pos e'] at q'
  exact q'
 ·have e':¬ mix c k 9=0:=of_decide_eq_false (Bool.eq_false_iff.mpr e)
  walk_at "go"
  refine ite2 (λe2=>?_) (λe2=>?_)
  ·have e2':mix c k 9=1:=of_decide_eq_true e2
   walk_at "go"
   refine⟨by decide,λp hp=>?_⟩
   walk_at "go"
   refine zc7 (by decide) ?_
   have q':=q (upd H p (.lst [.int 1000000000,.int (-1000000000),.int 999999999,.int (-999999999)])) (zah hp _)
   unfold number at q'
   rw[if_neg e',if_pos e2'] at q'
   refine zbc (SqL.of zaf) ?_ q'
   have c4:mix c (k+1) 4=0∨mix c (k+1) 4=1∨mix c (k+1) 4=2∨mix c (k+1) 4=3:=by omega
   rcases c4 with z | z | z | z <;> rw[z] <;> rfl
  ·have e2':¬ mix c k 9=1:=of_decide_eq_false (Bool.eq_false_iff.mpr e2)
   walk_at "go"
   refine zc7 (by decide) ?_
   walk_at "go"
   have q':=q H (Same.refl H)
   unfold number at q'
   rw[if_neg e',if_neg e2'] at q'
   exact q'
def zej (K:Fg):Sp:=λvs H Q _=>∃ c:Int,vs=[.int c]∧∀ v H',Same H H'→New H H' (nums (zgL c)) v→Q v H'
theorem zlI {H:Hp}{Q:VK}{E:XK}{c:Int}(q:∀ v H',Same H H'→New H H' (nums (zgL c)) v→Q v H'):zej K [.int c] H Q E:=⟨c,rfl,q⟩
theorem zlJ {f:Addr}{fd:FuncData}(B:Bl K mg) {C:Nat→Addr}(Z:Zt K mg C) (G_l_number:Fn P w K mg base "_law_number" ["cell","k"] 2 (sp_l_number K)) (F:Fun K "_law_free" "_law_free" s_l_free f fd) (m:mg "_law_free"=some (.ref f)):Fn P w K mg base "_law_free" ["cell"] 3 (zej K):=by
 refine Fn.of (k:=2) F zlD m (λ_ _ _ _ _ _ us hl=>match us,hl with | [_],_=>rfl) (λvs H Q E h=>?_) (λcdv A outer s H vs Q E hr h=>?_)
 ·first
  | (obtain⟨_,rfl,_⟩:=h;rfl)
 obtain⟨c,rfl,q⟩:=h
 refine⟨_,(zai (zar (zao (zaM K) (zbI rfl (CompOk.m (sc0:=zac s_l_free) (N:=["cell"]) (N':=["cell","k"]) (ms:=[false,true])) (zbD rfl B.range (zab zaa zad)) (λ_ _ _ _ _=>(zay (i:=1) (ndS (N:=["cell","k"])) rfl (Or.inl rfl))) (λ_ _ _ _ _=>zaY) (λ_ _ _ _ _=>(zat G_l_number hr rfl (zae (pv 0) (zaI (zao zb5 zaa (pv 1)) zad))))) (za6 (zab zaa (zab zaa zad)))))),?_⟩
 walk_at "go"
 refine zcH (by decide) (by decide) ?_
 refine zaZ (n:=7) zbS (((List.range 7).map λ(k:Nat)=>number c (5 * (0+(k:Int)))).map D.int) (by simp) (by decide) (λi x d H1 R hi hd s1 hx hR=>?_) (λv H1 s1 n1=>?_)
 ·subst hx
  rw[List.map_map] at hd
  have hd':=zdg hd
  subst hd'
  walk_at "go"
  refine zdA λH2 s2=>?_
  exact hR _ _ s2 New.int
 obtain⟨la,rfl,la0,la1⟩:=New.ints_iff.mp n1
 walk_at "go"
 refine⟨(by walk_at "sm"),λp hp=>?_⟩
 have t1:=zah hp (.lst [V.int 0,.int 0])
 walk_at "go"
 refine zgH (t1 _ _ la1) zaf ((by walk_at "sm")) λp2 hp2=>?_
 refine q _ _ (s1.trans (t1.trans (zah hp2 _))) (New.ints_iff.mpr ⟨p2,rfl,(s1.trans t1).free hp2,?_⟩)
 rw[zaf]
 unfold zgL
 rw[List.map_append]
 rfl
inductive sp_l_other_deed (K:Fg) (vs:List V) (H:Hp) (Q:VK) (E:XK):Prop
 | mk (c count:Int):vs=[.int c,.int count]→0≤count→(∀ v H',Same H H'→New H H' (toD (zd6 c count)) v→Q v H')→sp_l_other_deed K vs H Q E
theorem zfQ {f:Addr}{fd:FuncData}(B:Bl K mg) {C:Nat→Addr}(Z:Zt K mg C) (G_l_number:Fn P w K mg base "_law_number" ["cell","k"] 2 (sp_l_number K)) (G_l_free:Fn P w K mg base "_law_free" ["cell"] 3 (zej K)) (G_l_mix:Fn P w K mg base "_law_mix" ["cell","k","many"] 1 (sp_l_mix K)) (F:Fun K "_law_other_deed" "_law_other_deed" s_l_other_deed f fd) (m:mg "_law_other_deed"=some (.ref f)):Fn P w K mg base "_law_other_deed" ["cell","count"] 4 (sp_l_other_deed K):=by
 refine Fn.of (k:=3) F zdt m (λ_ _ _ _ _ _ us hl=>match us,hl with | [_,_],_=>rfl) (λvs H Q E h=>?_) (λcdv A outer s H vs Q E hr h=>?_)
 ·first
  | (obtain⟨_,_,rfl,_⟩:=h;rfl)
 obtain⟨c,count,rfl,hc,q⟩:=h
 refine⟨_,(zag (zaW (zas (k_eq K hr) (zao zaU (pv 0) zaa) zaa (zau _)) (zai (zar (zaL (zab zaJ (zaC (zat G_l_free hr rfl (zaI (zao zaG (pv 0) zaa) zad)) (zaC (zat G_l_mix hr rfl (zae (pv 0) (zab zaa (zaI (zao (zaM K) (pv 1) zaa) zad)))) zad)))))) zav)
   (zag (zaW (zas (k_eq K hr) (zao zaU (pv 0) zaa) zaa (zau _)) (zai (zar (zaL (zab zaJ (zaI (zao (zaM K) zaa (zao zaU (zao zaG (pv 0) zaa) zaa)) (zaC (zat G_l_free hr rfl (zaI (zao zaG (pv 0) zaa) zad)) zad)))))) zav)
   (zag (zaA (i:=2) zdt.nd rfl (Or.inl rfl) (zat G_l_number hr rfl (zaI (zao zaG (pv 0) zaa) (zab zaa zad))))
   (zai (zar (zaL (zab zaJ (zaI (zao (zaM K) zaa (zao zaU (zao zaG (pv 0) zaa) zaa)) (zae (pv 2) (zaC (zaP (znN rfl) rfl B.max L2.zgI (zae (pv 2) (zaC (zat G_l_number hr rfl (zaI (zao zaG (pv 0) zaa) (zab zaa zad))) zad))) zad)))))))))),?_⟩
 unfold zd6 at q
 walk_at "go"
 refine ite2 (λe=>?_) (λe=>?_)
 ·have e':c % 3=0:=of_decide_eq_true e
  rw[if_pos e'] at q
  walk_at "go"
  refine zlI λv H1 s1 n1=>?_
  obtain⟨la,rfl,la0,la1⟩:=New.ints_iff.mp n1
  walk_at "go"
  refine zc7 (by omega) ?_
  walk_at "go"
  refine⟨by show 3≤sizeLine;decide,λt ht=>?_⟩
  exact q _ _ (s1.trans (zah ht _)) (zmA la0 la1 ht)
 have e0:¬ c % 3=0:=of_decide_eq_false (Bool.eq_false_iff.mpr e)
 rw[if_neg e0] at q
 walk_at "go"
 refine ite2 (λe=>?_) (λe=>?_)
 ·have e':c % 3=1:=of_decide_eq_true e
  rw[if_pos e'] at q
  walk_at "go"
  refine zlI λv H1 s1 n1=>?_
  obtain⟨la,rfl,la0,la1⟩:=New.ints_iff.mp n1
  walk_at "go"
  refine⟨by show 3≤sizeLine;decide,λt ht=>?_⟩
  exact q _ _ (s1.trans (zah ht _)) (zfn la0 la1 ht)
 have e1:¬ c % 3=1:=of_decide_eq_false (Bool.eq_false_iff.mpr e)
 rw[if_neg e1] at q
 walk_at "go"
 refine zdA λH1 s1=>?_
 walk_at "go"
 refine zdA λH2 s2=>?_
 walk_at "go"
 refine znQ ?_
 walk_at "go"
 refine⟨by show 4≤sizeLine;decide,λt ht=>?_⟩
 exact q _ _ (s1.trans (s2.trans (zah ht _))) (zjh ht)
theorem zlK (c:Int):atI [V.int 0,.int 1,.int (c / 48 % (1000000000+1))] (c / 8 % 3)=some (.int (za8 c)):=by
 have h1:=Int.emod_nonneg (c / 8) (show (3:Int)≠0 by decide)
 have h2:=Int.emod_lt_of_pos (c / 8) (show (0:Int)<3 by decide)
 unfold za8
 have c3:c / 8 % 3=0∨c / 8 % 3=1∨c / 8 % 3=2:=by omega
 rcases c3 with z | z | z <;> rw[z] <;> rfl
theorem zeH {l:List Int}{i:Int}(h0:0≤i) (h:i<(l.length:Int)):atI (l.map V.int) i=some (.int (l.getD i.toNat 0)):=by
 have hj:i.toNat<l.length:=by omega
 have:=zaV (xs:=l.map V.int) (j:=i.toNat) (v:=.int l[i.toNat]) (by simp[hj])
 rw[show ((i.toNat:Nat):Int)=i by omega] at this
 rw[this]
 simp[List.getD,hj]
inductive sp_l_second_deed (K:Fg) (vs:List V) (H:Hp) (Q:VK) (E:XK):Prop
 | mk (c count:Int) (na ka:Addr) (numbers kinds:List Int):vs=[.int c,.int count,.ref na,.ref ka]→0≤count→SqL K H na (numbers.map V.int)→SqL K H ka (kinds.map V.int)→numbers.length=kinds.length→0<numbers.length→(∀ v H',Same H H'→New H H' (toD (zcJ c count numbers kinds)) v→Q v H')→sp_l_second_deed K vs H Q E
theorem zeR {f:Addr}{fd:FuncData}(B:Bl K mg) {C:Nat→Addr}(Z:Zt K mg C) (G_l_other_deed:Fn P w K mg base "_law_other_deed" ["cell","count"] 4 (sp_l_other_deed K)) (G_l_free:Fn P w K mg base "_law_free" ["cell"] 3 (zej K)) (F:Fun K "_law_second_deed" "_law_second_deed" s_l_second_deed f fd) (m:mg "_law_second_deed"=some (.ref f)):Fn P w K mg base "_law_second_deed" ["cell","count","numbers","kinds"] 5 (sp_l_second_deed K):=by
 refine Fn.of (k:=4) F zbH m (λ_ _ _ _ _ _ us hl=>match us,hl with | [_,_,_,_],_=>rfl) (λvs H Q E h=>?_) (λcdv A outer s H vs Q E hr h=>?_)
 ·first
  | (obtain⟨_,_,_,_,_,_,rfl,_⟩:=h;rfl)
 obtain⟨c,count,na,ka,numbers,kinds,rfl,hc,hN,hK,hl,h0,q⟩:=h
 refine⟨_,(zag (zaA (i:=4) zbH.nd rfl (Or.inl rfl) (zaB (k_ix K) (za6 (zab zaa (zab zaa (zaI (zao zaU (zao zaG (pv 0) zaa) (zao (zaM K) (zao zgc zaa zaa) zaa)) zad)))) (zao zaU (zao zaG (pv 0) zaa) zaa) (λ_ _=>rfl)))
   (zag (zaA (i:=5) zbH.nd rfl (Or.inl rfl) (zao zaU (pv 0) zaa))
   (zag (zaW (PW.pt (zkh (zas (k_eq K hr) (pv 5) zaa (zau _)) (ziS (zas (k_eq K hr) (pv 5) zaa (zau _))))) (zai (zar (zaL (zab zaJ (zab zaa (zci (za6 (zae (pv 4) (zab zaa (zab zaa (zab zaa (zab zaa (zab zaa (zab zaa (zab zaa (zab zaa zad)))))))))) zad)))))) zav)
   (zag (zaW (zas (k_eq K hr) (pv 5) zaa (zau _)) (zai (zar (zaL (zab zaJ (zab zaa (zci (za6 (zae (pv 4) (zab zaa (zab zaa (zab zaa (zab zaa (zab zaa (zab zaa (zab zaa (zab zaa zad)))))))))) (zab zaa zad))))))) zav)
   (zag (zaW (zas (k_eq K hr) (pv 5) zaa (zau _)) (zai (zar (zaL (zab zaJ (zci (za6 (zae (pv 4) (zab zaa (zab zaa (zab zaa (zab zaa (zjR (zdB zb2 (zao zaU (zao zaG (pv 0) zaa) zaa)) (zab zaa (zab zaa (zab zaa zad)))))))))) zad))))) zav)
   (zag (zaW (zas (k_eq K hr) (pv 5) zaa (zau _)) (zai (zar (zaL (zab zaJ (zab zaa (zaC (zat G_l_free hr rfl (zaI (zao zaG (pv 0) zaa) zad)) zad)))))) zav)
   (zag (zaW (zas (k_eq K hr) (pv 5) zaa (zau _)) (zag (zaA (i:=6) zbH.nd rfl (Or.inl rfl) (zao zaU (zao zaG (pv 0) zaa) (zaP (zdQ K) rfl B.len L2.boot_len (zae (pv 2) zad))))
   (zag (zaW (zas (k_eq K hr) (zaB (k_ix K) (pv 3) (pv 6) (λ_ _=>rfl)) zaa (zau _)) (zai (zar (zaL (zab zaJ (zaE (zaB (k_ix K) (pv 2) (pv 6) (λ_ _=>rfl)) (zd0 (zaL (zab zaa (zab zaa zad))) (zd0 (zaL (zaI (zao (zaM K) zaa (zao zaU (zao zaG (pv 0) zaa) zaa)) (zab zaa zad))) zad))))))) zav)
   (zai (zar (zaL (zab zaJ (zaE (zaB (k_ix K) (pv 2) (pv 6) (λ_ _=>rfl)) (zd0 (zaL (zab zaa (zaI (zao zaU (zao zaG (pv 0) zaa) zaa) zad))) (zd0 (zaL (zaI (zao zaU (zao zaG (pv 0) zaa) zaa) (zaI (zao (zaM K) zaa (zao zaU (zao zaG (pv 0) zaa) zaa)) zad))) zad))))))))) zav)
   (zai (zar (zat G_l_other_deed hr rfl (zaI (zao zaG (pv 0) zaa) (zae (pv 1) zad)))))))))))),?_⟩
 unfold zcJ at q
 walk_at "go"
 refine⟨by show 3≤sizeLine;decide,λp hp=>?_⟩
 have s0:=zah hp (.lst [V.int 0,.int 1,.int (c / 48 % (1000000000+1))])
 walk_at "go"
 refine zbc (SqL.of zaf) (v:=.int (za8 c)) (zlK c) ?_
 walk_at "go"
 have first:(c % 8=0∨c % 8=1)→∀ la t (hla:(upd H p (.lst [V.int 0,.int 1,.int (c / 48 % (1000000000+1))])) la=none) (ht:(upd (upd H p (.lst [V.int 0,.int 1,.int (c / 48 % (1000000000+1))])) la (.lst (([za8 c,1,0,0,0,0,0,0,0]:List Int).map V.int))) t=none),Q (.ref t) (upd (upd (upd H p (.lst [V.int 0,.int 1,.int (c / 48 % (1000000000+1))])) la (.lst (([za8 c,1,0,0,0,0,0,0,0]:List Int).map V.int))) t (.tup [.str "set",.int 0,.ref la])):=λe' la t hla ht=>by
  rw[if_pos e'] at q
  exact q _ _ (s0.trans ((zah hla _).trans (zah ht _))) (zfn (l:=[za8 c,1,0,0,0,0,0,0,0]) (s0.free hla) zaf ht)
 refine ite2 (λe=>?_) (λe=>?_)
 ·walk_at "go"
  refine⟨by show 9≤sizeLine;decide,λla hla=>?_⟩
  walk_at "go"
  exact⟨by show 3≤sizeLine;decide,λt ht=>first (.inl (of_decide_eq_true e)) la t hla ht⟩
 have e0:¬ c % 8=0:=of_decide_eq_false (Bool.eq_false_iff.mpr e)
 walk_at "go"
 refine ite2 (λe=>?_) (λe=>?_)
 ·walk_at "go"
  refine⟨by show 9≤sizeLine;decide,λla hla=>?_⟩
  walk_at "go"
  exact⟨by show 3≤sizeLine;decide,λt ht=>first (.inr (of_decide_eq_true e)) la t hla ht⟩
 have e1:¬ c % 8=1:=of_decide_eq_false (Bool.eq_false_iff.mpr e)
 clear first
 rw[if_neg (show ¬ (c % 8=0∨c % 8=1) by omega)] at q
 walk_at "go"
 refine ite2 (λe=>?_) (λe=>?_)
 ·have e':c % 8=2:=of_decide_eq_true e
  rw[if_pos e'] at q
  walk_at "go"
  refine⟨by show 9≤sizeLine;decide,λla hla=>?_⟩
  have t1:=zah hla (.lst (([za8 c,1,0,0,0,0,0,0,0]:List Int).map V.int))
  walk_at "go"
  refine⟨by show 4≤sizeLine;decide,λt ht=>?_⟩
  exact q _ _ (s0.trans (t1.trans (zah ht _))) (zjg (l:=[za8 c,1,0,0,0,0,0,0,0]) (s0.free hla) zaf ht)
 have e2:¬ c % 8=2:=of_decide_eq_false (Bool.eq_false_iff.mpr e)
 rw[if_neg e2] at q
 walk_at "go"
 refine ite2 (λe=>?_) (λe=>?_)
 ·have e':c % 8=3:=of_decide_eq_true e
  rw[if_pos e'] at q
  walk_at "go"
  refine⟨by show 9≤sizeLine;decide,λla hla=>?_⟩
  have t1:=zah hla (.lst (([za8 c,1,0,0,0,-(c / 24 % 2),0,0,0]:List Int).map V.int))
  walk_at "go"
  refine⟨by show 2≤sizeLine;decide,λt ht=>?_⟩
  exact q _ _ (s0.trans (t1.trans (zah ht _))) (zji (l:=[za8 c,1,0,0,0,-(c / 24 % 2),0,0,0]) (s0.free hla) zaf ht)
 have e3:¬ c % 8=3:=of_decide_eq_false (Bool.eq_false_iff.mpr e)
 rw[if_neg e3] at q
 walk_at "go"
 refine ite2 (λe=>?_) (λe=>?_)
 ·have e':c % 8=4:=of_decide_eq_true e
  rw[if_pos e'] at q
  walk_at "go"
  refine zlI λv H1 s1 n1=>?_
  obtain⟨la,rfl,la0,la1⟩:=New.ints_iff.mp n1
  walk_at "go"
  refine⟨by show 3≤sizeLine;decide,λt ht=>?_⟩
  exact q _ _ (s0.trans (s1.trans (zah ht _))) (zfn (s0.free la0) la1 ht)
 have e4:¬ c % 8=4:=of_decide_eq_false (Bool.eq_false_iff.mpr e)
 rw[if_neg e4] at q
 walk_at "go"
 refine ite2 (λe=>?_) (λe=>?_)
 ·have e':c % 8=5:=of_decide_eq_true e
  rw[if_pos e'] at q
  walk_at "go"
  refine zdP (.inl (s0.seq hN)) ?_
  rw[zlm]
  have hlp:(0:Int)<(numbers.length:Int):=by omega
  walk_at "go"
  have a1:=Int.emod_nonneg (c / 48) (show ((numbers.length:Nat):Int)≠0 by omega)
  have a2:=Int.emod_lt_of_pos (c / 48) hlp
  refine zbc (s0.seq hK) (zeH a1 (by omega)) ?_
  walk_at "go"
  refine ite2 (λe2=>?_) (λe2=>?_)
  ·have e2':kinds.getD (atN c numbers) 0=0:=of_decide_eq_true e2
   rw[if_pos e2'] at q
   walk_at "go"
   refine zbc (s0.seq hN) (zeH a1 a2) ?_
   walk_at "go"
   refine⟨by show 2≤sizeLine;decide,λg hg=>?_⟩
   have t1:=zah hg (.tup [V.int 0,.int 0])
   walk_at "go"
   refine⟨by show 2≤sizeLine;decide,λu hu'=>?_⟩
   have t2:=zah hu' (.tup [V.int (2+c / 96 % 2),.int 1])
   walk_at "go"
   refine⟨by show 4≤sizeLine;decide,λt ht=>?_⟩
   exact q _ _ (s0.trans (t1.trans (t2.trans (zah ht _)))) (zeZ (t2 _ _ zaf) zaf ht)
  ·have e2':¬ kinds.getD (atN c numbers) 0=0:=of_decide_eq_false (Bool.eq_false_iff.mpr e2)
   rw[if_neg e2'] at q
   walk_at "go"
   refine zbc (s0.seq hN) (zeH a1 a2) ?_
   walk_at "go"
   refine⟨by show 2≤sizeLine;decide,λg hg=>?_⟩
   have t1:=zah hg (.tup [V.int 0,.int (c / 96 % 4)])
   walk_at "go"
   refine⟨by show 2≤sizeLine;decide,λu hu'=>?_⟩
   have t2:=zah hu' (.tup [V.int (c / 384 % 2),.int (2+c / 768 % 2)])
   walk_at "go"
   refine⟨by show 4≤sizeLine;decide,λt ht=>?_⟩
   exact q _ _ (s0.trans (t1.trans (t2.trans (zah ht _)))) (zeZ (t2 _ _ zaf) zaf ht)
 have e5:¬ c % 8=5:=of_decide_eq_false (Bool.eq_false_iff.mpr e)
 rw[if_neg e5] at q
 walk_at "go"
 exact⟨_,_,rfl,hc,λv H1 s1 n1=>q v H1 (s0.trans s1) (n1.back s0)⟩
inductive sp_l_first_deed (K:Fg) (vs:List V) (H:Hp) (Q:VK) (E:XK):Prop
 | mk (c count:Int) (na ka:Addr) (numbers kinds:List Int):vs=[.int c,.int count,.ref na,.ref ka]→0≤count→SqL K H na (numbers.map V.int)→SqL K H ka (kinds.map V.int)→numbers.length=kinds.length→0<numbers.length→(∀ v H',Same H H'→New H H' (toD (zdI c count numbers kinds)) v→Q v H')→sp_l_first_deed K vs H Q E
theorem zfR {f:Addr}{fd:FuncData}(B:Bl K mg) {C:Nat→Addr}(Z:Zt K mg C) (G_l_other_deed:Fn P w K mg base "_law_other_deed" ["cell","count"] 4 (sp_l_other_deed K)) (F:Fun K "_law_first_deed" "_law_first_deed" s_l_first_deed f fd) (m:mg "_law_first_deed"=some (.ref f)):Fn P w K mg base "_law_first_deed" ["cell","count","numbers","kinds"] 5 (sp_l_first_deed K):=by
 refine Fn.of (k:=4) F zbd m (λ_ _ _ _ _ _ us hl=>match us,hl with | [_,_,_,_],_=>rfl) (λvs H Q E h=>?_) (λcdv A outer s H vs Q E hr h=>?_)
 ·first
  | (obtain⟨_,_,_,_,_,_,rfl,_⟩:=h;rfl)
 obtain⟨c,count,na,ka,numbers,kinds,rfl,hc,hN,hK,hl,h0,q⟩:=h
 refine⟨_,(zag (zaA (i:=4) zbd.nd rfl (Or.inl rfl) (zaB (k_ix K) (za6 (zab zaa (zab zaa (zaI (zao zaU (zao zaG (pv 0) zaa) (zao (zaM K) (zao zgc zaa zaa) zaa)) zad)))) (zao zaU (zao zaG (pv 0) zaa) zaa) (λ_ _=>rfl)))
   (zag (zaA (i:=5) zbd.nd rfl (Or.inl rfl) (zao zaU (zao zaG (pv 0) zaa) zaa))
   (zag (zaA (i:=6) zbd.nd rfl (Or.inl rfl) (zao zaU (pv 0) zaa))
   (zag (zaW (zas (k_eq K hr) (pv 6) zaa (zau _)) (zai (zar (zaL (zab zaJ (zae (pv 5) (zci (za6 (zae (pv 4) (zab zaa (zab zaa (zab zaa (zab zaa (zab zaa (zab zaa (zab zaa (zab zaa zad)))))))))) zad)))))) zav)
   (zag (zaW (zas (k_eq K hr) (pv 6) zaa (zau _)) (zai (zar (zaL (zab zaJ (zae (pv 5) (zci (za6 (zae (pv 4) (zae (pv 5) (zaI (zao zgb zaa (pv 5)) (zab zaa (zab zaa (zab zaa (zab zaa (zab zaa (zab zaa zad)))))))))) zad)))))) zav)
   (zag (zaW (zas (k_eq K hr) (pv 6) zaa (zau _)) (zai (zar (zaL (zab zaJ (zae (pv 5) (zci (za6 (zae (pv 4) (zab zaa (zaI (zao zaU (zao zaG (pv 0) zaa) zaa) (zab zaa (zab zaa (zab zaa (zab zaa (zab zaa (zab zaa zad)))))))))) (zaI (zao (zaM K) zaa (zao zaU (zao zaG (pv 0) zaa) zaa)) zad))))))) zav)
   (zag (zaW (zas (k_eq K hr) (pv 6) zaa (zau _)) (zai (zar (zaL (zab zaJ (zae (pv 5) (zaI (zao zaU (zao zaG (pv 0) zaa) zaa) (zaC (zaP (znN rfl) rfl B.max L2.zgI (zab zaa (zae (pv 4) zad))) zad))))))) zav)
   (zag (zaW (zas (k_eq K hr) (pv 6) zaa (zau _)) (zai (zar (zaL (zab zaJ (zci (za6 (zae (pv 4) (zab zaa (zae (pv 5) (zab zaa (zab zaa (zab zaa (zab zaa (zab zaa (zab zaa zad)))))))))) zad))))) zav)
   (zag (zaW (zas (k_eq K hr) (pv 6) zaa (zau _)) (zag (zaA (i:=7) zbd.nd rfl (Or.inl rfl) (zao zaU (zao zaG (pv 0) zaa) (zaP (zdQ K) rfl B.len L2.boot_len (zae (pv 2) zad))))
   (zag (zaW (zas (k_eq K hr) (zaB (k_ix K) (pv 3) (pv 7) (λ_ _=>rfl)) zaa (zau _)) (zag (zaA (i:=8) zbd.nd rfl (Or.inl rfl) (zao zaU (zao zaG (pv 0) zaa) zaa))
   (zag (zaA (i:=9) zbd.nd rfl (Or.inl rfl) (zaL (zae (pv 8) (zaI (zao zaU (zao (zaM K) (zao (zaM K) (pv 8) zaa) (zao zaU (zao zaG (pv 0) zaa) zaa)) zaa) zad))))
   (zai (zar (zaL (zab zaJ (zaE (zaB (k_ix K) (pv 2) (pv 7) (λ_ _=>rfl)) (zd0 (zaL (zae (pv 5) (zaI (zao zaU (zao zaG (pv 0) zaa) zaa) zad))) (zae (pv 9) zad))))))))) zav)
   (zai (zar (zaL (zab zaJ (zaE (zaB (k_ix K) (pv 2) (pv 7) (λ_ _=>rfl)) (zd0 (zaL (zae (pv 5) (zaI (zao zaU (zao zaG (pv 0) zaa) zaa) zad))) (zd0 (zaL (zaI (zao zaU (zao zaG (pv 0) zaa) zaa) (zaI (zao (zaM K) zaa (zao zaU (zao zaG (pv 0) zaa) zaa)) zad))) zad))))))))) zav)
   (zai (zar (zat G_l_other_deed hr rfl (zaI (zao zaG (pv 0) zaa) (zae (pv 1) zad)))))))))))))),?_⟩
 unfold zdI at q
 walk_at "go"
 refine⟨by show 3≤sizeLine;decide,λp hp=>?_⟩
 have s0:=zah hp (.lst [V.int 0,.int 1,.int (c / 48 % (1000000000+1))])
 walk_at "go"
 refine zbc (SqL.of zaf) (v:=.int (za8 c)) (zlK c) ?_
 walk_at "go"
 refine ite2 (λe=>?_) (λe=>?_)
 ·have e':c % 8=0:=of_decide_eq_true e
  rw[if_pos e'] at q
  walk_at "go"
  refine⟨by show 9≤sizeLine;decide,λla hla=>?_⟩
  have t1:=zah hla (.lst (([za8 c,1,1,0,0,0,0,0,0]:List Int).map V.int))
  walk_at "go"
  refine⟨by show 3≤sizeLine;decide,λt ht=>?_⟩
  exact q _ _ (s0.trans (t1.trans (zah ht _))) (zfn (l:=[za8 c,1,1,0,0,0,0,0,0]) (s0.free hla) zaf ht)
 have e0:¬ c % 8=0:=of_decide_eq_false (Bool.eq_false_iff.mpr e)
 rw[if_neg e0] at q
 walk_at "go"
 refine ite2 (λe=>?_) (λe=>?_)
 ·have e':c % 8=1:=of_decide_eq_true e
  rw[if_pos e'] at q
  walk_at "go"
  refine⟨by show 9≤sizeLine;decide,λla hla=>?_⟩
  have t1:=zah hla (.lst (([za8 c,c / 24 % 2,1 - c / 24 % 2,0,0,0,0,0,0]:List Int).map V.int))
  walk_at "go"
  refine⟨by show 3≤sizeLine;decide,λt ht=>?_⟩
  exact q _ _ (s0.trans (t1.trans (zah ht _))) (zfn (l:=[za8 c,c / 24 % 2,1 - c / 24 % 2,0,0,0,0,0,0]) (s0.free hla) zaf ht)
 have e1:¬ c % 8=1:=of_decide_eq_false (Bool.eq_false_iff.mpr e)
 rw[if_neg e1] at q
 walk_at "go"
 refine ite2 (λe=>?_) (λe=>?_)
 ·have e':c % 8=2:=of_decide_eq_true e
  rw[if_pos e'] at q
  walk_at "go"
  refine⟨by show 9≤sizeLine;decide,λla hla=>?_⟩
  have t1:=zah hla (.lst (([za8 c,1,c / 48 % 2,0,0,0,0,0,0]:List Int).map V.int))
  walk_at "go"
  refine⟨by show 4≤sizeLine;decide,λt ht=>?_⟩
  exact q _ _ (s0.trans (t1.trans (zah ht _))) (zjg (l:=[za8 c,1,c / 48 % 2,0,0,0,0,0,0]) (s0.free hla) zaf ht)
 have e2:¬ c % 8=2:=of_decide_eq_false (Bool.eq_false_iff.mpr e)
 rw[if_neg e2] at q
 walk_at "go"
 refine ite2 (λe=>?_) (λe=>?_)
 ·have e':c % 8=3:=of_decide_eq_true e
  rw[if_pos e'] at q
  walk_at "go"
  refine znQ ?_
  walk_at "go"
  refine⟨by show 4≤sizeLine;decide,λt ht=>?_⟩
  exact q _ _ (s0.trans (zah ht _)) (zjh ht)
 have e3:¬ c % 8=3:=of_decide_eq_false (Bool.eq_false_iff.mpr e)
 rw[if_neg e3] at q
 walk_at "go"
 refine ite2 (λe=>?_) (λe=>?_)
 ·have e':c % 8=4:=of_decide_eq_true e
  rw[if_pos e'] at q
  walk_at "go"
  refine⟨by show 9≤sizeLine;decide,λla hla=>?_⟩
  have t1:=zah hla (.lst (([za8 c,1,c / 24 % 2,0,0,0,0,0,0]:List Int).map V.int))
  walk_at "go"
  refine⟨by show 2≤sizeLine;decide,λt ht=>?_⟩
  exact q _ _ (s0.trans (t1.trans (zah ht _))) (zji (l:=[za8 c,1,c / 24 % 2,0,0,0,0,0,0]) (s0.free hla) zaf ht)
 have e4:¬ c % 8=4:=of_decide_eq_false (Bool.eq_false_iff.mpr e)
 rw[if_neg e4] at q
 walk_at "go"
 refine ite2 (λe=>?_) (λe=>?_)
 ·have e':c % 8=5:=of_decide_eq_true e
  rw[if_pos e'] at q
  walk_at "go"
  refine zdP (.inl (s0.seq hN)) ?_
  rw[zlm]
  have hlp:(0:Int)<(numbers.length:Int):=by omega
  walk_at "go"
  have a1:=Int.emod_nonneg (c / 48) (show ((numbers.length:Nat):Int)≠0 by omega)
  have a2:=Int.emod_lt_of_pos (c / 48) hlp
  refine zbc (s0.seq hK) (zeH a1 (by omega)) ?_
  walk_at "go"
  refine ite2 (λe2=>?_) (λe2=>?_)
  ·have e2':kinds.getD (atN c numbers) 0=0:=of_decide_eq_true e2
   rw[if_pos e2'] at q
   walk_at "go"
   refine⟨by show 2≤sizeLine;decide,λu hu'=>?_⟩
   have t1:=zah hu' (.tup [V.int (c / 192 % 4),.int ((c / 192 % 4+1+c / 768 % 3) % 4)])
   walk_at "go"
   refine zbc ((s0.trans t1).seq hN) (zeH a1 a2) ?_
   walk_at "go"
   refine⟨by show 2≤sizeLine;decide,λg hg=>?_⟩
   have t2:=zah hg (.tup [V.int (c / 24 % 2),.int (c / 96 % 2)])
   walk_at "go"
   refine⟨by show 4≤sizeLine;decide,λt ht=>?_⟩
   exact q _ _ (s0.trans (t1.trans (t2.trans (zah ht _)))) (zeZ zaf (t2 _ _ zaf) ht)
  ·have e2':¬ kinds.getD (atN c numbers) 0=0:=of_decide_eq_false (Bool.eq_false_iff.mpr e2)
   rw[if_neg e2'] at q
   walk_at "go"
   refine zbc (s0.seq hN) (zeH a1 a2) ?_
   walk_at "go"
   refine⟨by show 2≤sizeLine;decide,λg hg=>?_⟩
   have t1:=zah hg (.tup [V.int (c / 24 % 2),.int (c / 96 % 4)])
   walk_at "go"
   refine⟨by show 2≤sizeLine;decide,λu hu'=>?_⟩
   have t2:=zah hu' (.tup [V.int (c / 384 % 2),.int (2+c / 768 % 2)])
   walk_at "go"
   refine⟨by show 4≤sizeLine;decide,λt ht=>?_⟩
   exact q _ _ (s0.trans (t1.trans (t2.trans (zah ht _)))) (zeZ (t2 _ _ zaf) zaf ht)
 have e5:¬ c % 8=5:=of_decide_eq_false (Bool.eq_false_iff.mpr e)
 rw[if_neg e5] at q
 walk_at "go"
 exact⟨_,_,rfl,hc,λv H1 s1 n1=>q v H1 (s0.trans s1) (n1.back s0)⟩
def zfS (K:Fg):Sp:=λvs H Q _=>∃ i:Int,vs=[.int i]∧0≤i∧∀ v H',Same H H'→New H H' (nums (zbK i)) v→Q v H'
theorem zc8 {H:Hp}{Q:VK}{E:XK}{i:Int}(h:0≤i) (q:∀ v H',Same H H'→New H H' (nums (zbK i)) v→Q v H'):zfS K [.int i] H Q E:=⟨i,rfl,h,q⟩
theorem zlL {f:Addr}{fd:FuncData}(B:Bl K mg) {C:Nat→Addr}(Z:Zt K mg C)  (F:Fun K "_law_bare" "_law_bare" s_l_bare f fd) (m:mg "_law_bare"=some (.ref f)):Fn P w K mg base "_law_bare" ["i"] 1 (zfS K):=by
 refine Fn.of (k:=0) F zlC m (λ_ _ _ _ _ _ us hl=>match us,hl with | [_],_=>rfl) (λvs H Q E h=>?_) (λcdv A outer s H vs Q E hr h=>?_)
 ·first
  | (obtain⟨_,rfl,_⟩:=h;rfl)
 obtain⟨i,rfl,h0,q⟩:=h
 refine⟨_,(zai (zar (zbI rfl (CompOk.m (sc0:=zac s_l_bare) (N:=["i"]) (N':=["i","k"]) (ms:=[false,true])) (zbD rfl B.range (zab zaa zad)) (λ_ _ _ _ _=>(zay (i:=1) (ndS (N:=["i","k"])) rfl (Or.inl rfl))) (λ_ _ _ _ _=>zaY) (λ_ _ _ _ _=>(zbU c_int rfl B.int L2.zmn (zpz (zbB (k_eq K hr) (pv 1) (zao (zaM K) (pv 0) zaa) (zau _)) zad)))))),?_⟩
 walk_at "go"
 refine zcH (by decide) (by decide) ?_
 refine zaZ (n:=9) zbS ((zbK i).map D.int) (by simp[zbK]) (by decide) (λj x d H1 R hj hd s1 hx hR=>?_) (λv H1 s1 n1=>?_)
 ·subst hx
  rw[←zmz h0,List.map_map] at hd
  have hd':=zdg hd
  subst hd'
  walk_at "go"
  refine zpi ?_
  exact hR _ _ (Same.refl _) New.int
 ·walk_at "go"
  exact q _ _ s1 n1
inductive sp_l_sworn_parts (K:Fg) (vs:List V) (H:Hp) (Q:VK) (E:XK):Prop
 | mk (kind:Int) (ca na ka:Addr) (cells numbers kinds:List Int):vs=[.int kind,.ref ca,.ref na,.ref ka]→SqL K H ca (cells.map V.int)→SqL K H na (numbers.map V.int)→SqL K H ka (kinds.map V.int)→numbers.length=kinds.length→0<numbers.length→cells.length≤8→(∀ v H',Same H H'→New H H' (crD (crK kind cells numbers kinds)) v→Q v H')→sp_l_sworn_parts K vs H Q E
theorem zeS {f:Addr}{fd:FuncData}(B:Bl K mg) {C:Nat→Addr}(Z:Zt K mg C) (G_l_second_deed:Fn P w K mg base "_law_second_deed" ["cell","count","numbers","kinds"] 5 (sp_l_second_deed K)) (G_l_first_deed:Fn P w K mg base "_law_first_deed" ["cell","count","numbers","kinds"] 5 (sp_l_first_deed K)) (G_l_bare:Fn P w K mg base "_law_bare" ["i"] 1 (zfS K)) (F:Fun K "_law_sworn_parts" "_law_sworn_parts" s_l_sworn_parts f fd) (m:mg "_law_sworn_parts"=some (.ref f)):Fn P w K mg base "_law_sworn_parts" ["kind","cells","numbers","kinds"] 6 (sp_l_sworn_parts K):=by
 refine Fn.of (k:=5) F za5 m (λ_ _ _ _ _ _ us hl=>match us,hl with | [_,_,_,_],_=>rfl) (λvs H Q E h=>?_) (λcdv A outer s H vs Q E hr h=>?_)
 ·first
  | (obtain⟨_,_,_,_,_,_,_,rfl,_⟩:=h;rfl)
 obtain⟨kind,ca,na,ka,cells,numbers,kinds,rfl,hC,hN,hK,hl,h0,c8,q⟩:=h
 refine⟨_,(zag (zaA (i:=4) za5.nd rfl (Or.inr rfl) (zaP (zdQ K) rfl B.len L2.boot_len (zae (pv 1) zad)))
   (zag (zaW (zas (k_eq K hr) (pv 0) zaa (zau _)) (zag (zbu (i:=5) za5.nd rfl rfl rfl (CompOk.m (sc0:=zac s_l_sworn_parts) (N:=["kind","cells","numbers","kinds","count","deeds","needs","notes"]) (N':=["kind","cells","numbers","kinds","count","deeds","needs","notes","cell"]) (ms:=[false,false,false,false,false,false,false,false,true])) (zbp K (pv 1)) (λ_ _ _ _ _=>(zay (i:=8) (ndS (N:=["kind","cells","numbers","kinds","count","deeds","needs","notes","cell"])) rfl (Or.inl rfl))) (λ_ _ _ _ _=>zaY) (λ_ _ _ _ _=>(zat G_l_first_deed hr rfl (zae (pv 8) (zae (pv 4) (zae (pv 2) (zae (pv 3) zad)))))))
   (zag (zaA (i:=6) za5.nd rfl (Or.inl rfl) (za6 (zaC (zat G_l_bare hr rfl (zab zaa zad)) (zaC (zat G_l_bare hr rfl (zab zaa zad)) zad))))
   (zag (zbu (i:=7) za5.nd rfl rfl rfl (CompOk.m (sc0:=zac s_l_sworn_parts) (N:=["kind","cells","numbers","kinds","count","deeds","needs","notes"]) (N':=["kind","cells","numbers","kinds","count","deeds","needs","notes","cell"]) (ms:=[false,false,false,false,false,false,false,false,true])) (zbp K (pv 1)) (λ_ _ _ _ _=>(zay (i:=8) (ndS (N:=["kind","cells","numbers","kinds","count","deeds","needs","notes","cell"])) rfl (Or.inl rfl))) (λ_ _ _ _ _=>zaY) (λ_ _ _ _ _=>(za6 (zaC (zat G_l_bare hr rfl (zab zaa zad)) (zaC (zat G_l_bare hr rfl (zab zaa zad)) zad)))))
   (zai (zar (za6 (zae (pv 6) (zci (za6 (zaC (zat G_l_bare hr rfl (zab zaa zad)) (zaC (zat G_l_bare hr rfl (zab zaa zad)) zad))) (zae (pv 5) (zae (pv 7) zad)))))))))) zav)
   (zag (zbu (i:=5) za5.nd rfl rfl rfl (CompOk.m (sc0:=zac s_l_sworn_parts) (N:=["kind","cells","numbers","kinds","count","deeds","needs","notes"]) (N':=["kind","cells","numbers","kinds","count","deeds","needs","notes","cell"]) (ms:=[false,false,false,false,false,false,false,false,true])) (zbp K (pv 1)) (λ_ _ _ _ _=>(zay (i:=8) (ndS (N:=["kind","cells","numbers","kinds","count","deeds","needs","notes","cell"])) rfl (Or.inl rfl))) (λ_ _ _ _ _=>zaY) (λ_ _ _ _ _=>(zat G_l_second_deed hr rfl (zae (pv 8) (zae (pv 4) (zae (pv 2) (zae (pv 3) zad)))))))
   (zag (zbu (i:=7) za5.nd rfl rfl rfl (CompOk.m (sc0:=zac s_l_sworn_parts) (N:=["kind","cells","numbers","kinds","count","deeds","needs","notes"]) (N':=["kind","cells","numbers","kinds","count","deeds","needs","notes","cell"]) (ms:=[false,false,false,false,false,false,false,false,true])) (zbp K (pv 1)) (λ_ _ _ _ _=>(zay (i:=8) (ndS (N:=["kind","cells","numbers","kinds","count","deeds","needs","notes","cell"])) rfl (Or.inl rfl))) (λ_ _ _ _ _=>zaY) (λ_ _ _ _ _=>(za6 (zci (za6 (zab zaa (zab zaa (zab zaa (zab zaa (zab zaa (zjR (zdB zb2 zaa) (zab zaa (zab zaa (zab zaa zad)))))))))) (zaC (zat G_l_bare hr rfl (zab zaa zad)) zad)))))
   (zai (zar (za6 (zci (za6 (zaC (zat G_l_bare hr rfl (zab zaa zad)) zad)) (zci (za6 (zci (za6 (zab zaa (zab zaa (zab zaa (zab zaa (zab zaa (zjR (zdB zb2 zaa) (zab zaa (zab zaa (zab zaa zad)))))))))) (zaC (zat G_l_bare hr rfl (zab zaa zad)) zad))) (zae (pv 5) (zae (pv 7) zad))))))))))),?_⟩
 unfold crD crK at q
 dsimp only at q
 walk_at "q"
 walk_at "gs"
 refine zdP (.inl hC) ?_
 rw[zlm]
 walk_at "gs"
 walk_at "q"
 walk_at "gs"
 refine ite2 (λe=>?_) (λe=>?_)
 ·have e':kind=0:=of_decide_eq_true e
  have eo:zb9 kind=([zbK 4,zbK 5],[zbK 6,zbK 7]):=by unfold zb9;rw[if_pos e']
  have en:zdJ kind=[zbK 0,zbK 1]:=by unfold zdJ;rw[if_pos e']
  have ed:(cells.map λc=>zgN kind c cells.length numbers kinds)=cells.map λc=>zdI c cells.length numbers kinds:=List.map_congr_left λc _=>by unfold zgN;rw[if_pos e']
  rw[eo,en,ed] at q
  walk_at "q"
  walk_at "gs"
  refine⟨ca,rfl,⟨_,hC⟩,?_⟩
  refine zaZ (zbg hC) ((cells.map λc=>zdI c cells.length numbers kinds).map toD) (by simp) (zaz (by rw[zlm];omega)) (λj x d H1 R hj hd s1 hx hR=>?_) (λv3 H1 s1 n1=>?_)
  ·rw[zgm] at hx
   obtain⟨c,hc,rfl⟩:=zme.mp hx
   rw[zgm,zgm,hc] at hd
   cases hd
   walk_at "gs"
   exact⟨c,_,na,ka,numbers,kinds,rfl,by omega,s1.seq hN,s1.seq hK,hl,h0,λv H2 s2 n2=>hR v H2 s2 n2⟩
  walk_at "gs"
  walk_at "q"
  walk_at "gs"
  refine zc8 (by decide) λu1 H2 s2 n2=>?_
  walk_at "gs"
  refine zc8 (by decide) λu2 H3 s3 n3=>?_
  walk_at "gs"
  refine⟨(by walk_at "sm"),λp1 hp1=>?_⟩
  have k1:=zfo s2 n2 s3 n3 hp1
  have t1:=s2.trans (s3.trans (zah hp1 (.lst [u1,u2])))
  generalize (upd H3 p1 (.lst [u1,u2]))=H4 at k1 t1
  walk_at "gs"
  walk_at "q"
  walk_at "gs"
  have t01:=s1.trans t1
  refine⟨ca,rfl,⟨_,t01.seq hC⟩,?_⟩
  refine zaZ (zbg (t01.seq hC)) ((cells.map λ_=>[zbK 0,zbK 1]).map zaN) (by simp) (zaz (by rw[zlm];omega)) (λj x d H5 R hj hd s5 hx hR=>?_) (λv4 H5 s5 n5=>?_)
  ·rw[zgm,zgm] at hd
   obtain⟨b,hb,rfl⟩:=zme.mp hd
   obtain⟨c,hc,rfl⟩:=zme.mp hb
   walk_at "gs"
   refine zc8 (by decide) λu3 H6 s6 n6=>?_
   walk_at "gs"
   refine zc8 (by decide) λu4 H7 s7 n7=>?_
   walk_at "gs"
   exact⟨(by walk_at "sm"),λp hp=>hR _ _ (s6.trans (s7.trans (zah hp _))) (zfo s6 n6 s7 n7 hp)⟩
  walk_at "gs"
  refine zc8 (by decide) λu5 H6 s6 n6=>?_
  walk_at "gs"
  refine zc8 (by decide) λu6 H7 s7 n7=>?_
  walk_at "gs"
  refine⟨(by walk_at "sm"),λp2 hp2=>?_⟩
  have k2:=zfo s6 n6 s7 n7 hp2
  have t2:=s6.trans (s7.trans (zah hp2 (.lst [u5,u6])))
  generalize (upd H7 p2 (.lst [u5,u6]))=H8 at k2 t2
  walk_at "gs"
  refine⟨(by walk_at "sm"),λp3 hp3=>?_⟩
  have w1:News H H1 [.lst ((cells.map λc=>zdI c cells.length numbers kinds).map toD)] [v3]:=News.nil.snoc (H1:=H) (Same.refl H) s1 n1
  have w2:=w1.snoc s1 t1 k1
  have w3:=w2.snoc t01 s5 n5
  have w4:=w3.snoc (t01.trans s5) t2 k2
  have st:=(t01.trans s5).trans t2
  exact q _ _ (st.trans (zah hp3 _)) ((News.perm4 w4).lst st hp3)
 ·have e':¬ kind=0:=of_decide_eq_false (Bool.eq_false_iff.mpr e)
  have eo:zb9 kind=([zbK 4],[[0,0,0,0,0,-1,0,1,0],zbK 6]):=by unfold zb9;rw[if_neg e']
  have en:zdJ kind=[e1,zbK 4]:=by unfold zdJ;rw[if_neg e']
  have ed:(cells.map λc=>zgN kind c cells.length numbers kinds)=cells.map λc=>zcJ c cells.length numbers kinds:=List.map_congr_left λc _=>by unfold zgN;rw[if_neg e']
  rw[eo,en,ed] at q
  walk_at "gs"
  walk_at "q"
  walk_at "gs"
  refine⟨ca,rfl,⟨_,hC⟩,?_⟩
  refine zaZ (zbg hC) ((cells.map λc=>zcJ c cells.length numbers kinds).map toD) (by simp) (zaz (by rw[zlm];omega)) (λj x d H1 R hj hd s1 hx hR=>?_) (λv3 H1 s1 n1=>?_)
  ·rw[zgm] at hx
   obtain⟨c,hc,rfl⟩:=zme.mp hx
   rw[zgm,zgm,hc] at hd
   cases hd
   walk_at "gs"
   exact⟨c,_,na,ka,numbers,kinds,rfl,by omega,s1.seq hN,s1.seq hK,hl,h0,λv H2 s2 n2=>hR v H2 s2 n2⟩
  walk_at "gs"
  walk_at "q"
  walk_at "gs"
  refine⟨ca,rfl,⟨_,s1.seq hC⟩,?_⟩
  refine zaZ (zbg (s1.seq hC)) ((cells.map λ_=>[e1,zbK 4]).map zaN) (by simp) (zaz (by rw[zlm];omega)) (λj x d H5 R hj hd s5 hx hR=>?_) (λv4 H5 s5 n5=>?_)
  ·rw[zgm,zgm] at hd
   obtain⟨b,hb,rfl⟩:=zme.mp hd
   obtain⟨c,hc,rfl⟩:=zme.mp hb
   walk_at "gs"
   refine⟨(by walk_at "sm"),λla hla=>?_⟩
   have t6:=zah hla (.lst (e1.map V.int))
   have n6:New H5 (upd H5 la (.lst (e1.map V.int))) (nums e1) (.ref la):=New.ints_iff.mpr ⟨la,rfl,hla,zaf⟩
   walk_at "gs"
   refine zc8 (by decide) λu4 H7 s7 n7=>?_
   walk_at "gs"
   exact⟨(by walk_at "sm"),λp hp=>hR _ _ (t6.trans (s7.trans (zah hp _))) (zfo t6 n6 s7 n7 hp)⟩
  have s15:=s1.trans s5
  walk_at "gs"
  refine zc8 (by decide) λu1 H6 s6 n6=>?_
  walk_at "gs"
  refine⟨(by walk_at "sm"),λp1 hp1=>?_⟩
  have k1:=zn7 s6 n6 hp1
  have t1:=s6.trans (zah hp1 (.lst [u1]))
  generalize (upd H6 p1 (.lst [u1]))=H7 at k1 t1
  walk_at "gs"
  refine⟨(by walk_at "sm"),λla hla=>?_⟩
  have t8:=zah hla (.lst (([0,0,0,0,0,-1,0,1,0]:List Int).map V.int))
  have n8:New H7 (upd H7 la (.lst (([0,0,0,0,0,-1,0,1,0]:List Int).map V.int))) (nums [0,0,0,0,0,-1,0,1,0]) (.ref la):=New.ints_iff.mpr ⟨la,rfl,hla,zaf⟩
  walk_at "gs"
  refine zc8 (by decide) λu2 H9 s9 n9=>?_
  walk_at "gs"
  refine⟨(by walk_at "sm"),λp2 hp2=>?_⟩
  have k2:=zfo t8 n8 s9 n9 hp2
  have t2:=t8.trans (s9.trans (zah hp2 (.lst [.ref la,u2])))
  generalize (upd H9 p2 (.lst [.ref la,u2]))=Ha at k2 t2
  walk_at "gs"
  refine⟨(by walk_at "sm"),λp3 hp3=>?_⟩
  have w1:News H H1 [.lst ((cells.map λc=>zcJ c cells.length numbers kinds).map toD)] [v3]:=News.nil.snoc (H1:=H) (Same.refl H) s1 n1
  have w2:=w1.snoc s1 s5 n5
  have w3:=w2.snoc s15 t1 k1
  have w4:=w3.snoc (s15.trans t1) t2 k2
  have st:=(s15.trans t1).trans t2
  exact q _ _ (st.trans (zah hp3 _)) ((News.perm4' w4).lst st hp3)
def zcq (ns:List Int) (start size:Int) (k:Nat):List Int:=(List.range (1+mix (cell ns (start+2)) (0+(k:Int)) size).toNat).map λ(i:Nat)=>cell ns (start+3+size * (0+(k:Int))+(0+(i:Int)))+48271 * (0+(i:Int))
def ziN (numbers kinds:List Int) (cells:Nat→List Int) (k:Nat):D:=.tup [.int (numbers.getD k 0),crD (crOf numbers kinds cells k)]
theorem New.pairD {H H1:Hp}{n:Int}{d:D}{v:V}{t:Addr}(k:New H H1 d v) (ht:H1 t=none):New H (upd H1 t (.tup [.int n,v])) (.tup [.int n,d]) (.ref t):=by
 obtain⟨fp,h1,h2,h3⟩:=k
 have h1':=RepF.sq (zah ht (.tup [.int n,v])).sq _ h1
 have:=zaj.cint (i:=n) (zaj.cany h1' zaj.nil)
 rw[List.append_nil] at this
 exact New.tup this h2 h3 zaf
inductive sp_l_hall_parts (K:Fg) (vs:List V) (H:Hp) (Q:VK) (E:XK):Prop
 | mk (a:Addr) (start many size:Int) (ns:List Int):vs=[.ref a,.int start,.int many,.int size]→SqL K H a (ns.map V.int)→0≤start→1≤many→many≤3→1≤size→size≤8→(∀ v H' numbers kinds (cells:Nat→List Int),Same H H'→HallParts many size numbers kinds cells→New H H' (.lst ((List.range many.toNat).map (ziN numbers kinds cells))) v→Q v H')→sp_l_hall_parts K vs H Q E
theorem zfT {f:Addr}{fd:FuncData}(B:Bl K mg) {C:Nat→Addr}(Z:Zt K mg C) (G_l_mix:Fn P w K mg base "_law_mix" ["cell","k","many"] 1 (sp_l_mix K)) (G_l_cell_at:Fn P w K mg base "_law_cell_at" ["script","k"] 1 (sp_l_cell_at K)) (G_l_sworn_parts:Fn P w K mg base "_law_sworn_parts" ["kind","cells","numbers","kinds"] 6 (sp_l_sworn_parts K)) (F:Fun K "_law_hall_parts" "_law_hall_parts" s_l_hall_parts f fd) (m:mg "_law_hall_parts"=some (.ref f)):Fn P w K mg base "_law_hall_parts" ["script","start","many","size"] 7 (sp_l_hall_parts K):=by
 refine Fn.of (k:=6) F zaT m (λ_ _ _ _ _ _ us hl=>match us,hl with | [_,_,_,_],_=>rfl) (λvs H Q E h=>?_) (λcdv A outer s H vs Q E hr h=>?_)
 ·first
  | (obtain⟨_,_,_,_,_,rfl,_⟩:=h;rfl)
 obtain⟨a,start,many,size,ns,rfl,hS,st0,m1,m3,z1,z8,q⟩:=h
 refine⟨_,(zag (zaA (i:=4) zaT.nd rfl (Or.inl rfl) (za6 zad))
   (zag (zdW PassesOwn.never rfl (zbD rfl B.range (zae (pv 2) zad)) (zay (i:=5) zaT.nd rfl (Or.inr rfl)) (zag (zaA (i:=6) zaT.nd rfl (Or.inl rfl) (zat G_l_mix hr rfl (zaC (zat G_l_cell_at hr rfl (zae (pv 0) (zae (pv 1) zad))) (zae (pv 5) (zab zaa zad)))))
   (zag (zgx PassesOwn.never (zas (k_in K) (pv 6) (pv 4) rfl) (zai (zaA (i:=6) zaT.nd rfl (Or.inl rfl) (zao zaU (zao (zaM K) (pv 6) zaa) zaa))))
   (zai (zaS (zl0 PySem.F.plainAttrs_list PySem.F.slot_list_append PySem.F.type_list_append zdX (pv 4) (zae (pv 6) zad)))))))
   (zag (zbu (i:=7) zaT.nd rfl rfl rfl (CompOk.m (sc0:=zac s_l_hall_parts) (N:=["script","start","many","size","numbers","k","number","kinds","found","count","cells"]) (N':=["script","start","many","size","numbers","k","number","kinds","found","count","cells"]) (ms:=[false,false,false,false,false,true,false,false,false,false,false])) (zbD rfl B.range (zae (pv 2) zad)) (λ_ _ _ _ _=>(zay (i:=5) (ndS (N:=["script","start","many","size","numbers","k","number","kinds","found","count","cells"])) rfl (Or.inl rfl))) (λ_ _ _ _ _=>zaY) (λ_ _ _ _ _=>(zat G_l_mix hr rfl (zaC (zat G_l_cell_at hr rfl (zae (pv 0) (zaI (zao (zaM K) (pv 1) zaa) zad))) (zae (pv 5) (zab zaa zad))))))
   (zag (zaA (i:=8) zaT.nd rfl (Or.inl rfl) (za6 zad))
   (zag (zdW PassesOwn.never rfl (zbD rfl B.range (zae (pv 2) zad)) (zay (i:=5) zaT.nd rfl (Or.inr rfl)) (zag (zaA (i:=9) zaT.nd rfl (Or.inl rfl) (zao (zaM K) zaa (zat G_l_mix hr rfl (zaC (zat G_l_cell_at hr rfl (zae (pv 0) (zaI (zao (zaM K) (pv 1) zaa) zad))) (zae (pv 5) (zae (pv 3) zad))))))
   (zag (zbu (i:=10) zaT.nd rfl rfl rfl (CompOk.m (sc0:=zac s_l_hall_parts) (N:=["script","start","many","size","numbers","k","number","kinds","found","count","cells"]) (N':=["script","start","many","size","numbers","k","number","kinds","found","count","cells","i"]) (ms:=[false,false,false,false,false,false,false,false,false,false,false,true])) (zbD rfl B.range (zae (pv 9) zad)) (λ_ _ _ _ _=>(zay (i:=11) (ndS (N:=["script","start","many","size","numbers","k","number","kinds","found","count","cells","i"])) rfl (Or.inl rfl))) (λ_ _ _ _ _=>zaY) (λ_ _ _ _ _=>(zao (zaM K) (zat G_l_cell_at hr rfl (zae (pv 0) (zaI (zao (zaM K) (zao (zaM K) (zao (zaM K) (pv 1) zaa) (zao zb5 (pv 3) (pv 5))) (pv 11)) zad))) (zao zb5 zaa (pv 11)))))
   (zai (zaS (zl0 PySem.F.plainAttrs_list PySem.F.slot_list_append PySem.F.type_list_append zdX (pv 8) (zd0 (zaL (zaE (zaB (k_ix K) (pv 4) (pv 5) (λ_ _=>rfl)) (zaC (zat G_l_sworn_parts hr rfl (zaE (zaB (k_ix K) (pv 7) (pv 5) (λ_ _=>rfl)) (zae (pv 10) (zae (pv 4) (zae (pv 7) zad))))) zad))) zad)))))))
   (zai (zar (pv 8)))))))),?_⟩
 walk_at "q"
 walk_at "gs"
 refine⟨(by walk_at "sm"),λna na0=>?_⟩
 have s0:=zah na0 (.lst [])
 have hna0:(upd H na (.lst [])) na=some (.lst (([]:List Int).map V.int)):=zaf
 generalize (upd H na (.lst []))=H0 at s0 hna0
 walk_at "gs"
 walk_at "q"
 walk_at "gs"
 refine zcH (by omega) (by omega) ?_
 refine zid (λi σ H2=>E3 λx y nn=>A6 (σ=[some (.ref a),some (.int start),some (.int many),some (.int size),some (.ref na),x,y,none,none,none,none]) (Same H H2) (H2 na=some (.lst ((nn:List Int).map V.int))) (nn.length=i) (nn.Nodup) (∀ n∈nn,0≤n∧n<100))
  ⟨none,none,[],rfl,s0,hna0,rfl,List.nodup_nil,λn hn=>by cases hn⟩ ?_ ?_
 ·rintro i σ H2 hi ⟨x,y,nn,rfl,s2,hna,ln,nnd,nb⟩
  have hi':i<many.toNat:=hi
  walk_at "gs"
  walk_at "q"
  walk_at "gs"
  refine zcp (s2.seq hS) st0 ?_
  walk_at "gs"
  refine zc7 (by decide) ?_
  have b1:=za3 (c:=cell ns start) (k:=0+(i:Int)) (m:=100) (by decide)
  have b2:=zcw (c:=cell ns start) (k:=0+(i:Int)) (m:=100) (by decide)
  generalize mix (cell ns start) (0+(i:Int)) 100=sn at b1 b2
  walk_at "gs"
  walk_at "q"
  refine⟨λm σ' H'=>∃ j:Nat,m=100 - j∧j≤10∧σ'=[some (.ref a),some (.int start),some (.int many),some (.int size),some (.ref na),some (.int (0+(i:Int))),some (.int ((sn+(j:Int)) % 100)),none,none,none,none]∧H'=H2∧∀ x∈zcy sn j,x∈nn,⟨100,0,rfl,by decide,by rw[show (sn+((0:Nat):Int)) % 100=sn by omega];rfl,rfl,λx hx=>by simp[zcy] at hx⟩,?_⟩
  rintro m σ' H' ⟨j,rfl,j10,rfl,rfl,hj⟩
  walk_at "gs"
  refine zpM (SqL.of hna) ?_
  by_cases hin:(sn+(j:Int)) % 100∈nn
  ·rw[decide_eq_true hin]
   walk_at "gs"
   have st:∀ x∈zcy sn (j+1),x∈nn:=λx hx=>by
    unfold zcy at hx
    rw[List.range_succ,List.map_append] at hx
    rcases zma.mp hx with z | z
    ·exact hj x z
    ·rw[List.map_singleton,zms] at z
     rw[z];exact hin
   have few:=zlk (j:=j+1) (by omega) st
   refine⟨λσ2 Hx=>σ2=[some (.ref a),some (.int start),some (.int many),some (.int size),some (.ref na),some (.int (0+(i:Int))),some (.int (((sn+(j:Int)) % 100+1) % 100)),none,none,none,none]∧Hx=H',λσ2 Hx ⟨e1,e2⟩=>⟨100 - (j+1),by omega,j+1,rfl,by omega,by rw[e1,show ((sn+(j:Int)) % 100+1) % 100=(sn+((j+1:Nat):Int)) % 100 by omega],e2,st⟩,?_⟩
   walk_at "gs"
   exact⟨rfl,rfl⟩
  ·rw[decide_eq_false hin]
   walk_at "gs"
   refine⟨tyL hna,?_⟩
   walk_at "gs"
   refine znU hna (zcg (by rw[zlm];omega)) ?_
   walk_at "gs"
   refine⟨_,_,nn++[(sn+(j:Int)) % 100],rfl,s2.put na0,by rw[zaf,List.map_append];rfl,by rw[List.length_append,ln];rfl,zia nnd hin,λn hn=>?_⟩
   rcases zma.mp hn with z | z
   ·exact nb n z
   ·rw[zms.mp z];omega
 rintro σ H1 ⟨x5,x6,numbers,rfl,s1,hna,ln,nnd,nb⟩
 walk_at "gs"
 walk_at "q"
 walk_at "gs"
 refine zcH (by omega) (by omega) ?_
 refine zaZ zbS (((List.range many.toNat).map λ(k:Nat)=>mix (cell ns (start+1)) (0+(k:Int)) 2).map D.int) (by simp) (zaz (by omega)) (λj x d H2 R hj hd s2 hx hR=>?_) (λv H2 s2 n2=>?_)
 ·subst hx
  rw[List.map_map] at hd
  have hd':=zdg hd
  subst hd'
  walk_at "gs"
  refine zcp ((s1.trans s2).seq hS) (by omega) ?_
  walk_at "gs"
  refine zc7 (by decide) ?_
  exact hR _ _ (Same.refl _) New.int
 obtain⟨ka,rfl,ka0,hka⟩:=New.ints_iff.mp n2
 have hkn:(List.map (λ(k:Nat)=>mix (cell ns (start+1)) (0+(k:Int)) 2) (List.range many.toNat)).length=many.toNat:=by simp
 have hkb:∀ k∈List.map (λ(k:Nat)=>mix (cell ns (start+1)) (0+(k:Int)) 2) (List.range many.toNat),k=0∨k=1:=λk hk=>by
  obtain⟨i,_,rfl⟩:=zmm.mp hk
  have b1:=za3 (c:=cell ns (start+1)) (k:=0+(i:Int)) (m:=2) (by decide)
  have b2:=zcw (c:=cell ns (start+1)) (k:=0+(i:Int)) (m:=2) (by decide)
  omega
 generalize List.map (λ(k:Nat)=>mix (cell ns (start+1)) (0+(k:Int)) 2) (List.range many.toNat)=kinds at hka hkn hkb
 have hna2:=s2 _ _ hna
 have s02:=s1.trans s2
 have hcl:∀ i,1≤(zcq ns start size i).length∧(zcq ns start size i).length≤size.toNat:=λi=>by
  have b1:=za3 (c:=cell ns (start+2)) (k:=0+(i:Int)) (m:=size) (by omega)
  have b2:=zcw (c:=cell ns (start+2)) (k:=0+(i:Int)) (m:=size) (by omega)
  unfold zcq
  rw[zlm,List.length_range]
  omega
 have HP:HallParts many size numbers kinds (zcq ns start size):=⟨ln,hkn,nnd,nb,hkb,hcl⟩
 have q:=q
 walk_at "gs"
 walk_at "q"
 walk_at "gs"
 refine⟨(by walk_at "sm"),λfa fa0=>?_⟩
 have s3:=zah fa0 (.lst [])
 have hfa:(upd H2 fa (.lst [])) fa=some (.lst []):=zaf
 have f3:Free H (upd H2 fa (.lst [])):=s02.fr.trans zb6
 generalize (upd H2 fa (.lst []))=H3 at s3 hfa f3
 walk_at "gs"
 walk_at "q"
 walk_at "gs"
 refine zcH (by omega) (by omega) ?_
 refine zid (λi σ H4=>E5 λy5 y6 y9 y10 vs=>A4 (σ=[some (.ref a),some (.int start),some (.int many),some (.int size),some (.ref na),y5,y6,some (.ref ka),some (.ref fa),y9,y10]) (Same H2 H4) (Free H H4) (Acc H fa H4 ((List.range i).map (ziN numbers kinds (zcq ns start size))) vs))
  ⟨_,_,none,none,[],rfl,s3,f3,Acc.start hfa⟩ ?_ ?_
 ·rintro i σ H4 hi ⟨y5,y6,y9,y10,vs,rfl,s4,f4,ac⟩
  have hi':i<many.toNat:=hi
  have b1:=za3 (c:=cell ns (start+2)) (k:=0+(i:Int)) (m:=size) (by omega)
  have b2:=zcw (c:=cell ns (start+2)) (k:=0+(i:Int)) (m:=size) (by omega)
  have s04:=s02.trans s4
  walk_at "gs"
  walk_at "q"
  walk_at "gs"
  refine zcp (s04.seq hS) (by omega) ?_
  walk_at "gs"
  refine zc7 (by omega) ?_
  walk_at "gs"
  walk_at "q"
  walk_at "gs"
  refine zcH (by omega) (by omega) ?_
  refine zaZ zbS ((zcq ns start size i).map D.int) (by simp[zcq]) (zaz (by omega)) (λj x d H5 R hj hd s5 hx hR=>?_) (λv H5 s5 n5=>?_)
  ·subst hx
   unfold zcq at hd
   rw[List.map_map] at hd
   have hd':=zdg hd
   subst hd'
   have pos:0≤size * (0+(i:Int)):=Int.mul_nonneg (by omega) (by omega)
   walk_at "gs"
   refine zcp ((s04.trans s5).seq hS) (by omega) ?_
   walk_at "gs"
   exact hR _ _ (Same.refl _) New.int
  obtain⟨ca,rfl,ca0,hca⟩:=New.ints_iff.mp n5
  have s25:=s4.trans s5
  walk_at "gs"
  refine⟨tyL (s5 _ _ ac.get),?_⟩
  walk_at "gs"
  refine zbc (SqL.of (s25 _ _ hna2)) (zeH (by omega) (by omega)) ?_
  walk_at "gs"
  refine zbc (SqL.of (s25 _ _ hka)) (zeH (by omega) (by omega)) ?_
  walk_at "gs"
  refine⟨_,ca,na,ka,zcq ns start size i,numbers,kinds,rfl,SqL.of hca,SqL.of (s25 _ _ hna2),SqL.of (s25 _ _ hka),by omega,by omega,by have:=(hcl i).2;omega,λv H6 s6 n6=>?_⟩
  have s46:=s5.trans s6
  walk_at "gs"
  refine⟨(by walk_at "sm"),λT hT=>?_⟩
  have n7:New H4 (upd H6 T (.tup [.int (numbers.getD i 0),v])) (ziN numbers kinds (zcq ns start size) i) (.ref T):=by
   have:=New.pairD (n:=numbers.getD i 0) (n6.back s5) hT
   rw[show (0+(i:Int)).toNat=i by omega] at this
   exact this
  rw[show (0+(i:Int)).toNat=i by omega]
  have s7:=s46.trans (zah hT (.tup [.int (numbers.getD i 0),v]))
  have lv:=ac.len
  simp only[zlm,List.length_range] at lv
  walk_at "gs"
  refine znU (s7 _ _ ac.get) (zcg (by omega)) ?_
  walk_at "gs"
  refine⟨_,_,_,_,vs++[.ref T],rfl,(s4.trans s7).put fa0,f4.trans (s7.fr.trans zb6),?_⟩
  rw[List.range_succ,List.map_append]
  exact ac.app f4 s7 n7
 ·rintro σ H4 ⟨y5,y6,y9,y10,vs,rfl,s4,f4,ac⟩
  walk_at "gs"
  exact q _ _ numbers kinds (zcq ns start size) (s02.trans s4) HP (ac.new (s02.free fa0))
inductive sp_l_line_by (K:Fg) (vs:List V) (H:Hp) (Q:VK) (E:XK):Prop
 | mk (c:Int) (za:Addr) (zs:List Int):vs=[.int c,.ref za]→SqL K H za (zs.map V.int)→(∀ v H',Same H H'→New H H' (nums (zbW c zs)) v→Q v H')→sp_l_line_by K vs H Q E
theorem zlM (zs:List Int):(zs.map V.int).all zdb=true:=by rw[List.all_map,List.all_eq_true];intro x _;rfl
theorem zh0 {f:Addr}{fd:FuncData}(B:Bl K mg) {C:Nat→Addr}(Z:Zt K mg C) (G_l_number:Fn P w K mg base "_law_number" ["cell","k"] 2 (sp_l_number K)) (G_l_mix:Fn P w K mg base "_law_mix" ["cell","k","many"] 1 (sp_l_mix K)) (F:Fun K "_law_line_by" "_law_line_by" s_l_line_by f fd) (m:mg "_law_line_by"=some (.ref f)):Fn P w K mg base "_law_line_by" ["cell","zero"] 3 (sp_l_line_by K):=by
 refine Fn.of (k:=2) F zds m (λ_ _ _ _ _ _ us hl=>match us,hl with | [_,_],_=>rfl) (λvs H Q E h=>?_) (λcdv A outer s H vs Q E hr h=>?_)
 ·first
  | (obtain⟨_,_,_,rfl,_⟩:=h;rfl)
 obtain⟨c,za,zs,rfl,hZ,q⟩:=h
 refine⟨_,(zag (zbu (i:=2) zds.nd rfl rfl rfl (CompOk.m (sc0:=zac s_l_line_by) (N:=["cell","zero","line","k"]) (N':=["cell","zero","line","k"]) (ms:=[false,false,false,true])) (zbD rfl B.range (zab zaa zad)) (λ_ _ _ _ _=>(zay (i:=3) (ndS (N:=["cell","zero","line","k"])) rfl (Or.inl rfl))) (λ_ _ _ _ _=>zaY) (λ_ _ _ _ _=>(zat G_l_number hr rfl (zae (pv 0) (zaI (zao zb5 zaa (pv 3)) zad)))))
   (zag (zdW PassesOwn.never rfl (zbD rfl B.range (zab zaa zad)) (zay (i:=3) zds.nd rfl (Or.inl rfl)) (zai (zaW (PW.pt (zkh (zas (k_in K) (pv 3) (pv 1) rfl) (ziS (zas (k_eq K hr) (zat G_l_mix hr rfl (zae (pv 0) (zaI (zao (zaM K) zaa (pv 3)) (zab zaa zad)))) zaa (zau _))))) (zai (zey zaa (zga (pv 2) (zao (zaM K) (pv 3) zaa) zdv))) zav)))
   (zai (zar (pv 2))))),?_⟩
 walk_at "go"
 refine zcH (by decide) (by decide) ?_
 refine zaZ (n:=9) zbS (((List.range 9).map λ(j:Nat)=>number c (5 * (0+(j:Int)))).map D.int) (by simp) (by decide) (λi x d H1 R hi hd s1 hx hR=>?_) (λv H1 s1 n1=>?_)
 ·subst hx
  rw[List.map_map] at hd
  have hd':=zdg hd
  subst hd'
  walk_at "go"
  refine zdA λH2 s2=>?_
  exact hR _ _ s2 New.int
 obtain⟨la,rfl,la0,la1⟩:=New.ints_iff.mp n1
 rw[←zjU c zs] at la1
 walk_at "go"
 refine zcH (by decide) (by decide) ?_
 refine zid (λi σ H2=>∃ x,i≤8∧σ=[some (.int c),some (.ref za),some (.ref la),x]∧Same H H2∧H2 la=some (.lst ((zdl c zs i).map V.int)))
  ⟨none,by decide,rfl,s1,la1⟩ ?_ ?_
 ·rintro i σ H2 hi ⟨x,_,rfl,s2,e2⟩
  have i8:i<8:=hi
  have step:∀ b:Bool,zd3 c zs i=b→(b=true→(ixN ((zdl c zs i).map V.int).length (0+(i:Int)+1)=some (i+1))):=λb hb _=>by
   rw[zlm,zhz]
   unfold ixN
   rw[if_pos (by omega),if_pos (by omega)]
   congr 1
   omega
  have yes:zd3 c zs i=true→∃ x,i+1≤8∧[some (V.int c),some (.ref za),some (.ref la),some (.int (0+(i:Int)))]=[some (.int c),some (.ref za),some (.ref la),x]∧Same H (upd H2 la (.lst (((zdl c zs i).map V.int).set (i+1) (.int 0))))∧(upd H2 la (.lst (((zdl c zs i).map V.int).set (i+1) (.int 0)))) la=some (.lst ((zdl c zs (i+1)).map V.int)):=λhb=>by
   refine⟨_,by omega,rfl,λd o e=>?_,?_⟩
   ·rw[zak (zam e la0)];exact s2 _ _ e
   ·rw[zaf,←zlc i8 hb,List.map_set]
  walk_at "go"
  refine i_in (neg:=false) (.inl (s2.seq hZ)) rfl (zlM zs) ?_
  cases hb1:inV (.int (0+(i:Int))) (zs.map V.int) with
  | true=>
   have hb:zd3 c zs i=true:=by unfold zd3;rw[hb1];rfl
   show ∃ k,V.bl true=.bl k∧_
   walk_at "go"
   refine zfi e2 (step true hb rfl) ?_
   exact yes hb
  | false=>
   show ∃ k,V.bl false=.bl k∧_
   walk_at "go"
   refine zc7 (by decide) ?_
   walk_at "go"
   cases hb2:decide (mix c (60+(0+(i:Int))) 3=0) with
   | true=>
    have hb:zd3 c zs i=true:=by unfold zd3;rw[hb1,hb2];rfl
    walk_at "go"
    refine zfi e2 (step true hb rfl) ?_
    exact yes hb
   | false=>
    have hb:zd3 c zs i=false:=by unfold zd3;rw[hb1,hb2];rfl
    walk_at "go"
    exact⟨_,by omega,rfl,s2,by rw[←zjT hb];exact e2⟩
 ·rintro σ H2 ⟨x,_,rfl,s2,e2⟩
  walk_at "go"
  refine q _ _ s2 (New.ints_iff.mpr ⟨la,rfl,la0,?_⟩)
  rw[←zld]
  exact e2
inductive sp_l_deed_by (K:Fg) (vs:List V) (H:Hp) (Q:VK) (E:XK):Prop
 | mk (c count:Int):vs=[.int c,.int count]→0≤count→(∀ v H',Same H H'→New H H' (zmx c count) v→Q v H')→sp_l_deed_by K vs H Q E
theorem zh1 {f:Addr}{fd:FuncData}(B:Bl K mg) {C:Nat→Addr}(Z:Zt K mg C) (G_l_line_by:Fn P w K mg base "_law_line_by" ["cell","zero"] 3 (sp_l_line_by K)) (G_l_mix:Fn P w K mg base "_law_mix" ["cell","k","many"] 1 (sp_l_mix K)) (G_l_number:Fn P w K mg base "_law_number" ["cell","k"] 2 (sp_l_number K)) (F:Fun K "_law_deed_by" "_law_deed_by" s_l_deed_by f fd) (m:mg "_law_deed_by"=some (.ref f)):Fn P w K mg base "_law_deed_by" ["cell","count"] 4 (sp_l_deed_by K):=by
 refine Fn.of (k:=3) F zbM m (λ_ _ _ _ _ _ us hl=>match us,hl with | [_,_],_=>rfl) (λvs H Q E h=>?_) (λcdv A outer s H vs Q E hr h=>?_)
 ·first
  | (obtain⟨_,_,rfl,_⟩:=h;rfl)
 obtain⟨c,count,rfl,hc,q⟩:=h
 refine⟨_,(zag (zaA (i:=2) zbM.nd rfl (Or.inl rfl) (zat G_l_line_by hr rfl (zaI (zao zaG (pv 0) zaa) (zci (za6 (zab zaa (zab zaa zad))) zad))))
   (zag (zaA (i:=3) zbM.nd rfl (Or.inl rfl) (zat G_l_mix hr rfl (zae (pv 0) (zab zaa (zab zaa zad)))))
   (zag (zaA (i:=4) zbM.nd rfl (Or.inl rfl) (zat G_l_mix hr rfl (zae (pv 0) (zab zaa (zab zaa zad)))))
   (zag (zaW (zas (k_eq K hr) (pv 4) zaa (zau _)) (zai (zar (zaL (zab zaJ (zae (pv 3) (zae (pv 2) zad)))))) zav)
   (zag (zaW (zas (k_eq K hr) (pv 4) zaa (zau _)) (zai (zar (zaL (zab zaJ (zae (pv 3) (zae (pv 2) (zaE (zaB (k_ix K) (za6 (zab zaa (zab zaa (zaI (zao (zaM K) zaa (zat G_l_mix hr rfl (zae (pv 0) (zab zaa (zab zaa zad))))) (zab zaa zad))))) (zat G_l_mix hr rfl (zae (pv 0) (zab zaa (zab zaa zad)))) (λ_ _=>rfl)) zad))))))) zav)
   (zag (zaW (zas (k_eq K hr) (pv 4) zaa (zau _)) (zag (zaA (i:=5) zbM.nd rfl (Or.inl rfl) (zat G_l_number hr rfl (zaI (zao zaG (pv 0) zaa) (zab zaa zad))))
   (zai (zar (zaL (zab zaJ (zae (pv 3) (zae (pv 5) (zaC (zaP (znN rfl) rfl B.max L2.zgI (zae (pv 5) (zaC (zat G_l_number hr rfl (zaI (zao zaG (pv 0) zaa) (zab zaa zad))) zad))) zad)))))))) zav)
   (zag (zaW (zas (k_eq K hr) (pv 4) zaa (zau _)) (zai (zar (zaL (zab zaJ (zae (pv 2) (zaC (zat G_l_mix hr rfl (zae (pv 0) (zab zaa (zaI (zao (zaM K) (pv 1) zaa) zad)))) zad)))))) zav)
   (zag (zaW (zas (k_eq K hr) (pv 4) zaa (zau _)) (zai (zar (zaL (zab zaJ (zae (pv 2) zad))))) zav)
   (zag (zaA (i:=6) zbM.nd rfl (Or.inl rfl) (zaL (zaC (zat G_l_mix hr rfl (zae (pv 0) (zab zaa (zab zaa zad)))) (zaC (zat G_l_mix hr rfl (zae (pv 0) (zab zaa (zab zaa zad)))) zad))))
   (zai (zar (zaL (zab zaJ (zaC (zat G_l_mix hr rfl (zae (pv 0) (zab zaa (zab zaa zad)))) (zae (pv 6) (zd0 (zaL (zae (pv 3) (zaI (zao zaU (zao (zaM K) (zao (zaM K) (pv 3) zaa) (zat G_l_mix hr rfl (zae (pv 0) (zab zaa (zab zaa zad))))) zaa) zad))) zad)))))))))))))))),?_⟩
 have k0:=za3 (c:=c) (k:=6) (m:=4) (by decide)
 have k1:=zcw (c:=c) (k:=6) (m:=4) (by decide)
 unfold zmx at q
 walk_at "go"
 refine⟨by decide,λp hp=>?_⟩
 walk_at "go"
 refine⟨_,p,[6,7],rfl,SqL.of zaf,λv H1 s1 n1=>?_⟩
 obtain⟨la,rfl,la0,la1⟩:=New.ints_iff.mp n1
 have s0:=(zah hp (.lst [.int 6,.int 7])).trans s1
 have la2:H la=none:=(zah hp _).free la0
 walk_at "go"
 refine zc7 (by decide) ?_
 walk_at "go"
 refine zc7 (by decide) ?_
 walk_at "go"
 refine ite2 (λe=>?_) (λe=>?_)
 ·have e':mix c 4 6=0:=of_decide_eq_true e
  rw[if_pos e'] at q
  walk_at "go"
  refine⟨by show 3≤sizeLine;decide,λt ht=>?_⟩
  refine q _ _ (s0.trans (zah ht _)) (New.tup (fp:=[la]) (zaj.cstr (zaj.cint (zaj.cany (f:=[la]) (RepF.line (zah ht _ _ _ la1)) zaj.nil))) (by simp) (λb m=>by rw[zms.mp m];exact la2) zaf)
 have e0:¬ mix c 4 6=0:=of_decide_eq_false (Bool.eq_false_iff.mpr e)
 rw[if_neg e0] at q
 walk_at "go"
 refine ite2 (λe=>?_) (λe=>?_)
 ·have e':mix c 4 6=1:=of_decide_eq_true e
  rw[if_pos e'] at q
  walk_at "go"
  refine zc7 (by decide) ?_
  walk_at "go"
  refine⟨by show 4≤sizeLine;decide,λm hm=>?_⟩
  have s2:=zah hm (.lst [.int 1,.int 1000,.int (1+mix c 5 1000),.int 2])
  walk_at "go"
  refine zc7 (by decide) ?_
  refine zbc (SqL.of zaf) (v:=.int (byOf c)) ?_ ?_
  ·unfold byOf
   have c4:mix c 6 4=0∨mix c 6 4=1∨mix c 6 4=2∨mix c 6 4=3:=by omega
   rcases c4 with z | z | z | z <;> rw[z] <;> rfl
  walk_at "go"
  refine⟨by show 4≤sizeLine;decide,λt ht=>?_⟩
  refine q _ _ (s0.trans (s2.trans (zah ht _))) (New.tup (fp:=[la]) (zaj.cstr (zaj.cint (zaj.cany (f:=[la]) (RepF.line (zah ht _ _ _ (s2 _ _ la1))) (zaj.cint zaj.nil)))) (by simp) (λb m=>by rw[zms.mp m];exact la2) zaf)
 have e1:¬ mix c 4 6=1:=of_decide_eq_false (Bool.eq_false_iff.mpr e)
 rw[if_neg e1] at q
 walk_at "go"
 refine ite2 (λe=>?_) (λe=>?_)
 ·have e':mix c 4 6=2:=of_decide_eq_true e
  rw[if_pos e'] at q
  walk_at "go"
  refine zdA λH2 s2=>?_
  walk_at "go"
  refine zdA λH3 s3=>?_
  walk_at "go"
  refine znQ ?_
  walk_at "go"
  refine⟨by show 4≤sizeLine;decide,λt ht=>?_⟩
  refine q _ _ (s0.trans (s2.trans (s3.trans (zah ht _)))) (New.tup (fp:=[]) (zaj.cstr (zaj.cint (zaj.cint (zaj.cint zaj.nil)))) (by simp) (λb m=>by cases m) zaf)
 have e2:¬ mix c 4 6=2:=of_decide_eq_false (Bool.eq_false_iff.mpr e)
 rw[if_neg e2] at q
 walk_at "go"
 refine ite2 (λe=>?_) (λe=>?_)
 ·have e':mix c 4 6=3:=of_decide_eq_true e
  rw[if_pos e'] at q
  walk_at "go"
  refine zc7 (by omega) ?_
  walk_at "go"
  refine⟨by show 3≤sizeLine;decide,λt ht=>?_⟩
  refine q _ _ (s0.trans (zah ht _)) (New.tup (fp:=[la]) (zaj.cstr (zaj.cany (f:=[la]) (RepF.line (zah ht _ _ _ la1)) (zaj.cint zaj.nil))) (by simp) (λb m=>by rw[zms.mp m];exact la2) zaf)
 have e3:¬ mix c 4 6=3:=of_decide_eq_false (Bool.eq_false_iff.mpr e)
 rw[if_neg e3] at q
 walk_at "go"
 refine ite2 (λe=>?_) (λe=>?_)
 ·have e':mix c 4 6=4:=of_decide_eq_true e
  rw[if_pos e'] at q
  walk_at "go"
  refine⟨by show 2≤sizeLine;decide,λt ht=>?_⟩
  refine q _ _ (s0.trans (zah ht _)) (New.tup (fp:=[la]) (zaj.cstr (zaj.cany (f:=[la]) (RepF.line (zah ht _ _ _ la1)) zaj.nil)) (by simp) (λb m=>by rw[zms.mp m];exact la2) zaf)
 have e4:¬ mix c 4 6=4:=of_decide_eq_false (Bool.eq_false_iff.mpr e)
 rw[if_neg e4] at q
 walk_at "go"
 refine zc7 (by decide) ?_
 walk_at "go"
 refine zc7 (by decide) ?_
 walk_at "go"
 refine⟨by show 2≤sizeLine;decide,λg hg=>?_⟩
 have s2:=zah hg (.tup [.int (mix c 10 4),.int (mix c 11 4)])
 walk_at "go"
 refine zc7 (by decide) ?_
 walk_at "go"
 refine zc7 (by decide) ?_
 walk_at "go"
 refine⟨by show 2≤sizeLine;decide,λu hu'=>?_⟩
 have s3:=zah hu' (.tup [.int (mix c 3 4),.int ((mix c 3 4+1+mix c 13 3) % 4)])
 refine⟨by show 4≤sizeLine;decide,λt ht=>?_⟩
 have s4:=zah ht (.tup [.str "call",.int (mix c 12 100),.ref g,.ref u])
 refine q _ _ (s0.trans (s2.trans (s3.trans s4))) (New.tup (fp:=[]) (zaj.cstr (zaj.cint (zaj.cany (f:=[]) (RepF.pair (s4 _ _ (s3 _ _ zaf))) (zaj.cany (f:=[]) (RepF.pair (s4 _ _ zaf)) zaj.nil)))) (by simp) (λb m=>by cases m) zaf)
inductive sp_l_hall_by (K:Fg) (C:Nat→Addr) (vs:List V) (H:Hp) (Q:VK) (E:XK):Prop
 | mk (a:Addr) (ns:List Int):vs=[.ref a]→SqL K H a (ns.map V.int)→(∀ T (ha la va nl pl:Addr) H0 H' numbers kinds ps fp,Same H H0→Same H0 H'→H' T=some (.tup [.ref ha,.ref nl,.ref pl])→H' nl=some (.lst (numbers.map V.int))→HallAt (C 8) (C 7) H' ha la va numbers (crBy ps) [] fp→zcA H0 pl ps→PsR numbers kinds ps→1≤numbers.length→numbers.length≤3→(∀ b∈ha::la::va::nl::fp,H0 b=none)→Q (.ref T) H')→sp_l_hall_by K C vs H Q E
theorem zh2 {f:Addr}{fd:FuncData}(B:Bl K mg) {C:Nat→Addr}(Z:Zt K mg C) (G_l_hall_parts:Fn P w K mg base "_law_hall_parts" ["script","start","many","size"] 7 (sp_l_hall_parts K)) (M_Hall:Mkr P w K mg base "Hall" (C 8) ["self"] 1 (sp_Hall___init__ K C)) (G_l_deed_by:Fn P w K mg base "_law_deed_by" ["cell","count"] 4 (sp_l_deed_by K)) (G_Hall_lay:Mth (CX1 P w) P w K mg base (C 8) "lay" ["self","number","craft"] 8 (sp_Hall_lay K C)) (G_l_cell_at:Fn P w K mg base "_law_cell_at" ["script","k"] 1 (sp_l_cell_at K)) (M_Craft:Mkr P w K mg base "Craft" (C 7) ["self","needs","leaves","deeds","notes"] 2 (sp_Craft___init__ K C)) (F:Fun K "_law_hall_by" "_law_hall_by" s_l_hall_by f fd) (m:mg "_law_hall_by"=some (.ref f)):Fnx P w K mg base "_law_hall_by" ["script"] 9 (sp_l_hall_by K C):=by
 refine⟨f,fd,F.okx (k:=8) zbi (λvs H Q E h=>?_) (λcdv A outer s H vs Q E hr h=>?_),F.binds λ_ _ _ _ _ _ us hl=>match us,hl with | [_],_=>rfl,F.kp,m⟩
 ·first
  | (obtain⟨_,_,rfl,_⟩:=h;rfl)
 obtain⟨a,ns,rfl,hS,q⟩:=h
 refine⟨_,(zag (zaA (i:=1) zbi.nd rfl (Or.inl rfl) (zao (zaM K) zaa (zao zaU (zat G_l_cell_at hr rfl (zae (pv 0) (zab zaa zad))) zaa)))
   (zag (zaA (i:=2) zbi.nd rfl (Or.inl rfl) (zat G_l_hall_parts hr rfl (zae (pv 0) (zab zaa (zae (pv 1) (zab zaa zad))))))
   (zag (zey (zaB (k_ix K) (pv 2) zaa (λ_ _=>rfl)) (zeA K (n:=2) rfl (zbf (zay (i:=3) zbi.nd rfl (Or.inl rfl)) (zbf (zay (i:=4) zbi.nd rfl (Or.inl rfl)) zda))))
   (zag (zaW (zas (k_eq K hr) (zao zaU (zat G_l_cell_at hr rfl (zae (pv 0) (zab zaa zad))) zaa) zaa (zau _)) (zag (zaA (i:=5) zbi.nd rfl (Or.inl rfl) (zao zaU (zao zaG (zat G_l_cell_at hr rfl (zae (pv 0) (zab zaa zad))) zaa) (zaP (zdQ K) rfl B.len L2.boot_len (zaE (zaB (k_ix K) (pv 4) zaa (λ_ _=>rfl)) zad))))
   (zai (zey (zat G_l_deed_by hr rfl (zaC (zat G_l_cell_at hr rfl (zae (pv 0) (zab zaa zad))) (zaC (zaP (zdQ K) rfl B.len L2.boot_len (zaE (zaB (k_ix K) (pv 4) zaa (λ_ _=>rfl)) zad)) zad))) (zga (zaB (k_ix K) (pv 4) zaa (λ_ _=>rfl)) (pv 5) zdv)))) zav)
   (zag (zaA (i:=6) zbi.nd rfl (Or.inl rfl) (zpH M_Hall hr rfl))
   (zag (zdW PassesOwn.leaving rfl (zbp K (pv 2)) (zeA K (n:=2) rfl (zbf (zay (i:=7) zbi.nd rfl (Or.inl rfl)) (zbf (zay (i:=8) zbi.nd rfl (Or.inl rfl)) zda))) (zai (zaS (za1 G_Hall_lay Z.c_Hall hr zk8 (pv 6) (zae (pv 7) (zaC (zmo M_Craft hr rfl (zaE (zaB (k_ix K) (pv 8) zaa (λ_ _=>rfl)) (zaE (zaB (k_ix K) (pv 8) zaa (λ_ _=>rfl)) (zaE (zaB (k_ix K) (pv 8) zaa (λ_ _=>rfl)) (zaE (zaB (k_ix K) (pv 8) zaa (λ_ _=>rfl)) zad))))) zad))))))
   (zai (zar (zaL (zae (pv 6) (zdk (zbI rfl (CompOk.m (sc0:=zac s_l_hall_by) (N:=["script","many","placed","number","parts","at","hall","other","mine"]) (N':=["script","many","placed","number","parts","at","hall","other","mine"]) (ms:=[false,false,false,false,false,false,false,true,true])) (zbp K (pv 2)) (λ_ _ _ _ _=>(zeA K (n:=2) rfl (zbf (zay (i:=7) (ndS (N:=["script","many","placed","number","parts","at","hall","other","mine"])) rfl (Or.inl rfl)) (zbf (zay (i:=8) (ndS (N:=["script","many","placed","number","parts","at","hall","other","mine"])) rfl (Or.inl rfl)) zda)))) (λ_ _ _ _ _=>zaY) (λ_ _ _ _ _=>(pv 7))) (zae (pv 2) zad)))))))))))),?_⟩
 walk_at "gs"
 walk_at "q"
 walk_at "gs"
 refine zcp hS (by decide) ?_
 walk_at "gs"
 have c1:=Int.emod_nonneg (cell ns 0) (show (3:Int)≠0 by decide)
 have c2:=Int.emod_lt_of_pos (cell ns 0) (show (0:Int)<3 by decide)
 generalize hmd:1+cell ns 0 % 3=many at *
 walk_at "gs"
 walk_at "q"
 walk_at "gs"
 refine⟨a,6,many,4,ns,rfl,hS,by decide,by omega,by omega,by decide,by decide,λv H2 numbers kinds cells s2 HP n2=>?_⟩
 have ps0:=(HP.ps (by omega) (by decide)).r
 have n2':New H H2 (.lst ((zcb numbers kinds cells many.toNat).map zeE)) v:=by rw[zhF];exact n2
 have plen:(zcb numbers kinds cells many.toNat).length=many.toNat:=by unfold zcb;simp
 obtain⟨pl,vs0,fp0,rfl,pl0,hpl0,_⟩:=New.lst_out n2'
 generalize hps:zcb numbers kinds cells many.toNat=ps at *
 have hmany:1≤many.toNat:=by omega
 cases ps with
 | nil=>rw[List.length_nil] at plen;omega
 | cons pc pr=>
 obtain⟨n0,cc⟩:=pc
 have l9:∀ p∈(n0,cc)::pr,∀ d∈p.2.deeds,zcs d:=λp hp=>(ps0.rt p hp).nine.d9
 have rt0:=ps0.rt (n0,cc) List.mem_cons_self
 obtain⟨T,pa,y1,y2,a3,a4,vs,dvs,hpl,hT,hpa,ha3,ld,a30,setD⟩:=zj1 l9 n2'
 have PA0:zcA H2 pl ((n0,cc)::pr):=by
  obtain⟨pl',e,_,z⟩:=zlq l9 n2'
  cases e;exact z
 have d1:1≤cc.deeds.length∧cc.deeds.length≤8:=rt0.parts.2.2.1
 have hS2:=s2.seq hS
 have lnm:numbers.length=many.toNat:=by rw[←ps0.len,plen]
 walk_at "gs"
 walk_at "q"
 walk_at "gs"
 refine zbc (SqL.of hpl) (v:=.ref T) zbJ ?_
 refine⟨T,_,rfl,SqT.of hT,rfl,⟨_,_,rfl,?_⟩⟩
 refine⟨_,_,rfl,?_⟩
 refine⟨rfl,?_⟩
 -- the parts,maybe with one deed another one
 walk_at "gs"
 with_reducible refine zd1 (λσ H5=>∃ x ps,A4 (σ=[some (.ref a),some (.int many),some (.ref pl),some (.int n0),some (.ref pa),x,none,none,none]) (Same H H5) (zcA H5 pl ps) (PsR numbers kinds ps)) (λNX tail=>?_) ?_
 ·walk_at "gs"
  refine zcp hS2 (by decide) ?_
  walk_at "gs"
  refine zen (λe=>?_) (λe=>?_)
  ·walk_at "gs"
   walk_at "gs"
   walk_at "q"
   walk_at "gs"
   refine zcp hS2 (by decide) ?_
   walk_at "gs"
   refine zbc (SqL.of hpa) (v:=.ref a3) (zaV (j:=2) rfl) ?_
   walk_at "gs"
   refine zdP (.inl (SqL.of ha3)) ?_
   rw[ld]
   have hdl:(0:Int)<(cc.deeds.length:Int):=by omega
   have at1:=Int.emod_nonneg (cell ns 1 / 2) (show ((cc.deeds.length:Nat):Int)≠0 by omega)
   have at2:=Int.emod_lt_of_pos (cell ns 1 / 2) hdl
   walk_at "gs"
   generalize cell ns 1 / 2 % (cc.deeds.length:Int)=at' at at1 at2
   walk_at "gs"
   refine zcp hS2 (by decide) ?_
   walk_at "gs"
   refine zbc (SqL.of hpa) (v:=.ref a3) (zaV (j:=2) rfl) ?_
   walk_at "gs"
   refine zdP (.inl (SqL.of ha3)) ?_
   rw[ld]
   walk_at "gs"
   refine⟨_,_,rfl,by omega,λv H3 s3 n3=>?_⟩
   rw[←zlf] at n3
   have ok3:=zmy (c:=cell ns 2) (count:=(cc.deeds.length:Int)) (by omega)
   have l93:=zim (cell ns 2) (cc.deeds.length:Int)
   generalize zil (cell ns 2) (cc.deeds.length:Int)=dn at n3 ok3 l93
   have dr3:zbC H3 (toD dn) v:=by
    obtain⟨f,hf,_⟩:=n3
    exact zfk (zc2 l93) hf
   walk_at "gs"
   refine zbc (SqL.of (s3 _ _ hpa)) (v:=.ref a3) (zaV (j:=2) rfl) ?_
   walk_at "gs"
   refine zfi (j:=at'.toNat) (s3 _ _ ha3) (zjc at1 (by omega)) ?_
   exact tail _ _ ⟨_,_,rfl,(s2.trans s3).put a30,setD _ at'.toNat dn v s3 dr3 l93,ps0.set ok3 l93⟩
  ·walk_at "gs"
   exact tail _ _ ⟨_,_,rfl,s2,PA0,ps0⟩
 rintro σ H5 ⟨x5,ps,rfl,s5,PA,pk⟩
 clear setD PA0 ps0 l9 hps plen
 have lps:=pk.len
 -- the hall
 walk_at "gs"
 walk_at "q"
 walk_at "gs"
 intro ha dx ha0 dx0 ndx
 refine⟨ha,dx,rfl,zaf,λla va H6 la0 va0 nlv o1 h1 h2 h3=>⟨rfl,?_⟩⟩
 have s6:Same H5 H6:=zln ha0 dx0 o1
 have hA0:HallAt (C 8) (C 7) H6 ha la va [] (crBy ps) [] []:=HallAt.start h1 h2 h3 nlv
 have sm:Same H5 (upd (upd H5 dx (.own ha)) ha (.ins (C 8) dx [])):=λb o e=>by
  rw[zak (zam e ha0),zak (zam e dx0)];exact e
 have la5:=sm.free la0
 have va5:=sm.free va0
 walk_at "gs"
 -- they are laid
 with_reducible refine zd1 (λσ H7=>E3 λy z fp=>A4 (σ=[some (.ref a),some (.int many),some (.ref pl),some (.int n0),some (.ref pa),x5,some (.ref ha),y,z]) (Same H5 H7) (HallAt (C 8) (C 7) H7 ha la va numbers (crBy ps) [] fp) (∀ b∈fp,H5 b=none)) (λNX tail=>?_) ?_
 ·obtain⟨pvs,hpv,r2⟩:=id PA
  walk_at "gs"
  refine⟨pl,rfl,⟨_,SqL.of (s6 _ _ hpv)⟩,?_⟩
  refine zfj (xs:=pvs) (λi σ H7=>E3 λy z fp=>A4 (σ=[some (.ref a),some (.int many),some (.ref pl),some (.int n0),some (.ref pa),x5,some (.ref ha),y,z]) (Same H5 H7) (HallAt (C 8) (C 7) H7 ha la va (numbers.take i) (crBy ps) [] fp) (∀ b∈fp,H5 b=none))
   ⟨none,none,[],rfl,s6,hA0,λb hb=>by cases hb⟩ (λi σ H7 _ ⟨_,_,_,_,nd,_,_⟩=>SqL.of (nd _ _ hpv)) ?_ ?_
  ·rintro i v σ H7 hv ⟨y,z,fp,rfl,s7,hA7,hfp⟩
   have hi:i<ps.length:=by rw[r2.1];exact (zge.mp hv).1
   have ep:ps[i]?=some ps[i]:=List.getElem?_eq_getElem hi
   obtain⟨T',w,rfl,hT',hw⟩:=r2.2 i _ v ep hv
   obtain⟨en,ec⟩:=pk.get ep
   have rt:=pk.rt _ (List.getElem_mem hi)
   generalize ps[i]=p at *
   obtain⟨n,c⟩:=p
   have nb:=pk.nb n (zmg en)
   have hw7:=zhD.nod s7.nod hw
   obtain⟨qa,z1,z2,b3,b4,dvs',nvs',rfl,hq,L1,L2',hb3,hb4,hD,hN⟩:=hw7
   have hT7:=s7 _ _ hT'
   refine⟨T',_,rfl,SqT.of hT7,rfl,⟨_,_,rfl,?_⟩⟩
   refine⟨_,_,rfl,?_⟩
   refine⟨rfl,?_⟩
   obtain⟨dx7,hh7⟩:=hA7.ins
   walk_at "gs"
   refine⟨ha,dx7,_,rfl,hh7,zeJ (by decide +kernel) (by decide +kernel),?_⟩
   walk_at "gs"
   refine zbc (SqL.of hq) (v:=.ref z1) zbJ ?_
   walk_at "gs"
   refine zbc (SqL.of hq) (v:=.ref z2) (zaV (j:=1) rfl) ?_
   walk_at "gs"
   refine zbc (SqL.of hq) (v:=.ref b3) (zaV (j:=2) rfl) ?_
   walk_at "gs"
   refine zbc (SqL.of hq) (v:=.ref b4) (zaV (j:=3) rfl) ?_
   walk_at "gs"
   intro p dp p0 dp0 ndp
   refine zfK (c:=c) p0 dp0 L1.rep L2'.rep (SqL.of hb3) (SqL.of hb4) hD (hN.mono λls x ⟨b,e1,e2⟩=>by rw[e1];exact e2.rep) rt.nine λH8 f s8 hC hf fn=>⟨rfl,?_⟩
   walk_at "gs"
   have hlt:i<numbers.length:=by rw[←lps];exact hi
   refine⟨ha,la,va,p,n,numbers.take i,crBy ps,[],fp,c,rfl,hA7.same s8,hC.t rt.nine.d9,rt.nine,by unfold zbN;omega,.inr (by rw[List.length_take];omega),λz=>(by have:=rt.r;rw[this] at z;cases z),λ_ H9 ks' ws' fp' o9 hA9 _ _ hks hws hfp'=>?_⟩
   have nn:n∉numbers.take i:=zfq pk.nd en
   have tk:numbers.take (i+1)=numbers.take i++[n]:=by rw[List.take_add_one,en];rfl
   have ws0:ws'=[]:=List.eq_nil_iff_forall_not_mem.mpr λm hm=>by
    have:=((hws m).mp hm).1
    cases this
   have s9:Same H5 H9:=λb o e=>o9 b o (λz=>by
    simp only[List.mem_cons,List.not_mem_nil,or_false] at z
    rcases z with rfl | rfl
    ·rw[la5] at e;cases e
    ·rw[va5] at e;cases e) ((s7.trans s8) b o e)
   walk_at "gs"
   refine⟨_,_,fp',rfl,s9,?_,λb hb=>?_⟩
   ·rw[tk,←hks nn,←ws0]
    refine hA9.congr λm _=>?_
    unfold setC
    split
    ·rename_i z;rw[z];exact ec.symm
    ·rfl
   ·rcases hfp' b hb with z | z
    ·exact hfp b z
    ·exact (s7.trans s8).free z
  ·rintro σ H7 ⟨y,z,fp,rfl,s7,hA7,hfp⟩
   rw[←r2.1,lps,List.take_of_length_le (Nat.le_refl _)] at hA7
   exact tail _ _ ⟨y,z,fp,rfl,s7,hA7,hfp⟩
 rintro σ H7 ⟨y,z,fp,rfl,s7,hA7,hfp⟩
 obtain⟨pvs,hpv,r2⟩:=id (PA.nod s7.nod)
 walk_at "gs"
 refine⟨pl,rfl,⟨_,SqL.of hpv⟩,?_⟩
 refine zaZ (zbg (SqL.of hpv)) (numbers.map D.int) (by rw[zlm,←lps];exact r2.1) (zaz (by have:=r2.1;omega)) (λj x d H8 R hj hd s8 hx hR=>?_) (λv H8 s8 n8=>?_)
 ·rw[zgm] at hd
  obtain⟨n,hn,rfl⟩:=zme.mp hd
  have hi:j<ps.length:=by rw[r2.1];exact hj
  have ep:ps[j]?=some ps[j]:=List.getElem?_eq_getElem hi
  obtain⟨T',w,rfl,hT',hw⟩:=r2.2 j _ x ep hx
  obtain⟨en,_⟩:=pk.get ep
  rw[hn] at en
  cases en
  refine⟨T',_,rfl,SqT.of (s8 _ _ hT'),rfl,⟨_,_,rfl,?_⟩⟩
  refine⟨_,_,rfl,?_⟩
  refine⟨rfl,?_⟩
  walk_at "gs"
  exact hR _ _ (Same.refl _) New.int
 obtain⟨nl,rfl,nl0,hnl⟩:=New.ints_iff.mp n8
 walk_at "gs"
 refine⟨(by walk_at "sm"),λT' hT'=>?_⟩
 have t9:=zah hT' (.tup [V.ref ha,.ref nl,.ref pl])
 have s59:=s7.trans (s8.trans t9)
 refine q T' ha la va nl pl H5 _ numbers kinds ps fp s5 s59 zaf (t9 _ _ hnl) (hA7.same (s8.trans t9)) PA pk (by omega) (by omega) λb hb=>?_
 simp only[List.mem_cons] at hb
 rcases hb with rfl | rfl | rfl | rfl | hb
 ·exact ha0
 ·exact la5
 ·exact va5
 ·exact s7.free nl0
 ·exact hfp b hb
inductive sp_law (K:Fg) (vs:List V) (H:Hp) (Q:VK) (E:XK):Prop
 | mk (a:Addr) (ns:List Int):vs=[.ref a]→SqL K H a (ns.map V.int)→ns.length≤63→(∀ H',Q (.bl true) H')→sp_law K vs H Q E
theorem made {H H4:Hp}{y dx c:Addr}{own:List Addr}(hy:H y=none) (hd:H dx=none) (m:zaF [y] (upd (upd H dx (.own y)) y (.ins c dx [])) own H4):Same H H4∧∀ b∈own,H b=none:=by
 have sm:Same H (upd (upd H dx (.own y)) y (.ins c dx [])):=λb o e=>by
  rw[zak (zam e hy),zak (zam e hd)];exact e
 refine⟨λb o e=>m.1 b o (λz=>by rw[zms.mp z,hy] at e;cases e) (sm b o e),λb hb=>?_⟩
 rcases m.2.1 b hb with z | z
 ·rw[zms.mp z];exact hy
 ·exact sm.free z
theorem zbZ {H:Hp}{y dx c:Addr}(hy:H y=none) (hd:H dx=none):Same H (upd (upd H dx (.own y)) y (.ins c dx [])):=λb o e=>by
 rw[zak (zam e hy),zak (zam e hd)];exact e
def ziO:Cr:=⟨[],[],[.set 0 [7,0,0,0,0,0,0,0,0]],[[]]⟩
theorem ze5:ziO.Rt:=by
 refine⟨⟨λl h=>?_,λl h=>?_,λd h=>?_,λls h=>?_,Nat.zero_le _,Nat.zero_le _,?_,?_⟩,by decide +kernel⟩
 ·cases h
 ·cases h
 ·have e:d=.set 0 [7,0,0,0,0,0,0,0,0]:=zms.mp h
  rw[e];rfl
 ·have e:ls=[]:=zms.mp h
  rw[e]
  exact⟨Nat.zero_le _,λl h=>by cases h⟩
 ·show 1≤100;omega
 ·show 1≤100;omega
theorem ziP {ll:List Int}(h:zi6 (nums ll)):ll.length=9:=by
 rcases h with ⟨i,e⟩ | ⟨i,e⟩ | ⟨l,hl,e⟩ | ⟨i,j,e⟩
 ·cases e
 ·cases e
 ·injection e with e;rw[zeY e];exact hl
 ·cases e
theorem zmU {xs:List Int}(h:1≤xs.length):∃ m,m∈xs∧atI (xs.map V.int) (-1)=some (.int m):=by
 rcases List.eq_nil_or_concat xs with rfl | ⟨ys,m,rfl⟩
 ·simp at h
 ·refine⟨m,by simp,?_⟩
  rw[List.concat_eq_append,List.map_append]
  exact zlu
theorem zoo:[V.int 7]++(List.replicate (8:Int).toNat [V.int 0]).flatten=([7,0,0,0,0,0,0,0,0]:List Int).map V.int:=rfl
theorem zop (st:List Fm):dep (.lst (st.map fmD))≤60:=by
 have h:∀ st:List Fm,deps (st.map fmD)≤3:=λst=>by
  induction st with
  | nil=>unfold List.map deps;omega
  | cons f st ih=>
   rw[zmc]
   unfold deps
   have:dep (fmD f)≤3:=by unfold fmD;simp[dep,deps]
   omega
 unfold dep
 have:=h st
 omega
theorem zpR {f:Addr}{fd:FuncData}(B:Bl K mg) {C:Nat→Addr}(Z:Zt K mg C) (G_l_hall_by:Fnx P w K mg base "_law_hall_by" ["script"] 9 (sp_l_hall_by K C)) (M_Run:Mkx P w K mg base "Run" (C 6) ["self","hall","number","given","inputs"] 8 (sp_Run___init__ K C)) (G_Run_go:Mth CX0 P w K mg base (C 6) "go" ["self","fuel"] 10 (sp_Run_go K C)) (G_Run_steps:Mth CX0 P w K mg base (C 6) "steps" ["self"] 1 (sp_Run_steps K C)) (G_l_mix:Fn P w K mg base "_law_mix" ["cell","k","many"] 1 (sp_l_mix K)) (G_l_cell_at:Fn P w K mg base "_law_cell_at" ["script","k"] 1 (sp_l_cell_at K)) (G_Hall_lay:Mth (CX1 P w) P w K mg base (C 8) "lay" ["self","number","craft"] 8 (sp_Hall_lay K C)) (G_Hall_tear:Mth (CX1 P w) P w K mg base (C 8) "tear" ["self","number"] 4 (sp_Hall_tear K C)) (G_Run_frames:Mth CX0 P w K mg base (C 6) "frames" ["self"] 1 (sp_Run_frames K C)) (M_Craft:Mkr P w K mg base "Craft" (C 7) ["self","needs","leaves","deeds","notes"] 2 (sp_Craft___init__ K C)) (F:Fun K "law" "law" s_law f fd):FnOk P w K mg base CX0 11 f fd ["script"] (sp_law K):=by
 refine F.ok (k:=10) zbz (λvs H Q E h=>?_) (λcdv A outer s H vs Q E hr h=>?_)
 ·obtain⟨a,ns,rfl,_⟩:=h
  rfl
 obtain⟨a,ns,rfl,hS,h63,q⟩:=h
 refine⟨_,(QSs.run (za9 (QS.mk (zey (zpy G_l_hall_by hr rfl zhw (zae (pv 0) zad)) (zeA K (n:=3) rfl (zbf (zay (i:=1) zbz.nd rfl (Or.inl rfl)) (zbf (zay (i:=2) zbz.nd rfl (Or.inl rfl)) (zbf (zay (i:=3) zbz.nd rfl (Or.inl rfl)) zda))))))
   (za9 (QS.mk (zaA (i:=4) zbz.nd rfl (Or.inl rfl) (zaB (k_ix K) (pv 2) (zao zaU (zat G_l_cell_at hr rfl (zae (pv 0) (zab zaa zad))) (zaP (zdQ K) rfl B.len L2.boot_len (zae (pv 2) zad))) (λ_ _=>rfl))))
   (za9 (QS.mk (zaA (i:=5) zbz.nd rfl (Or.inl rfl) (zaL (zaI (zao zaU (zat G_l_cell_at hr rfl (zae (pv 0) (zab zaa zad))) zaa) (zaI (zao zaU (zao zaG (zat G_l_cell_at hr rfl (zae (pv 0) (zab zaa zad))) zaa) zaa) zad)))))
   (za9 (QS.mk (zbu (i:=6) zbz.nd rfl rfl rfl (CompOk.m (sc0:=zac s_law) (N:=["script","hall","numbers","placed","number","given","rest","one","other","fuels","whole","told","k","fuel","place","mine","deed","part","due","kept"]) (N':=["script","hall","numbers","placed","number","given","rest","one","other","fuels","whole","told","k","fuel","place","mine","deed","part","due","kept"]) (ms:=[false,false,false,false,false,false,false,false,false,false,false,false,true,false,false,false,false,false,false,false])) (zbD rfl B.range (zaI (zao zaU (zat G_l_cell_at hr rfl (zae (pv 0) (zab zaa zad))) zaa) zad)) (λ_ _ _ _ _=>(zay (i:=12) (ndS (N:=["script","hall","numbers","placed","number","given","rest","one","other","fuels","whole","told","k","fuel","place","mine","deed","part","due","kept"])) rfl (Or.inl rfl))) (λ_ _ _ _ _=>zaY) (λ_ _ _ _ _=>(zao zgb (zat G_l_mix hr rfl (zaC (zat G_l_cell_at hr rfl (zae (pv 0) (zab zaa zad))) (zae (pv 12) (zab zaa zad)))) zaa))))
   (za9 (QS.mk (zaA (i:=7) zbz.nd rfl (Or.inl rfl) (znc M_Run hr rfl zhw (zae (pv 1) (zae (pv 4) (zae (pv 5) (zaC (zbU (zhq K) rfl B.list L2.zbV (zae (pv 6) zad)) zad)))))))
   (za9 (QS.mk (zaA (i:=8) zbz.nd rfl (Or.inl rfl) (znc M_Run hr rfl zhw (zae (pv 1) (zae (pv 4) (zae (pv 5) (zaC (zbU (zhq K) rfl B.list L2.zbV (zae (pv 6) zad)) zad)))))))
   (za9 (QS.mk (zbu (i:=9) zbz.nd rfl rfl rfl (CompOk.m (sc0:=zac s_law) (N:=["script","hall","numbers","placed","number","given","rest","one","other","fuels","whole","told","k","fuel","place","mine","deed","part","due","kept"]) (N':=["script","hall","numbers","placed","number","given","rest","one","other","fuels","whole","told","k","fuel","place","mine","deed","part","due","kept"]) (ms:=[false,false,false,false,false,false,false,false,false,false,false,false,true,false,false,false,false,false,false,false])) (zbD rfl B.range (zaI (zao (zaM K) zaa (zao zaU (zao zaG (zat G_l_cell_at hr rfl (zae (pv 0) (zab zaa zad))) zaa) zaa)) zad)) (λ_ _ _ _ _=>(zay (i:=12) (ndS (N:=["script","hall","numbers","placed","number","given","rest","one","other","fuels","whole","told","k","fuel","place","mine","deed","part","due","kept"])) rfl (Or.inl rfl))) (λ_ _ _ _ _=>zaY) (λ_ _ _ _ _=>(zat G_l_mix hr rfl (zaC (zat G_l_cell_at hr rfl (zae (pv 0) (zab zaa zad))) (zaI (zao (zaM K) zaa (pv 12)) (zab zaa zad)))))))
   (za9 (QS.mk (zaA (i:=10) zbz.nd rfl (Or.inl rfl) zaa))
   (za9 (QS.mk (zaA (i:=11) zbz.nd rfl (Or.inl rfl) (za1 G_Run_go Z.c_Run hr za2 (pv 7) (zab zaa zad))))
   (za9 (zjm PassesOwn.never rfl (zk4 K rfl B.enumerate (zae (pv 9) zad)) (zeA K (n:=2) rfl (zbf (zay (i:=12) zbz.nd rfl (Or.inl rfl)) (zbf (zay (i:=13) zbz.nd rfl (Or.inl rfl)) zda))) (za9 (qs_if (zas (k_eq K hr) (pv 12) (zao zaG (zaP (zdQ K) rfl B.len L2.boot_len (zae (pv 9) zad)) zaa) (zau _)) (za9 (zjm PassesOwn.never rfl (zbp K (pv 3)) (zeA K (n:=2) rfl (zbf (zay (i:=14) zbz.nd rfl (Or.inl rfl)) (zbf (zay (i:=15) zbz.nd rfl (Or.inl rfl)) zda))) (zeo (zjm PassesOwn.never rfl (zbp K (zaB (k_ix K) (pv 15) zaa (λ_ _=>rfl))) (zay (i:=16) zbz.nd rfl (Or.inl rfl)) (zeo (zjm PassesOwn.never rfl (zi4 K (pv 16)) (zay (i:=17) zbz.nd rfl (Or.inl rfl)) (zeo (QS.mk (zaW (zdD (zaP (zpq K) rfl B.isinstance L2.zdi (zae (pv 17) (zae (zkg (v:=.ty "list") rfl B.list L2.zbV rfl) zad)))) (zai (zey (zao zgb (zaB (k_ix K) (pv 17) zaa (λ_ _=>rfl)) zaa) (zga (pv 17) zaa zdv))) zav))))))))
   (za9 (zob (q_mth G_Hall_lay Z.c_Hall hr zhw (QE.mk (pv 1)) (znX (QE.mk (pv 4)) (zoc (q_mk M_Craft hr rfl (zhu (zig zdH) (zhu (zig zdH) (zhu (zig (zpA (q_tup (zeW (QE.mk zaJ) (zeW (QE.mk zaa) (zpB (q_op (zaM K) (zig (zeW (QE.mk zaa) zdH)) (q_op zb5 (zig (zeW (QE.mk zaa) zdH)) (QE.mk zaa))) zdH)))) zdH)) (zhu (zig (zhu (zig zdH) zdH)) zdH))))) zdH))))
   (zeo (QS.mk (zaS (za1 G_Hall_tear Z.c_Hall hr zhw (pv 1) (zaE (zaB (k_ix K) (pv 2) (zdB zb2 zaa) (λ_ _=>rfl)) zad))))))) znY)
   (za9 (QS.mk (zaA (i:=11) zbz.nd rfl (Or.inl rfl) (za1 G_Run_go Z.c_Run hr za2 (pv 7) (zae (pv 13) zad))))
   (za9 (QS.mk (zaA (i:=10) zbz.nd rfl (Or.inl rfl) (zao (zaM K) (pv 10) (pv 13))))
   (zeo (QS.mk (zaW (PW.pt (zkh (zas zoD (zbk G_Run_steps Z.c_Run hr za2 (pv 7)) (pv 10) (zau _)) (ziS (PW.pt (ziT (zas (k_eq K hr) (pv 11) (zaL (zab zaJ zad)) (zau _)) (zgw (zas (k_ne K hr) (zbk G_Run_steps Z.c_Run hr za2 (pv 7)) (pv 10) (zau _)))))))) (zai (zar zno)) zav)))))))
   (za9 (QS.mk (zaA (i:=18) zbz.nd rfl (Or.inl rfl) (za1 G_Run_go Z.c_Run hr za2 (pv 8) (zae (pv 10) zad))))
   (za9 (QS.mk (zaW (PW.pt (zkh (zas (k_ne K hr) (pv 11) (pv 18) (zau _)) (zkh (zas (k_ne K hr) (zbk G_Run_steps Z.c_Run hr za2 (pv 7)) (zbk G_Run_steps Z.c_Run hr za2 (pv 8)) (zau _)) (ziS (zas (k_ne K hr) (zbk G_Run_frames Z.c_Run hr za2 (pv 7)) (zbk G_Run_frames Z.c_Run hr za2 (pv 8)) (zau _)))))) (zai (zar zno)) zav))
   (za9 (QS.mk (zaW (zas (k_eq K hr) (pv 11) (zaL (zab zaJ zad)) (zau _)) (zai (zar zno)) zav))
   (za9 (QS.mk (zaA (i:=19) zbz.nd rfl (Or.inl rfl) (zbk G_Run_steps Z.c_Run hr za2 (pv 7))))
   (zeo (QS.mk (zar (zbw (zbB (k_eq K hr) (za1 G_Run_go Z.c_Run hr za2 (pv 7) (zab zaa zad)) (pv 11) (zau _)) (zbw (zbB (k_eq K hr) (za1 G_Run_go Z.c_Run hr za2 (pv 7) (zab zaa zad)) (pv 11) (zau _)) (zbw (zbB (k_eq K hr) (zbk G_Run_steps Z.c_Run hr za2 (pv 7)) (pv 19) (zau _)) (zb1 (zbB (k_eq K hr) (za1 G_Run_go Z.c_Run hr za2 (pv 8) (zab zaa zad)) (pv 18) (zau _)))))))))))))))))))))))),?_⟩
 walk_at "gs"
 walk_at "q"
 walk_at "gs"
 refine⟨a,ns,rfl,hS,λT ha la va nl pl H0 H1 numbers kinds ps fp s00 s01 hT hnl hA PA pk ln1 ln3 hfr=>?_⟩
 refine⟨T,_,rfl,SqT.of hT,rfl,⟨_,_,rfl,?_⟩⟩
 refine⟨_,_,rfl,?_⟩
 refine⟨_,_,rfl,?_⟩
 refine⟨rfl,?_⟩
 have hS1:=(s00.trans s01).seq hS
 -- number
 walk_at "gs"
 walk_at "q"
 walk_at "gs"
 refine zcp hS1 (by decide) ?_
 walk_at "gs"
 refine zdP (.inl (SqL.of hnl)) ?_
 rw[zlm]
 have lnp:(0:Int)<(numbers.length:Int):=by omega
 have at1:=Int.emod_nonneg (cell ns 3) (show ((numbers.length:Nat):Int)≠0 by omega)
 have at2:=Int.emod_lt_of_pos (cell ns 3) lnp
 walk_at "gs"
 generalize cell ns 3 % (numbers.length:Int)=at' at at1 at2 ⊢
 obtain⟨n,hat⟩:∃ n,numbers[at'.toNat]?=some n:=⟨_,List.getElem?_eq_getElem (by omega)⟩
 refine zbc (SqL.of hnl) (v:=.int n) (zhv at1 (by rw[zgm,hat];rfl)) ?_
 have nm:n∈numbers:=zmg hat
 have nb:=pk.nb n nm
 -- given
 walk_at "gs"
 walk_at "q"
 walk_at "gs"
 refine zcp hS1 (by decide) ?_
 walk_at "gs"
 refine zcp hS1 (by decide) ?_
 walk_at "gs"
 have g0:=Int.emod_nonneg (cell ns 4) (show (50:Int)≠0 by decide)
 have g1:=Int.emod_nonneg (cell ns 4 / 50) (show (50:Int)≠0 by decide)
 generalize cell ns 4 % 50=a0 at g0 ⊢
 generalize cell ns 4 / 50 % 50=a1 at g1 ⊢
 have met:=pk.met nm g0 g1
 refine⟨(by walk_at "sm"),λgt gt0=>?_⟩
 have s2:=zah gt0 (.tup [V.int a0,.int a1])
 have hgt:(upd H1 gt (.tup [V.int a0,.int a1])) gt=some (.tup [V.int a0,.int a1]):=zaf
 generalize upd H1 gt (.tup [V.int a0,.int a1])=H2 at *
 -- rest
 walk_at "gs"
 walk_at "q"
 walk_at "gs"
 refine zcp (s2.seq hS1) (by decide) ?_
 have r0:=Int.emod_nonneg (cell ns 5) (show (9:Int)≠0 by decide)
 have r9:=Int.emod_lt_of_pos (cell ns 5) (show (0:Int)<9 by decide)
 walk_at "gs"
 generalize cell ns 5 % 9=rn at r0 r9 ⊢
 refine zcH (by omega) (by omega) ?_
 refine zaZ zbS (((List.range rn.toNat).map λ(k:Nat)=>mix (cell ns 5) (0+(k:Int)) 6 - 1).map D.int) (by simp) (zaz (by omega)) (λj x d H3 R hj hd s3 hx hR=>?_) (λv H3 s3 n3=>?_)
 ·subst hx
  rw[zgm] at hd
  obtain⟨z,hz,rfl⟩:=zme.mp hd
  rw[zgm,List.getElem?_range hj] at hz
  cases hz
  walk_at "gs"
  refine zcp ((s2.trans s3).seq hS1) (by decide) ?_
  walk_at "gs"
  refine zc7 (by decide) ?_
  walk_at "gs"
  exact hR _ _ (Same.refl _) New.int
 obtain⟨rl,rfl,rl0,hrl⟩:=New.ints_iff.mp n3
 generalize ((List.range rn.toNat).map λ(k:Nat)=>mix (cell ns 5) (0+(k:Int)) 6 - 1)=rest at *
 have s13:=s2.trans s3
 -- two runs
 walk_at "gs"
 walk_at "q"
 walk_at "gs"
 refine zdZ (.inl (SqL.of hrl)) λra1 ra10=>?_
 have s4:=zah ra10 (.lst (rest.map V.int))
 have hra1:(upd H3 ra1 (.lst (rest.map V.int))) ra1=some (.lst (rest.map V.int)):=zaf
 generalize upd H3 ra1 (.lst (rest.map V.int))=H4 at *
 have s14:=s13.trans s4
 walk_at "gs"
 intro r1 dx1 r10 dx10 ndx1
 refine⟨r1,dx1,ha,la,va,gt,ra1,n,a0,a1,numbers,crBy ps,[],fp,rest,rfl,zaf,hA.same (s14.trans (zbZ r10 dx10)),.inr (SqT.of (zbZ r10 dx10 _ _ ((s3.trans s4) _ _ hgt))),SqL.of (zbZ r10 dx10 _ _ hra1),by unfold zbN;omega,λz=>absurd nm z,λ_ z=>absurd met z,λ_ _ H5 ka1 ia1 sa1 fas1 kfp1 ns1 m5 A1 pm1 kf1=>⟨rfl,?_⟩⟩
 obtain⟨s5,ow1⟩:=made r10 dx10 m5
 have kf1:∀ b∈ka1::kfp1,H4 b=none:=λb hb=>(zbZ r10 dx10).free (kf1 b hb)
 clear m5
 have in1:∀ b,b∈zap r1 ia1 sa1 fas1∨b∈kfp1→H5 b≠none:=λb hb z=>by
  rcases hb with w | w
  ·obtain⟨o,e,_⟩:=A1.has b w
   rw[z] at e;cases e
  ·obtain⟨o,e⟩:=A1.kn.has b w
   rw[z] at e;cases e
 have s15:=s14.trans s5
 walk_at "gs"
 walk_at "q"
 walk_at "gs"
 refine zdZ (.inl (SqL.of ((s4.trans s5) _ _ hrl))) λra2 ra20=>?_
 have s6:=zah ra20 (.lst (rest.map V.int))
 have hra2:(upd H5 ra2 (.lst (rest.map V.int))) ra2=some (.lst (rest.map V.int)):=zaf
 generalize upd H5 ra2 (.lst (rest.map V.int))=H6 at *
 have s16:=s15.trans s6
 walk_at "gs"
 intro r2 dx2 r20 dx20 ndx2
 refine⟨r2,dx2,ha,la,va,gt,ra2,n,a0,a1,numbers,crBy ps,[],fp,rest,rfl,zaf,hA.same (s16.trans (zbZ r20 dx20)),.inr (SqT.of (zbZ r20 dx20 _ _ ((s3.trans (s4.trans (s5.trans s6))) _ _ hgt))),SqL.of (zbZ r20 dx20 _ _ hra2),by unfold zbN;omega,λz=>absurd nm z,λ_ z=>absurd met z,λ_ _ H7 ka2 ia2 sa2 fas2 kfp2 ns2 m7 A2 pm2 kf2=>⟨rfl,?_⟩⟩
 obtain⟨s7,ow2⟩:=made r20 dx20 m7
 have kf2:∀ b∈ka2::kfp2,H6 b=none:=λb hb=>(zbZ r20 dx20).free (kf2 b hb)
 clear m7
 have A1:=A1.same (s6.trans s7)
 have s17:=s16.trans s7
 -- fuels
 walk_at "gs"
 walk_at "q"
 walk_at "gs"
 refine zcp (s17.seq hS1) (by decide) ?_
 have f0:=Int.emod_nonneg (cell ns 3 / 3) (show (9:Int)≠0 by decide)
 have f9:=Int.emod_lt_of_pos (cell ns 3 / 3) (show (0:Int)<9 by decide)
 walk_at "gs"
 generalize cell ns 3 / 3 % 9=fn at f0 f9 ⊢
 refine zcH (by omega) (by omega) ?_
 refine zaZ zbS (((List.range (1+fn).toNat).map λ(k:Nat)=>mix (cell ns 3) (40+(0+(k:Int))) 13).map D.int) (by simp) (zaz (by omega)) (λj x d H8 R hj hd s8 hx hR=>?_) (λv H8 s8 n8=>?_)
 ·subst hx
  rw[zgm] at hd
  obtain⟨z,hz,rfl⟩:=zme.mp hd
  rw[zgm,List.getElem?_range hj] at hz
  cases hz
  walk_at "gs"
  refine zcp ((s17.trans s8).seq hS1) (by decide) ?_
  walk_at "gs"
  refine zc7 (by decide) ?_
  exact hR _ _ (Same.refl _) New.int
 obtain⟨fl,rfl,fl0,hfl⟩:=New.ints_iff.mp n8
 have fpos:∀ f∈((List.range (1+fn).toNat).map λ(k:Nat)=>mix (cell ns 3) (40+(0+(k:Int))) 13),0≤f:=λf hf=>by
  obtain⟨k,_,rfl⟩:=zmm.mp hf
  exact za3 (by decide)
 have flen:((List.range (1+fn).toNat).map λ(k:Nat)=>mix (cell ns 3) (40+(0+(k:Int))) 13).length≤9:=by simp;omega
 generalize ((List.range (1+fn).toNat).map λ(k:Nat)=>mix (cell ns 3) (40+(0+(k:Int))) 13)=fuels at *
 have A1:=A1.same s8
 have A2:=A2.same s8
 have s18:=s17.trans s8
 have hA8:=hA.same s18
 have hnl8:=s18 _ _ hnl
 have s08:=s01.trans s18
 -- what is apart
 have d1:∀ b∈zap r1 ia1 sa1 fas1,H1 b=none:=λb hb=>s14.free (ow1 b hb)
 have d2:∀ b∈zap r2 ia2 sa2 fas2,H1 b=none:=λb hb=>s16.free (ow2 b hb)
 have k1:∀ b∈ka1::kfp1,H1 b=none:=λb hb=>s14.free (kf1 b hb)
 have k2:∀ b∈ka2::kfp2,H1 b=none:=λb hb=>s16.free (kf2 b hb)
 have in2:∀ b,b∈zap r2 ia2 sa2 fas2∨b∈kfp2→H8 b≠none:=λb hb z=>by
  rcases hb with w | w
  ·obtain⟨o,e,_⟩:=A2.has b w
   rw[z] at e;cases e
  ·obtain⟨o,e⟩:=A2.kn.has b w
   rw[z] at e;cases e
 have ap:∀ b,b∈zap r1 ia1 sa1 fas1∨H8 b=none→b∉zap r2 ia2 sa2 fas2∧b∉kfp2:=λb hb=>by
  rcases hb with w | w
  ·exact⟨λz=>in1 b (.inl w) (s6.free (ow2 b z)),λz=>in1 b (.inl w) (s6.free (kf2 b (List.mem_cons_of_mem _ z)))⟩
  ·exact⟨λz=>in2 b (.inl z) w,λz=>in2 b (.inr z) w⟩
 have ap1:∀ b∈zap r2 ia2 sa2 fas2,b∉kfp1:=λb hb z=>in1 b (.inr z) (s6.free (ow2 b hb))
 have old:∀ b,b∈zap r1 ia1 sa1 fas1∨H8 b=none→H1 b=none∧b≠fl:=λb hb=>by
  rcases hb with w | w
  ·refine⟨d1 b w,λz=>?_⟩
   obtain⟨o,e,_⟩:=(A1.has b w)
   have:H7 b≠none:=λy=>in1 b (.inl w) ((s6.trans s7).free y)
   exact this (by rw[z];exact fl0)
  ·exact⟨s18.free w,λz=>by rw[z,hfl] at w;cases w⟩
 -- the start
 have wb:∀ ns':List Int,ns'.Perm numbers→Wf ns' (crBy ps) [zcD n a0 a1]:=λns' pm=>⟨λk hk=>by
  rw[zms.mp hk]
  exact⟨pm.mem_iff.mpr nm,by show (0:Int)≤0;omega,by show (0:Int)≤_;omega,rfl,rfl⟩,λk hk=>by cases hk⟩
 have w1:WfR ns1 (crBy ps) (zcK (crBy ps) ⟨[],rest,0,none⟩ (zcD n a0 a1) []):=zcE (wb ns1 pm1)
 have w2:WfR ns2 (crBy ps) (zcK (crBy ps) ⟨[],rest,0,none⟩ (zcD n a0 a1) []):=zcE (wb ns2 pm2)
 have e0:zcN (zcK (crBy ps) ⟨[],rest,0,none⟩ (zcD n a0 a1) []).en:=zcF
 have l0:(zcK (crBy ps) ⟨[],rest,0,none⟩ (zcD n a0 a1) []).st.length≤20:=Nat.le_trans ze2 (by simp)
 have k0:(zcK (crBy ps) ⟨[],rest,0,none⟩ (zcD n a0 a1) []).k=0:=rfl
 have ksn:∀ m,m∈ns2↔m∈ns1:=λm=>by rw[pm2.mem_iff,pm1.mem_iff]
 generalize zcK (crBy ps) ⟨[],rest,0,none⟩ (zcD n a0 a1) []=s0 at *
 have rt1:=A1.kn.rt
 have stp:∀ m,(goR (crBy ps) ns1 m s0).k≤(m:Int)∧((goR (crBy ps) ns1 m s0).en=none→(goR (crBy ps) ns1 m s0).k=(m:Int)):=λm=>by
  have:=zpP rt1 m w1
  rw[k0] at this
  exact⟨by omega,λz=>by have:=this.2 z;omega⟩
 -- one goes on
 have go1:∀ (H H':Hp) (fas fas':List Fa) (s:Rs),RunX (C 6) (C 5) (C 7) H r1 ka1 ia1 sa1 ns1 (crBy ps) fas s kfp1→RunX (C 6) (C 5) (C 7) H r2 ka2 ia2 sa2 ns2 (crBy ps) fas2 s0 kfp2→(∀ b∈zap r1 ia1 sa1 fas,b∈zap r1 ia1 sa1 fas1∨H8 b=none)→Free H8 H→zaF (zap r1 ia1 sa1 fas) H (zap r1 ia1 sa1 fas') H'→
   RunX (C 6) (C 5) (C 7) H' r2 ka2 ia2 sa2 ns2 (crBy ps) fas2 s0 kfp2∧(∀ b∈zap r1 ia1 sa1 fas',b∈zap r1 ia1 sa1 fas1∨H8 b=none)∧Free H8 H'∧(∀ b o,H1 b≠none∨b=fl→H b=some o→H' b=some o)∧Tups H H':=λH H' fas fas' s B1 B2 g f m=>
  ⟨B2.beside B1 m.1 λb hb=>ap b (g b hb),λb hb=>by
   rcases m.2.1 b hb with z | z
   ·exact g b z
   ·exact .inr (f b z),f.trans m.2.2,λb o hb e=>m.1 b o (λz=>by
    obtain⟨y1,y2⟩:=old b (g b z)
    rcases hb with w | w
    ·exact w y1
    ·exact y2 w) e,B1.ntup m.1⟩
 walk_at "gs"
 walk_at "q"
 walk_at "gs"
 obtain⟨dr1,ev1,hr1,_⟩:=A1.ins
 walk_at "gs"
 walk_at "q"
 walk_at "gs"
 refine⟨r1,dr1,_,rfl,hr1,zbn (by decide +kernel) (by decide +kernel) (by decide +kernel) (by decide +kernel) (by decide +kernel),?_⟩
 walk_at "gs"
 refine⟨r1,ka1,ia1,sa1,ns1,crBy ps,fas1,s0,kfp1,0,rfl,A1,w1,l0,λtold H9 fas9 m9 B9 t9 _ _=>?_⟩
 obtain⟨C9,g9,f9',p9,_⟩:=go1 _ _ _ _ _ A1 A2 (λb hb=>.inl hb) (λb h=>h) m9
 have keep9:Same H0 H9:=λb o e=>p9 b o (.inl λz=>by rw[s01 b o e] at z;cases z) (s08 b o e)
 have hA9:HallAt (C 8) (C 7) H9 ha la va numbers (crBy ps) [] fp:=hA8.frame (A1.ntup m9.1) λb hb o e=>p9 b o (.inl λz=>by
  obtain⟨u,hu⟩:=hA.dom b hb
  rw[hu] at z;cases z) e
 have hfl9:=p9 _ _ (.inr rfl) hfl
 have hnl9:=p9 _ _ (.inl λz=>by rw[hnl] at z;cases z) hnl8
 clear p9 m9
 -- fuel after fuel
 walk_at "gs"
 with_reducible refine zd1 (λσ H=>E8 λtold x12 x13 x14 x15 x16 x17 fas=>A6 (σ=[some (.ref a),some (.ref ha),some (.ref nl),some (.ref pl),some (.int n),some (.ref gt),some (.ref rl),some (.ref r1),some (.ref r2),some (.ref fl),some (.int fuels.sum),some told,x12,x13,x14,x15,x16,x17,none,none]) (zbY H (goR (crBy ps) ns1 fuels.sum.toNat s0).en told) (RunX (C 6) (C 5) (C 7) H r1 ka1 ia1 sa1 ns1 (crBy ps) fas (goR (crBy ps) ns1 fuels.sum.toNat s0) kfp1) (RunX (C 6) (C 5) (C 7) H r2 ka2 ia2 sa2 ns2 (crBy ps) fas2 s0 kfp2) ((∀ b∈zap r1 ia1 sa1 fas,b∈zap r1 ia1 sa1 fas1∨H8 b=none)) (Free H8 H)) (λNX tail=>?_) ?_
 ·walk_at "gs"
  refine⟨fl,_,rfl,hfl9,?_⟩
  refine zmH (xs:=fuels.map V.int) (λi σ H=>E8 λtold x12 x13 x14 x15 x16 x17 fas=>A8 (σ=[some (.ref a),some (.ref ha),some (.ref nl),some (.ref pl),some (.int n),some (.ref gt),some (.ref rl),some (.ref r1),some (.ref r2),some (.ref fl),some (.int (fuels.take i).sum),some told,x12,x13,x14,x15,x16,x17,none,none]) (zbY H (goR (crBy ps) ns1 (fuels.take i).sum.toNat s0).en told) (RunX (C 6) (C 5) (C 7) H r1 ka1 ia1 sa1 ns1 (crBy ps) fas (goR (crBy ps) ns1 (fuels.take i).sum.toNat s0) kfp1) (RunX (C 6) (C 5) (C 7) H r2 ka2 ia2 sa2 ns2 (crBy ps) fas2 s0 kfp2) ((∀ b∈zap r1 ia1 sa1 fas,b∈zap r1 ia1 sa1 fas1∨H8 b=none)) (Free H8 H) (H fl=some (.lst (fuels.map V.int))) ((i≤fuels.length / 2→Same H0 H∧H nl=some (.lst (numbers.map V.int))∧HallAt (C 8) (C 7) H ha la va numbers (crBy ps) [] fp)))
   ⟨told,none,none,none,none,none,none,fas9,rfl,t9,B9,C9,g9,f9',hfl9,λ_=>⟨keep9,hnl9,hA9⟩⟩ (λi σ H _ ⟨_,_,_,_,_,_,_,_,_,_,_,_,_,_,h,_⟩=>SqL.of h) ?_ ?_
  ·rintro i v T' σ H hv ⟨told,x12,x13,x14,x15,x16,x17,fas,rfl,tl,B1,B2,gg,ff,hfl',hh⟩ hT'
   rw[zgm] at hv
   obtain⟨fuel,hfu,rfl⟩:=zme.mp hv
   have hfp:=fpos fuel (zmg hfu)
   have hsum:=zmI hfu
   have hs0:0≤(fuels.take i).sum:=zgt λf hf=>fpos f (List.mem_of_mem_take hf)
   have st:=zah hT' (.tup [V.int i,.int fuel])
   have hT2:(upd H T' (.tup [V.int i,.int fuel])) T'=some (.tup [V.int i,.int fuel]):=zaf
   have tl:=(show zbY (upd H T' (.tup [V.int i,.int fuel])) _ told by
    obtain⟨Tt,e1,e2⟩:=tl
    exact⟨Tt,e1,st _ _ e2⟩)
   have B1:=B1.same st
   have B2:=B2.same st
   have ff:=ff.trans st.fr
   have hfl':=st _ _ hfl'
   have hh:=λz=>(show Same H0 (upd H T' (.tup [V.int i,.int fuel]))∧(upd H T' (.tup [V.int i,.int fuel])) nl=some (.lst (numbers.map V.int))∧HallAt (C 8) (C 7) (upd H T' (.tup [V.int i,.int fuel])) ha la va numbers (crBy ps) [] fp from ⟨(hh z).1.trans st,st _ _ (hh z).2.1,(hh z).2.2.same st⟩)
   generalize upd H T' (.tup [V.int i,.int fuel])=Ha at *
   refine⟨T',_,rfl,SqT.of hT2,rfl,⟨_,_,rfl,?_⟩⟩
   refine⟨_,_,rfl,?_⟩
   refine⟨rfl,?_⟩
   -- the hall is changed
   with_reducible refine zd1 (λσ H=>E4 λy14 y15 y16 y17=>A6 (σ=[some (.ref a),some (.ref ha),some (.ref nl),some (.ref pl),some (.int n),some (.ref gt),some (.ref rl),some (.ref r1),some (.ref r2),some (.ref fl),some (.int (fuels.take i).sum),some told,some (.int (i:Int)),some (.int fuel),y14,y15,y16,y17,none,none]) (RunX (C 6) (C 5) (C 7) H r1 ka1 ia1 sa1 ns1 (crBy ps) fas (goR (crBy ps) ns1 (fuels.take i).sum.toNat s0) kfp1) (RunX (C 6) (C 5) (C 7) H r2 ka2 ia2 sa2 ns2 (crBy ps) fas2 s0 kfp2) (Free H8 H) (H fl=some (.lst (fuels.map V.int))) ((i+1≤fuels.length / 2→Same H0 H∧H nl=some (.lst (numbers.map V.int))∧HallAt (C 8) (C 7) H ha la va numbers (crBy ps) [] fp))) (λNX tail=>?_) ?_
   ·walk_at "gs"
    refine zdP (.inl (SqL.of hfl')) ?_
    walk_at "gs"
    rw[zlm]
    refine zen (λe=>?_) (λe=>?_)
    ·have ei:(i:Int)=(fuels.length:Int) / 2:=of_decide_eq_true e
     obtain⟨sm0,hnla,hAa⟩:=hh (by omega)
     walk_at "gs"
     have is9o:∀ b,H0 b≠none∧is9 Ha b→H0 b≠none:=λb z=>z.1
     have mt0:Mt (λb=>H0 b≠none∧is9 Ha b) Ha Ha:=⟨λb o _ e=>e,λb z=>z.2⟩
     obtain⟨pvs,hpv,r2'⟩:=id PA
     have tup9:∀ {b:Addr}{xs:List V}{H':Hp},H0 b=some (.tup xs)→Mt (λb=>H0 b≠none∧is9 Ha b) Ha H'→H' b=some (.tup xs):=λe m=>m.off _ _ (λz=>zi8 (sm0 _ _ e) z.2) (sm0 _ _ e)
     have lst9:∀ {b:Addr}{xs:List V}{H':Hp},H0 b=some (.lst xs)→(∀ x∈xs,∀ i,x≠.int i)→Mt (λb=>H0 b≠none∧is9 Ha b) Ha H'→H' b=some (.lst xs):=λe nx m=>m.off _ _ (λz=>zmq (sm0 _ _ e) nx z.2) (sm0 _ _ e)
     have npv:∀ x∈pvs,∀ i,x≠V.int i:=λx hx j z=>by
      obtain⟨k,hk⟩:=List.getElem?_of_mem hx
      have hi:k<ps.length:=by rw[r2'.1];exact (zge.mp hk).1
      obtain⟨T',w,e1,_⟩:=r2'.2 k _ x (List.getElem?_eq_getElem hi) hk
      rw[z] at e1;cases e1
     with_reducible refine zd1 (λσ H=>E4 λy14 y15 y16 y17=>σ=[some (.ref a),some (.ref ha),some (.ref nl),some (.ref pl),some (.int n),some (.ref gt),some (.ref rl),some (.ref r1),some (.ref r2),some (.ref fl),some (.int (fuels.take i).sum),some told,some (.int (i:Int)),some (.int fuel),y14,y15,y16,y17,none,none]∧Mt (λb=>H0 b≠none∧is9 Ha b) Ha H) (λNX' tail'=>?_) ?_
     ·walk_at "gs"
      refine⟨pl,rfl,⟨_,SqL.of (lst9 hpv npv mt0)⟩,?_⟩
      refine zfj (xs:=pvs) (λj σ H=>E4 λy14 y15 y16 y17=>σ=[some (.ref a),some (.ref ha),some (.ref nl),some (.ref pl),some (.int n),some (.ref gt),some (.ref rl),some (.ref r1),some (.ref r2),some (.ref fl),some (.int (fuels.take i).sum),some told,some (.int (i:Int)),some (.int fuel),y14,y15,y16,y17,none,none]∧Mt (λb=>H0 b≠none∧is9 Ha b) Ha H)
       ⟨_,_,_,_,rfl,mt0⟩ (λj σ H _ ⟨_,_,_,_,_,m⟩=>SqL.of (lst9 hpv npv m)) ?_ (λσ H z=>tail' _ _ z)
      rintro j v σ Hb hv ⟨y14,y15,y16,y17,rfl,mtb⟩
      have hi:j<ps.length:=by rw[r2'.1];exact (zge.mp hv).1
      obtain⟨Tp,w,rfl,hTp,hw⟩:=r2'.2 j _ v (List.getElem?_eq_getElem hi) hv
      have rtj:=pk.rt _ (List.getElem_mem hi)
      generalize ps[j]=pj at *
      obtain⟨qa,z1,z2,b3,b4,dvs',nvs',rfl,hq,L1,L2',hb3,hb4,hD,hN⟩:=hw
      have nq:∀ x∈[V.ref z1,.ref z2,.ref b3,.ref b4],∀ i,x≠V.int i:=λx hx i z=>by
       rw[z] at hx;simp at hx
      have ndv:∀ x∈dvs',∀ i,x≠V.int i:=λx hx i z=>by
       obtain⟨k,hk⟩:=List.getElem?_of_mem hx
       have hk':k<pj.2.deeds.length:=by rw[hD.1];exact (zge.mp hk).1
       obtain⟨t,xs,e1,_⟩:=zlg (hD.2 k _ x (List.getElem?_eq_getElem hk') hk)
       rw[z] at e1;cases e1
      refine⟨Tp,_,rfl,SqT.of (tup9 hTp mtb),rfl,⟨_,_,rfl,?_⟩⟩
      refine⟨_,_,rfl,?_⟩
      refine⟨rfl,?_⟩
      walk_at "gs"
      refine zbc (SqL.of (lst9 hq nq mtb)) (v:=.ref b3) (zaV (j:=2) rfl) ?_
      refine⟨b3,rfl,⟨_,SqL.of (lst9 hb3 ndv mtb)⟩,?_⟩
      refine zfj (xs:=dvs') (λk σ H=>∃ y16 y17,σ=[some (.ref a),some (.ref ha),some (.ref nl),some (.ref pl),some (.int n),some (.ref gt),some (.ref rl),some (.ref r1),some (.ref r2),some (.ref fl),some (.int (fuels.take i).sum),some told,some (.int (i:Int)),some (.int fuel),some (.int pj.1),some (.ref qa),y16,y17,none,none]∧Mt (λb=>H0 b≠none∧is9 Ha b) Ha H)
       ⟨_,_,rfl,mtb⟩ (λk σ H _ ⟨_,_,_,m⟩=>SqL.of (lst9 hb3 ndv m)) ?_ (λσ H ⟨u1,u2,e1,m⟩=>⟨_,_,u1,u2,e1,m⟩)
      rintro k x σ Hc hx ⟨y16,y17,rfl,mtc⟩
      have hk':k<pj.2.deeds.length:=by rw[hD.1];exact (zge.mp hx).1
      have dr:=hD.2 k _ x (List.getElem?_eq_getElem hk') hx
      have dl9:=rtj.nine.d9 _ (List.getElem_mem hk')
      generalize pj.2.deeds[k]=dk at *
      obtain⟨t,xs,ds,ed,rfl,ht,lds,_,hpt⟩:=dr
      walk_at "gs"
      refine⟨t,rfl,⟨_,SqT.of (tup9 ht mtc)⟩,?_⟩
      refine zpv (xs:=xs) (λj σ H=>∃ y17,σ=[some (.ref a),some (.ref ha),some (.ref nl),some (.ref pl),some (.int n),some (.ref gt),some (.ref rl),some (.ref r1),some (.ref r2),some (.ref fl),some (.int (fuels.take i).sum),some told,some (.int (i:Int)),some (.int fuel),some (.int pj.1),some (.ref qa),some (.ref t),y17,none,none]∧Mt (λb=>H0 b≠none∧is9 Ha b) Ha H)
       ⟨_,rfl,mtc⟩ (λj σ H _ ⟨_,_,m⟩=>SqT.of (tup9 ht m)) ?_ (λσ H ⟨u1,e1,m⟩=>⟨_,u1,e1,m⟩)
      rintro l x σ Hd hx ⟨y17,rfl,mtd⟩
      have hl':l<ds.length:=by rw[lds];exact (zge.mp hx).1
      have hdl:ds[l]?=some ds[l]:=List.getElem?_eq_getElem hl'
      walk_at "gs"
      rcases hpt l _ x hdl hx with ⟨i',_,rfl⟩ | ⟨i',_,rfl⟩ | ⟨b,ll,el,rfl,hb⟩ | ⟨b,u,w',_,rfl,hb⟩
      ·refine zhp (.int i') zeB ?_
       walk_at "gs"
       exact⟨_,rfl,mtd⟩
      ·refine zhp (.str i') zeC ?_
       walk_at "gs"
       exact⟨_,rfl,mtd⟩
      ·have l9:ll.length=9:=by
        obtain⟨ds',e',_,sim⟩:=zc2 dl9
        rw[e'] at ed
        cases ed
        have:=sim _ (List.getElem_mem hl')
        rw[el] at this
        exact ziP this
       have hSb:H0 b≠none∧is9 Ha b:=⟨λz=>(by rw[hb] at z;cases z),ll,l9,sm0 _ _ hb⟩
       obtain⟨x0,xr,hxr,e5⟩:=(mtd.on b hSb).cons
       refine zhp (.lst e5) zi5 ?_
       walk_at "gs"
       refine zbc (SqL.of e5) (v:=.int x0) zbJ ?_
       walk_at "gs"
       refine zfi e5 ix0 ?_
       exact⟨_,rfl,mtd.set hSb (l:=x0::xr) (by simp[hxr]) _⟩
      ·refine zhp (.tup (tup9 hb mtd)) zdF ?_
       walk_at "gs"
       exact⟨_,rfl,mtd⟩
     rintro σ Hb ⟨y14,y15,y16,y17,rfl,mtb⟩
     have yg:=mtb.young is9o
     have tg:=mtb.tups λb z=>z.2
     have o0:∀ b,H1 b=none→H0 b=none:=λb z=>s01.free z
     have D1:=B1.youngS yg tg (λb hb=>o0 b (old b (gg b hb)).1) λb hb=>o0 b (k1 b hb)
     have D2:=B2.youngS yg tg (λb hb=>o0 b (d2 b hb)) λb hb=>o0 b (k2 b hb)
     have flb:Hb fl=some (.lst (fuels.map V.int)):=yg fl _ ((s01.trans s17).free fl0) hfl'
     have nlb:Hb nl=some (.lst (numbers.map V.int)):=yg nl _ (hfr nl (by simp)) hnla
     have hAb:HallAt (C 8) (C 7) Hb ha la va numbers (crBy ps) [] fp:=hAa.frame tg λb hb o e=>yg b o (hfr b (by
      simp only[List.mem_cons] at hb ⊢
      rcases hb with z | z | z | z
      ·exact .inl z
      ·exact .inr (.inl z)
      ·exact .inr (.inr (.inl z))
      ·exact .inr (.inr (.inr (.inr z))))) e
     have fb:Free H8 Hb:=λb hb=>ff b (by
      cases eb:Ha b with
      | none=>rfl
      | some o=>
       exfalso
       by_cases w:H0 b≠none∧is9 Ha b
       ·obtain⟨l,_,e⟩:=mtb.on b w
        rw[hb] at e;cases e
       ·rw[mtb.off b o w eb] at hb;cases hb)
     clear mt0 tup9 lst9 npv mtb yg tg B1 B2 hfl' hh hAa hnla
     have lv1:H1 la≠none∧H1 va≠none:=by
      obtain⟨kl,e1,_⟩:=hA.laid
      obtain⟨kv,e2,_⟩:=hA.vou
      exact⟨λz=>(by rw[e1] at z;cases z),λz=>(by rw[e2] at z;cases z)⟩
     have offr:∀ {H H':Hp}{k k':List (Key × V)},H la=some (.dK k)→H va=some (.dK k')→OffA [la,va] H H'→(RunX (C 6) (C 5) (C 7) H r1 ka1 ia1 sa1 ns1 (crBy ps) fas (goR (crBy ps) ns1 (fuels.take i).sum.toNat s0) kfp1→RunX (C 6) (C 5) (C 7) H' r1 ka1 ia1 sa1 ns1 (crBy ps) fas (goR (crBy ps) ns1 (fuels.take i).sum.toNat s0) kfp1)∧(RunX (C 6) (C 5) (C 7) H r2 ka2 ia2 sa2 ns2 (crBy ps) fas2 s0 kfp2→RunX (C 6) (C 5) (C 7) H' r2 ka2 ia2 sa2 ns2 (crBy ps) fas2 s0 kfp2):=λ{H H' k k'} e1 e2 o=>by
      have n1:∀ b∈[la,va],H1 b≠none∧∀ xs,H b≠some (.tup xs):=λb hb=>by
       simp only[List.mem_cons,List.not_mem_nil,or_false] at hb
       rcases hb with rfl | rfl
       ·exact⟨lv1.1,λxs z=>(by rw[e1] at z;cases z)⟩
       ·exact⟨lv1.2,λxs z=>(by rw[e2] at z;cases z)⟩
      exact⟨λA=>A.offS o λb hb=>⟨λz=>(n1 b hb).1 (old b (gg b z)).1,λz=>(n1 b hb).1 (k1 b (List.mem_cons_of_mem _ z)),λz=>(n1 b hb).1 (k1 b (by rw[z];exact List.mem_cons_self)),(n1 b hb).2⟩,
       λA=>A.offS o λb hb=>⟨λz=>(n1 b hb).1 (d2 b z),λz=>(n1 b hb).1 (k2 b (List.mem_cons_of_mem _ z)),λz=>(n1 b hb).1 (k2 b (by rw[z];exact List.mem_cons_self)),(n1 b hb).2⟩⟩
     have lvn:∀ b,b=nl∨b=fl→b∉[la,va]:=λb hb z=>by
      have e1:=hfr la (by simp)
      simp only[List.mem_cons,List.not_mem_nil,or_false] at z
      rcases hb with rfl | rfl <;> rcases z with rfl | rfl
      ·obtain⟨kl,e,_⟩:=hA.laid;rw[hnl] at e;cases e
      ·obtain⟨kl,e,_⟩:=hA.vou;rw[hnl] at e;cases e
      ·exact lv1.1 (s17.free fl0)
      ·exact lv1.2 (s17.free fl0)
     obtain⟨dxb,hhb⟩:=hAb.ins
     walk_at "gs"
     walk_at "q"
     walk_at "gs"
     refine⟨ha,dxb,_,rfl,hhb,zeJ (by decide +kernel) (by decide +kernel),?_⟩
     walk_at "gs"
     refine⟨(by walk_at "sm"),λz1 hz1=>?_⟩
     have t1:=zah hz1 (.lst [])
     have h1:(upd Hb z1 (.lst [])) z1=some (.lst []):=zaf
     generalize upd Hb z1 (.lst [])=Hc1 at *
     walk_at "gs"
     refine⟨(by walk_at "sm"),λz2 hz2=>?_⟩
     have t2:=zah hz2 (.lst [])
     have h2:(upd Hc1 z2 (.lst [])) z2=some (.lst []):=zaf
     generalize upd Hc1 z2 (.lst [])=Hc2 at *
     walk_at "gs"
     refine⟨(by walk_at "sm"),λz3 hz3=>?_⟩
     have t3:=zah hz3 (.lst [V.int 7])
     have h3:(upd Hc2 z3 (.lst [V.int 7])) z3=some (.lst [V.int 7]):=zaf
     generalize upd Hc2 z3 (.lst [V.int 7])=Hc3 at *
     walk_at "gs"
     refine⟨(by walk_at "sm"),λz4 hz4=>?_⟩
     have t4:=zah hz4 (.lst [V.int 0])
     walk_at "gs"
     refine .inr ⟨z4,8,[.int 0],rfl,rfl,zaf,by decide,by decide,by decide,λz5 hz5=>?_⟩
     have t5:=t4.trans (zah hz5 (.lst (List.replicate (8:Int).toNat [V.int 0]).flatten))
     walk_at "gs"
     refine zgH (t5 _ _ h3) zaf (zaz (by decide)) λz6 hz6=>?_
     rw[zoo]
     have t6:=t5.trans (zah hz6 (.lst (([7,0,0,0,0,0,0,0,0]:List Int).map V.int)))
     have h6:(upd (upd (upd Hc3 z4 (.lst [V.int 0])) z5 (.lst (List.replicate (8:Int).toNat [V.int 0]).flatten)) z6 (.lst (([7,0,0,0,0,0,0,0,0]:List Int).map V.int))) z6=some (.lst (([7,0,0,0,0,0,0,0,0]:List Int).map V.int)):=zaf
     generalize upd (upd (upd Hc3 z4 (.lst [V.int 0])) z5 (.lst (List.replicate (8:Int).toNat [V.int 0]).flatten)) z6 (.lst (([7,0,0,0,0,0,0,0,0]:List Int).map V.int))=Hc6 at *
     walk_at "gs"
     refine⟨(by walk_at "sm"),λz7 hz7=>?_⟩
     have t7:=zah hz7 (.tup [V.str "set",.int 0,.ref z6])
     have h7:(upd Hc6 z7 (.tup [V.str "set",.int 0,.ref z6])) z7=some (.tup [V.str "set",.int 0,.ref z6]):=zaf
     generalize upd Hc6 z7 (.tup [V.str "set",.int 0,.ref z6])=Hc7 at *
     walk_at "gs"
     refine⟨(by walk_at "sm"),λz8 hz8=>?_⟩
     have t8:=zah hz8 (.lst [V.ref z7])
     have h8:(upd Hc7 z8 (.lst [V.ref z7])) z8=some (.lst [V.ref z7]):=zaf
     generalize upd Hc7 z8 (.lst [V.ref z7])=Hc8 at *
     walk_at "gs"
     refine⟨(by walk_at "sm"),λz9 hz9=>?_⟩
     have t9:=zah hz9 (.lst [])
     have h9':(upd Hc8 z9 (.lst [])) z9=some (.lst []):=zaf
     generalize upd Hc8 z9 (.lst [])=Hc9 at *
     walk_at "gs"
     refine⟨(by walk_at "sm"),λz10 hz10=>?_⟩
     have t10:=zah hz10 (.lst [V.ref z9])
     have h10:(upd Hc9 z10 (.lst [V.ref z9])) z10=some (.lst [V.ref z9]):=zaf
     generalize upd Hc9 z10 (.lst [V.ref z9])=Hc at *
     have tc:=t1.trans (t2.trans (t3.trans (t6.trans (t7.trans (t8.trans (t9.trans t10))))))
     have u8:=t9.trans t10
     have u7:=t8.trans u8
     have u6:=t7.trans u7
     walk_at "gs"
     intro p dp p0 dp0 ndp
     have rL:∀ {z:Addr},Hc z=some (.lst [])→Rep K Hc (zaN []) (.ref z):=λ{z} e=>by
      unfold zaN Rep
      exact⟨z,[],rfl,SqL.of e,by unfold Reps;rfl⟩
     refine zfK (c:=ziO) p0 dp0 (rL ((t2.trans (t3.trans (t6.trans u6))) _ _ h1)) (rL ((t3.trans (t6.trans u6)) _ _ h2)) (SqL.of (u8 _ _ h8)) (SqL.of h10) ⟨rfl,λi d x e1 e2=>?_⟩ ⟨rfl,λi ls x e1 e2=>?_⟩ ze5.nine λHd f sd hC hf fn'=>⟨rfl,?_⟩
     ·cases i with
      | succ i=>simp[ziO] at e1
      | zero=>
       simp[ziO] at e1 e2
       subst e1;subst e2
       refine zn4 (u7 _ _ h7) (by simp) ⟨.inr (.inl ⟨_,rfl,rfl⟩),.inl ⟨_,rfl,rfl⟩,.inr (.inr (.inl ⟨z6,_,rfl,rfl,u6 _ _ h6⟩)),trivial⟩
     ·cases i with
      | succ i=>simp[ziO] at e1
      | zero=>
       simp[ziO] at e1 e2
       subst e1;subst e2
       exact rL (t10 _ _ h9')
     have sbd:=tc.trans sd
     have hAd:=hAb.same sbd
     walk_at "gs"
     refine⟨ha,la,va,p,n,numbers,crBy ps,[],fp,ziO,rfl,hAd,hC.t ze5.nine.d9,ze5.nine,by unfold zbN;omega,.inl nm,λz=>(by have:=ze5.r;rw[this] at z;cases z),λ_ He ks' ws' fp' oe hAe _ hks _ _ _=>?_⟩
     have hks:=hks nm
     subst hks
     obtain⟨kd1,ed1,_⟩:=hAd.laid
     obtain⟨kd2,ed2,_⟩:=hAd.vou
     obtain⟨ke1,ee1,_⟩:=hAe.laid
     obtain⟨ke2,ee2,_⟩:=hAe.vou
     have E1:=(offr ed1 ed2 oe).1 (D1.same sbd)
     have E2:=(offr ed1 ed2 oe).2 (D2.same sbd)
     have nle:=oe _ _ (lvn nl (.inl rfl)) (sbd _ _ nlb)
     have fle:=oe _ _ (lvn fl (.inr rfl)) (sbd _ _ flb)
     have fe:Free H8 He:=fb.trans (sbd.fr.trans (ze1 oe λb hb=>by
      simp only[List.mem_cons,List.not_mem_nil,or_false] at hb
      rcases hb with rfl | rfl
      ·exact⟨_,ee1⟩
      ·exact⟨_,ee2⟩))
     obtain⟨dxe,hhe⟩:=hAe.ins
     obtain⟨ml,mlm,mla⟩:=zmU ln1
     have mlb:=pk.nb ml mlm
     walk_at "gs"
     refine⟨ha,dxe,_,rfl,hhe,zeJ (by decide +kernel) (by decide +kernel),?_⟩
     walk_at "gs"
     refine zbc (SqL.of nle) (v:=.int ml) mla ?_
     walk_at "gs"
     refine⟨ha,la,va,ml,ks',_,ws',fp',rfl,hAe,by unfold zbN;omega,λz=>absurd mlm z,λ_ Hf wsf of' hAf _=>?_⟩
     obtain⟨kf1',ef1,_⟩:=hAf.laid
     obtain⟨kf2',ef2,_⟩:=hAf.vou
     walk_at "gs"
     refine tail _ _ ⟨_,_,_,_,rfl,(offr ee1 ee2 of').1 E1,(offr ee1 ee2 of').2 E2,fe.trans (ze1 of' λb hb=>by
      simp only[List.mem_cons,List.not_mem_nil,or_false] at hb
      rcases hb with rfl | rfl
      ·exact⟨_,ef1⟩
      ·exact⟨_,ef2⟩),of' _ _ (lvn fl (.inr rfl)) fle,λz=>by omega⟩
    ·walk_at "gs"
     have ei:¬ (i:Int)=(fuels.length:Int) / 2:=of_decide_eq_false e
     exact tail _ _ ⟨_,_,_,_,rfl,B1,B2,ff,hfl',λz=>hh (by omega)⟩
   rintro σ Hb ⟨y14,y15,y16,y17,rfl,D1,D2,fb,flb,hhb⟩
   clear B1 B2 ff hfl' hh tl hT2 st
   obtain⟨dr,ev,hr',_⟩:=D1.ins
   walk_at "gs"
   walk_at "q"
   walk_at "gs"
   refine⟨r1,dr,_,rfl,hr',zbn (by decide +kernel) (by decide +kernel) (by decide +kernel) (by decide +kernel) (by decide +kernel),?_⟩
   walk_at "gs"
   refine⟨r1,ka1,ia1,sa1,ns1,crBy ps,fas,_,kfp1,fuel,rfl,D1,zls rt1 _ w1,ziA _ l0,λtold2 Hc fas3 m3 E1 tl3 _ _=>?_⟩
   obtain⟨E2,g3,f3,p3,_⟩:=go1 _ _ _ _ _ D1 D2 gg fb m3
   have esum:(fuels.take i).sum.toNat+fuel.toNat=(fuels.take (i+1)).sum.toNat:=by rw[hsum];omega
   rw[←zlt,esum] at E1 tl3
   have flc:=p3 _ _ (.inr rfl) flb
   have hhc:i+1≤fuels.length / 2→Same H0 Hc∧Hc nl=some (.lst (numbers.map V.int))∧HallAt (C 8) (C 7) Hc ha la va numbers (crBy ps) [] fp:=λz=>by
    obtain⟨q1,q2,q3⟩:=hhb z
    exact⟨λb o e=>p3 b o (.inl λz=>by rw[s01 b o e] at z;cases z) (q1 b o e),p3 _ _ (.inl λz=>by rw[hnl] at z;cases z) q2,q3.frame (D1.ntup m3.1) λb hb o e=>p3 b o (.inl λz=>by
     obtain⟨u,hu⟩:=hA.dom b hb
     rw[hu] at z;cases z) e⟩
   walk_at "gs"
   walk_at "q"
   walk_at "gs"
   rw[←hsum]
   have hs1:0≤(fuels.take (i+1)).sum:=by rw[hsum];omega
   have sp:=stp (fuels.take (i+1)).sum.toNat
   have eok:=zfz (ks:=ns1) (cr:=crBy ps) (fuels.take (i+1)).sum.toNat e0
   obtain⟨Tt,rfl,hTt⟩:=tl3
   obtain⟨dr3,ev3,hr3,_⟩:=E1.ins
   walk_at "gs"
   refine⟨r1,dr3,_,rfl,hr3,zbn (by decide +kernel) (by decide +kernel) (by decide +kernel) (by decide +kernel) (by decide +kernel),?_⟩
   walk_at "gs"
   refine⟨r1,ka1,ia1,sa1,ns1,crBy ps,fas3,_,kfp1,rfl,E1,?_⟩
   walk_at "gs"
   rw[decide_eq_false (show ¬ (fuels.take (i+1)).sum<(goR (crBy ps) ns1 (fuels.take (i+1)).sum.toNat s0).k by omega)]
   walk_at "gs"
   refine⟨(by walk_at "sm"),λTc hTc=>?_⟩
   have t5:=zah hTc (.tup [V.str "cut"])
   refine zk3 (zbY.rep ⟨Tt,rfl,t5 _ _ hTt⟩ eok) (e:=.tup [.str "cut"]) (zlB zaf) (zdz eok) ?_
   rw[zjn eok]
   have fin:E8 λtold x12 x13 x14 x15 x16 x17 fas=>A8 ([some (.ref a),some (.ref ha),some (.ref nl),some (.ref pl),some (.int n),some (.ref gt),some (.ref rl),some (.ref r1),some (.ref r2),some (.ref fl),some (.int (fuels.take (i+1)).sum),some (.ref Tt),some (.int (i:Int)),some (.int fuel),y14,y15,y16,y17,none,none]=[some (.ref a),some (.ref ha),some (.ref nl),some (.ref pl),some (.int n),some (.ref gt),some (.ref rl),some (.ref r1),some (.ref r2),some (.ref fl),some (.int (fuels.take (i+1)).sum),some told,x12,x13,x14,x15,x16,x17,none,none]) (zbY (upd Hc Tc (.tup [V.str "cut"])) (goR (crBy ps) ns1 (fuels.take (i+1)).sum.toNat s0).en told) (RunX (C 6) (C 5) (C 7) (upd Hc Tc (.tup [V.str "cut"])) r1 ka1 ia1 sa1 ns1 (crBy ps) fas (goR (crBy ps) ns1 (fuels.take (i+1)).sum.toNat s0) kfp1) (RunX (C 6) (C 5) (C 7) (upd Hc Tc (.tup [V.str "cut"])) r2 ka2 ia2 sa2 ns2 (crBy ps) fas2 s0 kfp2) ((∀ b∈zap r1 ia1 sa1 fas,b∈zap r1 ia1 sa1 fas1∨H8 b=none)) (Free H8 (upd Hc Tc (.tup [V.str "cut"]))) ((upd Hc Tc (.tup [V.str "cut"])) fl=some (.lst (fuels.map V.int))) ((i+1≤fuels.length / 2→Same H0 (upd Hc Tc (.tup [V.str "cut"]))∧(upd Hc Tc (.tup [V.str "cut"])) nl=some (.lst (numbers.map V.int))∧HallAt (C 8) (C 7) (upd Hc Tc (.tup [V.str "cut"])) ha la va numbers (crBy ps) [] fp)):=
    ⟨_,_,_,_,_,_,_,fas3,rfl,⟨Tt,rfl,t5 _ _ hTt⟩,E1.same t5,E2.same t5,g3,f3.trans t5.fr,t5 _ _ flc,λz=>⟨(hhc z).1.trans t5,t5 _ _ (hhc z).2.1,(hhc z).2.2.same t5⟩⟩
   cases hen:(goR (crBy ps) ns1 (fuels.take (i+1)).sum.toNat s0).en with
   | some x=>
    dsimp only[Option.isNone]
    walk_at "gs"
    exact fin
   | none=>
    dsimp only[Option.isNone]
    walk_at "gs"
    refine⟨r1,dr3,_,rfl,t5 _ _ hr3,zbn (by decide +kernel) (by decide +kernel) (by decide +kernel) (by decide +kernel) (by decide +kernel),?_⟩
    walk_at "gs"
    refine⟨r1,ka1,ia1,sa1,ns1,crBy ps,fas3,_,kfp1,rfl,E1.same t5,?_⟩
    walk_at "gs"
    have ek:=sp.2 hen
    rw[decide_eq_true (show (goR (crBy ps) ns1 (fuels.take (i+1)).sum.toNat s0).k=(fuels.take (i+1)).sum by omega)]
    walk_at "gs"
    exact fin
  ·rintro σ H ⟨told,x12,x13,x14,x15,x16,x17,fas,rfl,tl,B1,B2,gg,ff,_,_⟩
   rw[zlm,List.take_of_length_le (Nat.le_refl _)] at *
   exact tail _ _ ⟨told,x12,x13,x14,x15,x16,x17,fas,rfl,tl,B1,B2,gg,ff⟩
 rintro σ Ha ⟨told,x12,x13,x14,x15,x16,x17,fas,rfl,tl,B1,B2,gg,ff⟩
 have eg:goR (crBy ps) ns1 fuels.sum.toNat s0=goR (crBy ps) ns2 fuels.sum.toNat s0:=(znl ksn _ _).symm
 have eok:=zfz (ks:=ns1) (cr:=crBy ps) fuels.sum.toNat e0
 have lE:=ziA (ks:=ns1) (cr:=crBy ps) fuels.sum.toNat l0
 have wE1:=zls rt1 fuels.sum.toNat w1
 obtain⟨T1,rfl,hT1⟩:=tl
 -- the other at once
 obtain⟨dr2,ev2,hr2,_⟩:=B2.ins
 walk_at "gs"
 walk_at "q"
 walk_at "gs"
 refine⟨r2,dr2,_,rfl,hr2,zbn (by decide +kernel) (by decide +kernel) (by decide +kernel) (by decide +kernel) (by decide +kernel),?_⟩
 walk_at "gs"
 refine⟨r2,ka2,ia2,sa2,ns2,crBy ps,fas2,s0,kfp2,fuels.sum,rfl,B2,w2,l0,λdue Hb fas3 m3 E2 tl2 wE2 _=>?_⟩
 rw[←eg] at E2 tl2 wE2
 have E1:=B1.beside B2 m3.1 λb hb=>⟨λz=>(ap b (gg b z)).1 hb,ap1 b hb⟩
 have hT1:=B2.ntup m3.1 _ _ hT1
 have sep:∀ b∈zap r2 ia2 sa2 fas3,b∉zap r1 ia1 sa1 fas∧b∉kfp1:=λb hb=>by
  rcases m3.2.1 b hb with z | z
  ·exact⟨λw=>(ap b (gg b w)).1 z,ap1 b z⟩
  ·refine⟨λw=>?_,λw=>?_⟩
   ·obtain⟨o,e,_⟩:=B1.has b w
    rw[z] at e;cases e
   ·obtain⟨o,e⟩:=B1.kn.has b w
    rw[z] at e;cases e
 have sep2:∀ b∈zap r1 ia1 sa1 fas,b∉zap r2 ia2 sa2 fas3∧b∉kfp2:=λb hb=>⟨λz=>(sep b z).1 hb,(ap b (gg b hb)).2⟩
 generalize goR (crBy ps) ns1 fuels.sum.toNat s0=s at *
 obtain⟨T2,rfl,hT2⟩:=tl2
 obtain⟨dr1,ev1,hr1,_⟩:=E1.ins
 obtain⟨dr2,ev2,hr2,_⟩:=E2.ins
 walk_at "gs"
 with_reducible refine zn6 (λQ2 q2=>?_) (λHc sc=>?_)
 ·walk_at "gs"
  refine zk6 (d:=zgT s.en) (zbY.rep ⟨T1,rfl,hT1⟩ eok) (zbY.rep ⟨T2,rfl,hT2⟩ eok) (zdz eok) ?_
  walk_at "gs"
  refine⟨r1,dr1,_,rfl,hr1,zbn (by decide +kernel) (by decide +kernel) (by decide +kernel) (by decide +kernel) (by decide +kernel),?_⟩
  walk_at "gs"
  refine⟨r1,ka1,ia1,sa1,ns1,crBy ps,fas,_,kfp1,rfl,E1,?_⟩
  walk_at "gs"
  refine⟨r2,dr2,_,rfl,hr2,zbn (by decide +kernel) (by decide +kernel) (by decide +kernel) (by decide +kernel) (by decide +kernel),?_⟩
  walk_at "gs"
  refine⟨r2,ka2,ia2,sa2,ns2,crBy ps,fas3,_,kfp2,rfl,E2,?_⟩
  walk_at "gs"
  rw[decide_eq_true rfl]
  walk_at "gs"
  refine⟨r1,dr1,_,rfl,hr1,zbn (by decide +kernel) (by decide +kernel) (by decide +kernel) (by decide +kernel) (by decide +kernel),?_⟩
  walk_at "gs"
  refine⟨r1,ka1,ia1,sa1,ns1,crBy ps,fas,_,kfp1,rfl,E1,lE,λv1 Hd sd nd=>?_⟩
  walk_at "gs"
  refine⟨r2,dr2,_,rfl,sd _ _ hr2,zbn (by decide +kernel) (by decide +kernel) (by decide +kernel) (by decide +kernel) (by decide +kernel),?_⟩
  walk_at "gs"
  refine⟨r2,ka2,ia2,sa2,ns2,crBy ps,fas3,_,kfp2,rfl,E2.same sd,lE,λv2 He se ne=>?_⟩
  obtain⟨va1,_,_,rfl,_⟩:=New.lst_out nd
  obtain⟨va2,_,_,rfl,_⟩:=New.lst_out ne
  refine zk6 (d:=.lst (s.st.reverse.map fmD)) (nd.same se).rep ne.rep (zop _) ?_
  walk_at "gs"
  exact q2 _ (sd.trans se)
 have E1:=E1.same sc
 have E2:=E2.same sc
 have hT1:=sc _ _ hT1
 have hT2:=sc _ _ hT2
 walk_at "gs"
 walk_at "q"
 walk_at "gs"
 refine⟨(by walk_at "sm"),λTc hTc=>?_⟩
 have t5:=zah hTc (.tup [V.str "cut"])
 refine zk3 (zbY.rep ⟨T1,rfl,t5 _ _ hT1⟩ eok) (e:=.tup [.str "cut"]) (zlB zaf) (zdz eok) ?_
 rw[zjn eok]
 generalize upd Hc Tc (.tup [V.str "cut"])=Hd at *
 cases hen:s.en with
 | none=>
  dsimp only[Option.isNone]
  walk_at "gs"
  exact q _
 | some x=>
 have ne:s.en≠none:=by rw[hen];intro z;cases z
 have E1:=E1.same t5
 have E2:=E2.same t5
 have hT1:=t5 _ _ hT1
 have hT2:=t5 _ _ hT2
 obtain⟨dr1,ev1,hr1,_⟩:=E1.ins
 dsimp only[Option.isNone]
 walk_at "gs"
 walk_at "q"
 walk_at "gs"
 refine⟨r1,dr1,_,rfl,hr1,zbn (by decide +kernel) (by decide +kernel) (by decide +kernel) (by decide +kernel) (by decide +kernel),?_⟩
 walk_at "gs"
 refine⟨r1,ka1,ia1,sa1,ns1,crBy ps,fas,_,kfp1,rfl,E1,?_⟩
 walk_at "gs"
 refine⟨r1,dr1,_,rfl,hr1,zbn (by decide +kernel) (by decide +kernel) (by decide +kernel) (by decide +kernel) (by decide +kernel),?_⟩
 walk_at "gs"
 refine⟨r1,ka1,ia1,sa1,ns1,crBy ps,fas,_,kfp1,5,rfl,E1,wE1,lE,λv5 H5' fas5 m5 F1 t5' _ _=>?_⟩
 rw[zfv ne] at F1 t5'
 have F2:=E2.beside E1 m5.1 sep2
 have k5:=E1.ntup m5.1
 have sep5:∀ b∈zap r1 ia1 sa1 fas5,b∉zap r2 ia2 sa2 fas3∧b∉kfp2:=λb hb=>by
  rcases m5.2.1 b hb with z | z
  ·exact sep2 b z
  ·refine⟨λw=>?_,λw=>?_⟩
   ·obtain⟨o,e,_⟩:=E2.has b w
    rw[z] at e;cases e
   ·obtain⟨o,e⟩:=E2.kn.has b w
    rw[z] at e;cases e
 obtain⟨T5,rfl,hT5⟩:=t5'
 walk_at "gs"
 refine zie (d:=zgT s.en) (zbY.rep ⟨T5,rfl,hT5⟩ eok) (zbY.rep ⟨T1,rfl,k5 _ _ hT1⟩ eok) (zdz eok) ?_
 obtain⟨dr5,ev5,hr5,_⟩:=F1.ins
 walk_at "gs"
 refine⟨r1,dr5,_,rfl,hr5,zbn (by decide +kernel) (by decide +kernel) (by decide +kernel) (by decide +kernel) (by decide +kernel),?_⟩
 walk_at "gs"
 refine⟨r1,ka1,ia1,sa1,ns1,crBy ps,fas5,_,kfp1,0,rfl,F1,wE1,lE,λv6 H6' fas6 m6 G1 t6' _ _=>?_⟩
 rw[zfv ne] at G1 t6'
 have G2:=F2.beside F1 m6.1 sep5
 have k6:=k5.trans (F1.ntup m6.1)
 obtain⟨T6,rfl,hT6⟩:=t6'
 walk_at "gs"
 refine zie (d:=zgT s.en) (zbY.rep ⟨T6,rfl,hT6⟩ eok) (zbY.rep ⟨T1,rfl,k6 _ _ hT1⟩ eok) (zdz eok) ?_
 obtain⟨dr6,ev6,hr6,_⟩:=G1.ins
 walk_at "gs"
 refine⟨r1,dr6,_,rfl,hr6,zbn (by decide +kernel) (by decide +kernel) (by decide +kernel) (by decide +kernel) (by decide +kernel),?_⟩
 walk_at "gs"
 refine⟨r1,ka1,ia1,sa1,ns1,crBy ps,fas6,_,kfp1,rfl,G1,?_⟩
 walk_at "gs"
 rw[decide_eq_true rfl]
 obtain⟨dr7,ev7,hr7,_⟩:=G2.ins
 walk_at "gs"
 refine⟨r2,dr7,_,rfl,hr7,zbn (by decide +kernel) (by decide +kernel) (by decide +kernel) (by decide +kernel) (by decide +kernel),?_⟩
 walk_at "gs"
 refine⟨r2,ka2,ia2,sa2,ns2,crBy ps,fas3,_,kfp2,1,rfl,G2,wE2,lE,λv7 H7' fas7 m7 L2 t7' _ _=>?_⟩
 rw[zfv ne] at L2 t7'
 obtain⟨T7,rfl,hT7⟩:=t7'
 walk_at "gs"
 refine zie (d:=zgT s.en) (zbY.rep ⟨T7,rfl,hT7⟩ eok) (zbY.rep ⟨T2,rfl,(k6.trans (G2.ntup m7.1)) _ _ hT2⟩ eok) (zdz eok) ?_
 exact q _
end
end My
namespace My
open PySem L2 PyProof.Rows
theorem all_mk {l:PySem.W.OpenLaw}{w:World}{K:Fg}{h:Heap}{mg:Str→Option Value}{fa:Addr}(X:K.In h) (G:h.Ns mainGlobals mg) (hfa:mg "law"=some (.ref fa))
  {C0 C1 C2 C3 C4 C5 C6 C7 C8 f1 f2 f3 f4 f5 f6 f7 f8 f9 f10 f11 f12 f13 f14 f15 f16 f17 f18 f19 f20 f21 f22 f23 f24 f25 f26 f27 f28 f29 f30 f31 f32 f33 f34 f35 f36 f37 f38 f39 f40 f41 f42 f43 f44 f45 f46 f47 f48 f49 f50 f51 f52 f53 f54 f55 f56 f57 f58 f59 f60 f61 f62 f63 f64 f65 a_HAND_SPOTS a_LEFT_SPOTS a_LEFT_AS_HANDS a_WHOLES xN0 xN1 xN2 xN3 xN4:Addr}
  {od1 an1 od2 an2 od3 an3 od4 an4 od5 an5 od6 an6 od7 an7 od8 an8 od9 an9 od10 an10 od11 an11 od12 an12 od13 an13 od14 an14 od15 an15 od16 an16 od17 an17 od18 an18 od19 an19 od20 an20 od21 an21 od22 an22 od23 an23 od24 an24 od25 an25 od26 an26 od27 an27 od28 an28 od29 an29 od30 an30 od31 an31 od32 an32 od33 an33 od34 an34 od35 an35 od36 an36 od37 an37 od38 an38 od39 an39 od40 an40 od41 an41 od42 an42 od43 an43 od44 an44 od45 an45 od46 an46 od47 an47 od48 an48 od49 an49 od50 an50 od51 an51 od52 an52 od53 an53 od54 an54 od55 an55 od56 an56 od57 an57 od58 an58 od59 an59 od60 an60 od61 an61 od62 an62 od63 an63 od64 an64 od65 an65 dd_HAND_SPOTS dd_LEFT_SPOTS dd_LEFT_AS_HANDS dd_WHOLES xd0 xd1 xd2 xd3 xd4:Option Addr}
  {sl1 sl2 sl3 sl4 sl5 sl6 sl7 sl8 sl9 sl10 sl11 sl12 sl13 sl14 sl15 sl16 sl17 sl18 sl19 sl20 sl21 sl22 sl23 sl24 sl25 sl26 sl27 sl28 sl29 sl30 sl31 sl32 sl33 sl34 sl35 sl36 sl37 sl38 sl39 sl40 sl41 sl42 sl43 sl44 sl45 sl46 sl47 sl48 sl49 sl50 sl51 sl52 sl53 sl54 sl55 sl56 sl57 sl58 sl59 sl60 sl61 sl62 sl63 sl64 sl65 ss_HAND_SPOTS ss_LEFT_SPOTS ss_LEFT_AS_HANDS ss_WHOLES:Array (Option Value)}
  {oc1 kV1 dc1 pm1 cd1 ct1 oc2 kV2 dc2 pm2 cd2 ct2 oc3 kV3 dc3 pm3 cd3 ct3 oc4 kV4 dc4 pm4 cd4 ct4 oc5 kV5 dc5 pm5 cd5 ct5 oc6 kV6 dc6 pm6 cd6 ct6 oc7 kV7 dc7 pm7 cd7 ct7 oc8 kV8 dc8 pm8 cd8 ct8 oc9 kV9 dc9 pm9 cd9 ct9 oc10 kV10 dc10 pm10 cd10 ct10 oc11 kV11 dc11 pm11 cd11 ct11 oc12 kV12 dc12 pm12 cd12 ct12 oc13 kV13 dc13 pm13 cd13 ct13 oc14 kV14 dc14 pm14 cd14 ct14 oc15 kV15 dc15 pm15 cd15 ct15 oc16 kV16 dc16 pm16 cd16 ct16 oc17 kV17 dc17 pm17 cd17 ct17 oc18 kV18 dc18 pm18 cd18 ct18 oc19 kV19 dc19 pm19 cd19 ct19 oc20 kV20 dc20 pm20 cd20 ct20 oc21 kV21 dc21 pm21 cd21 ct21 oc22 kV22 dc22 pm22 cd22 ct22 oc23 kV23 dc23 pm23 cd23 ct23 oc24 kV24 dc24 pm24 cd24 ct24 oc25 kV25 dc25 pm25 cd25 ct25 oc26 kV26 dc26 pm26 cd26 ct26 oc27 kV27 dc27 pm27 cd27 ct27 oc28 kV28 dc28 pm28 cd28 ct28 oc29 kV29 dc29 pm29 cd29 ct29 oc30 kV30 dc30 pm30 cd30 ct30 oc31 kV31 dc31 pm31 cd31 ct31 oc32 kV32 dc32 pm32 cd32 ct32 oc33 kV33 dc33 pm33 cd33 ct33 oc34 kV34 dc34 pm34 cd34 ct34 oc35 kV35 dc35 pm35 cd35 ct35 oc36 kV36 dc36 pm36 cd36 ct36 oc37 kV37 dc37 pm37 cd37 ct37 oc38 kV38 dc38 pm38 cd38 ct38 oc39 kV39 dc39 pm39 cd39 ct39 oc40 kV40 dc40 pm40 cd40 ct40 oc41 kV41 dc41 pm41 cd41 ct41 oc42 kV42 dc42 pm42 cd42 ct42 oc43 kV43 dc43 pm43 cd43 ct43 oc44 kV44 dc44 pm44 cd44 ct44 oc45 kV45 dc45 pm45 cd45 ct45 oc46 kV46 dc46 pm46 cd46 ct46 oc47 kV47 dc47 pm47 cd47 ct47 oc48 kV48 dc48 pm48 cd48 ct48 oc49 kV49 dc49 pm49 cd49 ct49 oc50 kV50 dc50 pm50 cd50 ct50 oc51 kV51 dc51 pm51 cd51 ct51 oc52 kV52 dc52 pm52 cd52 ct52 oc53 kV53 dc53 pm53 cd53 ct53 oc54 kV54 dc54 pm54 cd54 ct54 oc55 kV55 dc55 pm55 cd55 ct55 oc56 kV56 dc56 pm56 cd56 ct56 oc57 kV57 dc57 pm57 cd57 ct57 oc58 kV58 dc58 pm58 cd58 ct58 oc59 kV59 dc59 pm59 cd59 ct59 oc60 kV60 dc60 pm60 cd60 ct60 oc61 kV61 dc61 pm61 cd61 ct61 oc62 kV62 dc62 pm62 cd62 ct62 oc63 kV63 dc63 pm63 cd63 ct63 oc64 kV64 dc64 pm64 cd64 ct64 oc65 kV65 dc65 pm65 cd65 ct65:Value}
  {t_NUMBERS t_FACTORS t_MOST_FRAMES t_HAND_SPOTS_0 t_HAND_SPOTS_1 t_HAND_SPOTS_2 t_HAND_SPOTS_3 t_LEFT_SPOTS_0 t_LEFT_SPOTS_1 t_LEFT_AS_HANDS_0 t_LEFT_AS_HANDS_1 t_LEFT_AS_HANDS_2 t_LEFT_AS_HANDS_3 t_LEFT_AS_HANDS_4 t_LEFT_AS_HANDS_5 t_LEFT_AS_HANDS_6 t_LEFT_AS_HANDS_7 t_MOST_LINES t_MOST_DEEDS t_LAST_HAND t_LAST_NUMBER t_GREATEST_BY t_GREATEST t_ASKED_0 t_ASKED_1 t_NEW_0 t_NEW_1 t_WHOLES_0 t_WHOLES_1 t_WHOLES_2 t_WHOLES_3:Tok}
  {n_HAND_SPOTS n_LEFT_SPOTS n_LEFT_AS_HANDS n_WHOLES:Nat}
  {xn0 xq0 xn1 xq1 xn2 xq2 xn3 xq3 xn4 xq4:Str}
  {xb0 xs0 xb1 xs1 xb2 xs2 xb3 xs3 xb4 xs4:List Value}
  {xh0 xa0 xh1 xa1 xh2 xa2 xh3 xa3 xh4 xa4:Bool}
  {xl0 xl1 xl2 xl3 xl4:List Str}
  {xc0 xc1 xc2 xc3 xc4:Option Bool}
  {x0_0 x1_0 x2_0 x3_0 x5_0 x0_1 x1_1 x2_1 x3_1 x5_1 x0_2 x1_2 x2_2 x3_2 x5_2 x0_3 x1_3 x2_3 x3_3 x5_3 x0_4 x1_4 x2_4 x3_4 x5_4:Option Value}
  (aC0:PySem.W.nsIn K mainGlobals "HallError"=some (some (.ref C0)))
  (aC1:PySem.W.nsIn K mainGlobals "BadSheet"=some (some (.ref C1)))
  (aC2:PySem.W.nsIn K mainGlobals "NoCraft"=some (some (.ref C2)))
  (aC3:PySem.W.nsIn K mainGlobals "Unmet"=some (some (.ref C3)))
  (aC4:PySem.W.nsIn K mainGlobals "Unfit"=some (some (.ref C4)))
  (aC5:PySem.W.nsIn K mainGlobals "Frame"=some (some (.ref C5)))
  (aC6:PySem.W.nsIn K mainGlobals "Run"=some (some (.ref C6)))
  (aC7:PySem.W.nsIn K mainGlobals "Craft"=some (some (.ref C7)))
  (aC8:PySem.W.nsIn K mainGlobals "Hall"=some (some (.ref C8)))
  (a1:PySem.W.nsIn K mainGlobals "copied_lines"=some (some (.ref f1))) (l1:K.lookup f1=some ⟨oc1,od1,.func (PySem.W.fnOf "copied_lines" "copied_lines" (zan s_copied_lines) (zal s_copied_lines) (zac s_copied_lines) .none kV1 dc1 pm1 an1 cd1 ct1),sl1⟩) (c1:PySem.W.codeIn K cd1 "copied_lines"=true) (k1:PySem.W.keepIn K (.ref f1)=true)
  (a2:PySem.W.nsIn K mainGlobals "copied_deed"=some (some (.ref f2))) (l2:K.lookup f2=some ⟨oc2,od2,.func (PySem.W.fnOf "copied_deed" "copied_deed" (zan s_copied_deed) (zal s_copied_deed) (zac s_copied_deed) .none kV2 dc2 pm2 an2 cd2 ct2),sl2⟩) (c2:PySem.W.codeIn K cd2 "copied_deed"=true) (k2:PySem.W.keepIn K (.ref f2)=true)
  (a3:PySem.W.findIn K (.ref C7) "__init__"=some (some (.ref f3))) (i3:PySem.W.isFn K (.ref f3)=true) (l3:K.lookup f3=some ⟨oc3,od3,.func (PySem.W.fnOf "__init__" "Craft.__init__" (zan s_Craft___init__) (zal s_Craft___init__) (zac s_Craft___init__) .none kV3 dc3 pm3 an3 cd3 ct3),sl3⟩) (c3:PySem.W.codeIn K cd3 "Craft.__init__"=true) (k3:PySem.W.keepIn K (.ref f3)=true)
  (a4:PySem.W.nsIn K mainGlobals "worth"=some (some (.ref f4))) (l4:K.lookup f4=some ⟨oc4,od4,.func (PySem.W.fnOf "worth" "worth" (zan s_worth) (zal s_worth) (zac s_worth) .none kV4 dc4 pm4 an4 cd4 ct4),sl4⟩) (c4:PySem.W.codeIn K cd4 "worth"=true) (k4:PySem.W.keepIn K (.ref f4)=true)
  (a5:PySem.W.nsIn K mainGlobals "holds"=some (some (.ref f5))) (l5:K.lookup f5=some ⟨oc5,od5,.func (PySem.W.fnOf "holds" "holds" (zan s_holds) (zal s_holds) (zac s_holds) .none kV5 dc5 pm5 an5 cd5 ct5),sl5⟩) (c5:PySem.W.codeIn K cd5 "holds"=true) (k5:PySem.W.keepIn K (.ref f5)=true)
  (a6:PySem.W.findIn K (.ref C5) "__init__"=some (some (.ref f6))) (i6:PySem.W.isFn K (.ref f6)=true) (l6:K.lookup f6=some ⟨oc6,od6,.func (PySem.W.fnOf "__init__" "Frame.__init__" (zan s_Frame___init__) (zal s_Frame___init__) (zac s_Frame___init__) .none kV6 dc6 pm6 an6 cd6 ct6),sl6⟩) (c6:PySem.W.codeIn K cd6 "Frame.__init__"=true) (k6:PySem.W.keepIn K (.ref f6)=true)
  (a7:PySem.W.findIn K (.ref C5) "numbers"=some (some (.ref f7))) (i7:PySem.W.isFn K (.ref f7)=true) (l7:K.lookup f7=some ⟨oc7,od7,.func (PySem.W.fnOf "numbers" "Frame.numbers" (zan s_Frame_numbers) (zal s_Frame_numbers) (zac s_Frame_numbers) .none kV7 dc7 pm7 an7 cd7 ct7),sl7⟩) (c7:PySem.W.codeIn K cd7 "Frame.numbers"=true) (k7:PySem.W.keepIn K (.ref f7)=true)
  (a8:PySem.W.findIn K (.ref C8) "standing"=some (some (.ref f8))) (i8:PySem.W.isFn K (.ref f8)=true) (l8:K.lookup f8=some ⟨oc8,od8,.func (PySem.W.fnOf "standing" "Hall.standing" (zan s_Hall_standing) (zal s_Hall_standing) (zac s_Hall_standing) .none kV8 dc8 pm8 an8 cd8 ct8),sl8⟩) (c8:PySem.W.codeIn K cd8 "Hall.standing"=true) (k8:PySem.W.keepIn K (.ref f8)=true)
  (a9:PySem.W.nsIn K mainGlobals "copied_craft"=some (some (.ref f9))) (l9:K.lookup f9=some ⟨oc9,od9,.func (PySem.W.fnOf "copied_craft" "copied_craft" (zan s_copied_craft) (zal s_copied_craft) (zac s_copied_craft) .none kV9 dc9 pm9 an9 cd9 ct9),sl9⟩) (c9:PySem.W.codeIn K cd9 "copied_craft"=true) (k9:PySem.W.keepIn K (.ref f9)=true)
  (a10:PySem.W.findIn K (.ref C8) "crafts"=some (some (.ref f10))) (i10:PySem.W.isFn K (.ref f10)=true) (l10:K.lookup f10=some ⟨oc10,od10,.func (PySem.W.fnOf "crafts" "Hall.crafts" (zan s_Hall_crafts) (zal s_Hall_crafts) (zac s_Hall_crafts) .none kV10 dc10 pm10 an10 cd10 ct10),sl10⟩) (c10:PySem.W.codeIn K cd10 "Hall.crafts"=true) (k10:PySem.W.keepIn K (.ref f10)=true)
  (a11:PySem.W.findIn K (.ref C6) "craft_of"=some (some (.ref f11))) (i11:PySem.W.isFn K (.ref f11)=true) (l11:K.lookup f11=some ⟨oc11,od11,.func (PySem.W.fnOf "craft_of" "Run.craft_of" (zan s_Run_craft_of) (zal s_Run_craft_of) (zac s_Run_craft_of) .none kV11 dc11 pm11 an11 cd11 ct11),sl11⟩) (c11:PySem.W.codeIn K cd11 "Run.craft_of"=true) (k11:PySem.W.keepIn K (.ref f11)=true)
  (a12:PySem.W.findIn K (.ref C6) "is_behind_last_deed"=some (some (.ref f12))) (i12:PySem.W.isFn K (.ref f12)=true) (l12:K.lookup f12=some ⟨oc12,od12,.func (PySem.W.fnOf "is_behind_last_deed" "Run.is_behind_last_deed" (zan s_Run_is_behind_last_deed) (zal s_Run_is_behind_last_deed) (zac s_Run_is_behind_last_deed) .none kV12 dc12 pm12 an12 cd12 ct12),sl12⟩) (c12:PySem.W.codeIn K cd12 "Run.is_behind_last_deed"=true) (k12:PySem.W.keepIn K (.ref f12)=true)
  (a13:PySem.W.nsIn K mainGlobals "first_unmet"=some (some (.ref f13))) (l13:K.lookup f13=some ⟨oc13,od13,.func (PySem.W.fnOf "first_unmet" "first_unmet" (zan s_first_unmet) (zal s_first_unmet) (zac s_first_unmet) .none kV13 dc13 pm13 an13 cd13 ct13),sl13⟩) (c13:PySem.W.codeIn K cd13 "first_unmet"=true) (k13:PySem.W.keepIn K (.ref f13)=true)
  (a14:PySem.W.findIn K (.ref C6) "meets"=some (some (.ref f14))) (i14:PySem.W.isFn K (.ref f14)=true) (l14:K.lookup f14=some ⟨oc14,od14,.func (PySem.W.fnOf "meets" "Run.meets" (zan s_Run_meets) (zal s_Run_meets) (zac s_Run_meets) .none kV14 dc14 pm14 an14 cd14 ct14),sl14⟩) (c14:PySem.W.codeIn K cd14 "Run.meets"=true) (k14:PySem.W.keepIn K (.ref f14)=true)
  (a15:PySem.W.findIn K (.ref C6) "take"=some (some (.ref f15))) (i15:PySem.W.isFn K (.ref f15)=true) (l15:K.lookup f15=some ⟨oc15,od15,.func (PySem.W.fnOf "take" "Run.take" (zan s_Run_take) (zal s_Run_take) (zac s_Run_take) .none kV15 dc15 pm15 an15 cd15 ct15),sl15⟩) (c15:PySem.W.codeIn K cd15 "Run.take"=true) (k15:PySem.W.keepIn K (.ref f15)=true)
  (a16:PySem.W.findIn K (.ref C6) "leave"=some (some (.ref f16))) (i16:PySem.W.isFn K (.ref f16)=true) (l16:K.lookup f16=some ⟨oc16,od16,.func (PySem.W.fnOf "leave" "Run.leave" (zan s_Run_leave) (zal s_Run_leave) (zac s_Run_leave) .none kV16 dc16 pm16 an16 cd16 ct16),sl16⟩) (c16:PySem.W.codeIn K cd16 "Run.leave"=true) (k16:PySem.W.keepIn K (.ref f16)=true)
  (a17:PySem.W.findIn K (.ref C6) "meet_notes"=some (some (.ref f17))) (i17:PySem.W.isFn K (.ref f17)=true) (l17:K.lookup f17=some ⟨oc17,od17,.func (PySem.W.fnOf "meet_notes" "Run.meet_notes" (zan s_Run_meet_notes) (zal s_Run_meet_notes) (zac s_Run_meet_notes) .none kV17 dc17 pm17 an17 cd17 ct17),sl17⟩) (c17:PySem.W.codeIn K cd17 "Run.meet_notes"=true) (k17:PySem.W.keepIn K (.ref f17)=true)
  (a18:PySem.W.findIn K (.ref C6) "come_to"=some (some (.ref f18))) (i18:PySem.W.isFn K (.ref f18)=true) (l18:K.lookup f18=some ⟨oc18,od18,.func (PySem.W.fnOf "come_to" "Run.come_to" (zan s_Run_come_to) (zal s_Run_come_to) (zac s_Run_come_to) .none kV18 dc18 pm18 an18 cd18 ct18),sl18⟩) (c18:PySem.W.codeIn K cd18 "Run.come_to"=true) (k18:PySem.W.keepIn K (.ref f18)=true)
  (a19:PySem.W.findIn K (.ref C6) "begin"=some (some (.ref f19))) (i19:PySem.W.isFn K (.ref f19)=true) (l19:K.lookup f19=some ⟨oc19,od19,.func (PySem.W.fnOf "begin" "Run.begin" (zan s_Run_begin) (zal s_Run_begin) (zac s_Run_begin) .none kV19 dc19 pm19 an19 cd19 ct19),sl19⟩) (c19:PySem.W.codeIn K cd19 "Run.begin"=true) (k19:PySem.W.keepIn K (.ref f19)=true)
  (a20:PySem.W.nsIn K mainGlobals "asked_numbers"=some (some (.ref f20))) (l20:K.lookup f20=some ⟨oc20,od20,.func (PySem.W.fnOf "asked_numbers" "asked_numbers" (zan s_asked_numbers) (zal s_asked_numbers) (zac s_asked_numbers) .none kV20 dc20 pm20 an20 cd20 ct20),sl20⟩) (c20:PySem.W.codeIn K cd20 "asked_numbers"=true) (k20:PySem.W.keepIn K (.ref f20)=true)
  (a21:PySem.W.findIn K (.ref C6) "__init__"=some (some (.ref f21))) (i21:PySem.W.isFn K (.ref f21)=true) (l21:K.lookup f21=some ⟨oc21,od21,.func (PySem.W.fnOf "__init__" "Run.__init__" (zan s_Run___init__) (zal s_Run___init__) (zac s_Run___init__) .none kV21 dc21 pm21 an21 cd21 ct21),sl21⟩) (c21:PySem.W.codeIn K cd21 "Run.__init__"=true) (k21:PySem.W.keepIn K (.ref f21)=true)
  (a22:PySem.W.findIn K (.ref C6) "put"=some (some (.ref f22))) (i22:PySem.W.isFn K (.ref f22)=true) (l22:K.lookup f22=some ⟨oc22,od22,.func (PySem.W.fnOf "put" "Run.put" (zan s_Run_put) (zal s_Run_put) (zac s_Run_put) .none kV22 dc22 pm22 an22 cd22 ct22),sl22⟩) (c22:PySem.W.codeIn K cd22 "Run.put"=true) (k22:PySem.W.keepIn K (.ref f22)=true)
  (a23:PySem.W.findIn K (.ref C6) "draw"=some (some (.ref f23))) (i23:PySem.W.isFn K (.ref f23)=true) (l23:K.lookup f23=some ⟨oc23,od23,.func (PySem.W.fnOf "draw" "Run.draw" (zan s_Run_draw) (zal s_Run_draw) (zac s_Run_draw) .none kV23 dc23 pm23 an23 cd23 ct23),sl23⟩) (c23:PySem.W.codeIn K cd23 "Run.draw"=true) (k23:PySem.W.keepIn K (.ref f23)=true)
  (a24:PySem.W.findIn K (.ref C6) "hold"=some (some (.ref f24))) (i24:PySem.W.isFn K (.ref f24)=true) (l24:K.lookup f24=some ⟨oc24,od24,.func (PySem.W.fnOf "hold" "Run.hold" (zan s_Run_hold) (zal s_Run_hold) (zac s_Run_hold) .none kV24 dc24 pm24 an24 cd24 ct24),sl24⟩) (c24:PySem.W.codeIn K cd24 "Run.hold"=true) (k24:PySem.W.keepIn K (.ref f24)=true)
  (a25:PySem.W.findIn K (.ref C6) "call"=some (some (.ref f25))) (i25:PySem.W.isFn K (.ref f25)=true) (l25:K.lookup f25=some ⟨oc25,od25,.func (PySem.W.fnOf "call" "Run.call" (zan s_Run_call) (zal s_Run_call) (zac s_Run_call) .none kV25 dc25 pm25 an25 cd25 ct25),sl25⟩) (c25:PySem.W.codeIn K cd25 "Run.call"=true) (k25:PySem.W.keepIn K (.ref f25)=true)
  (a26:PySem.W.findIn K (.ref C6) "step"=some (some (.ref f26))) (i26:PySem.W.isFn K (.ref f26)=true) (l26:K.lookup f26=some ⟨oc26,od26,.func (PySem.W.fnOf "step" "Run.step" (zan s_Run_step) (zal s_Run_step) (zac s_Run_step) .none kV26 dc26 pm26 an26 cd26 ct26),sl26⟩) (c26:PySem.W.codeIn K cd26 "Run.step"=true) (k26:PySem.W.keepIn K (.ref f26)=true)
  (a27:PySem.W.findIn K (.ref C6) "go"=some (some (.ref f27))) (i27:PySem.W.isFn K (.ref f27)=true) (l27:K.lookup f27=some ⟨oc27,od27,.func (PySem.W.fnOf "go" "Run.go" (zan s_Run_go) (zal s_Run_go) (zac s_Run_go) .none kV27 dc27 pm27 an27 cd27 ct27),sl27⟩) (c27:PySem.W.codeIn K cd27 "Run.go"=true) (k27:PySem.W.keepIn K (.ref f27)=true)
  (a28:PySem.W.findIn K (.ref C6) "steps"=some (some (.ref f28))) (i28:PySem.W.isFn K (.ref f28)=true) (l28:K.lookup f28=some ⟨oc28,od28,.func (PySem.W.fnOf "steps" "Run.steps" (zan s_Run_steps) (zal s_Run_steps) (zac s_Run_steps) .none kV28 dc28 pm28 an28 cd28 ct28),sl28⟩) (c28:PySem.W.codeIn K cd28 "Run.steps"=true) (k28:PySem.W.keepIn K (.ref f28)=true)
  (a29:PySem.W.findIn K (.ref C6) "frames"=some (some (.ref f29))) (i29:PySem.W.isFn K (.ref f29)=true) (l29:K.lookup f29=some ⟨oc29,od29,.func (PySem.W.fnOf "frames" "Run.frames" (zan s_Run_frames) (zal s_Run_frames) (zac s_Run_frames) .none kV29 dc29 pm29 an29 cd29 ct29),sl29⟩) (c29:PySem.W.codeIn K cd29 "Run.frames"=true) (k29:PySem.W.keepIn K (.ref f29)=true)
  (a30:PySem.W.nsIn K mainGlobals "called_by"=some (some (.ref f30))) (l30:K.lookup f30=some ⟨oc30,od30,.func (PySem.W.fnOf "called_by" "called_by" (zan s_called_by) (zal s_called_by) (zac s_called_by) .none kV30 dc30 pm30 an30 cd30 ct30),sl30⟩) (c30:PySem.W.codeIn K cd30 "called_by"=true) (k30:PySem.W.keepIn K (.ref f30)=true)
  (a31:PySem.W.nsIn K mainGlobals "between"=some (some (.ref f31))) (l31:K.lookup f31=some ⟨oc31,od31,.func (PySem.W.fnOf "between" "between" (zan s_between) (zal s_between) (zac s_between) .none kV31 dc31 pm31 an31 cd31 ct31),sl31⟩) (c31:PySem.W.codeIn K cd31 "between"=true) (k31:PySem.W.keepIn K (.ref f31)=true)
  (a32:PySem.W.nsIn K mainGlobals "small_enough"=some (some (.ref f32))) (l32:K.lookup f32=some ⟨oc32,od32,.func (PySem.W.fnOf "small_enough" "small_enough" (zan s_small_enough) (zal s_small_enough) (zac s_small_enough) .none kV32 dc32 pm32 an32 cd32 ct32),sl32⟩) (c32:PySem.W.codeIn K cd32 "small_enough"=true) (k32:PySem.W.keepIn K (.ref f32)=true)
  (a33:PySem.W.nsIn K mainGlobals "line_right"=some (some (.ref f33))) (l33:K.lookup f33=some ⟨oc33,od33,.func (PySem.W.fnOf "line_right" "line_right" (zan s_line_right) (zal s_line_right) (zac s_line_right) .none kV33 dc33 pm33 an33 cd33 ct33),sl33⟩) (c33:PySem.W.codeIn K cd33 "line_right"=true) (k33:PySem.W.keepIn K (.ref f33)=true)
  (a34:PySem.W.nsIn K mainGlobals "lines_right"=some (some (.ref f34))) (l34:K.lookup f34=some ⟨oc34,od34,.func (PySem.W.fnOf "lines_right" "lines_right" (zan s_lines_right) (zal s_lines_right) (zac s_lines_right) .none kV34 dc34 pm34 an34 cd34 ct34),sl34⟩) (c34:PySem.W.codeIn K cd34 "lines_right"=true) (k34:PySem.W.keepIn K (.ref f34)=true)
  (a35:PySem.W.nsIn K mainGlobals "oath_right"=some (some (.ref f35))) (l35:K.lookup f35=some ⟨oc35,od35,.func (PySem.W.fnOf "oath_right" "oath_right" (zan s_oath_right) (zal s_oath_right) (zac s_oath_right) .none kV35 dc35 pm35 an35 cd35 ct35),sl35⟩) (c35:PySem.W.codeIn K cd35 "oath_right"=true) (k35:PySem.W.keepIn K (.ref f35)=true)
  (a36:PySem.W.nsIn K mainGlobals "hand_right"=some (some (.ref f36))) (l36:K.lookup f36=some ⟨oc36,od36,.func (PySem.W.fnOf "hand_right" "hand_right" (zan s_hand_right) (zal s_hand_right) (zac s_hand_right) .none kV36 dc36 pm36 an36 cd36 ct36),sl36⟩) (c36:PySem.W.codeIn K cd36 "hand_right"=true) (k36:PySem.W.keepIn K (.ref f36)=true)
  (a37:PySem.W.nsIn K mainGlobals "two_hands_right"=some (some (.ref f37))) (l37:K.lookup f37=some ⟨oc37,od37,.func (PySem.W.fnOf "two_hands_right" "two_hands_right" (zan s_two_hands_right) (zal s_two_hands_right) (zac s_two_hands_right) .none kV37 dc37 pm37 an37 cd37 ct37),sl37⟩) (c37:PySem.W.codeIn K cd37 "two_hands_right"=true) (k37:PySem.W.keepIn K (.ref f37)=true)
  (a38:PySem.W.nsIn K mainGlobals "call_right"=some (some (.ref f38))) (l38:K.lookup f38=some ⟨oc38,od38,.func (PySem.W.fnOf "call_right" "call_right" (zan s_call_right) (zal s_call_right) (zac s_call_right) .none kV38 dc38 pm38 an38 cd38 ct38),sl38⟩) (c38:PySem.W.codeIn K cd38 "call_right"=true) (k38:PySem.W.keepIn K (.ref f38)=true)
  (a39:PySem.W.nsIn K mainGlobals "range_right"=some (some (.ref f39))) (l39:K.lookup f39=some ⟨oc39,od39,.func (PySem.W.fnOf "range_right" "range_right" (zan s_range_right) (zal s_range_right) (zac s_range_right) .none kV39 dc39 pm39 an39 cd39 ct39),sl39⟩) (c39:PySem.W.codeIn K cd39 "range_right"=true) (k39:PySem.W.keepIn K (.ref f39)=true)
  (a40:PySem.W.nsIn K mainGlobals "deed_right"=some (some (.ref f40))) (l40:K.lookup f40=some ⟨oc40,od40,.func (PySem.W.fnOf "deed_right" "deed_right" (zan s_deed_right) (zal s_deed_right) (zac s_deed_right) .none kV40 dc40 pm40 an40 cd40 ct40),sl40⟩) (c40:PySem.W.codeIn K cd40 "deed_right"=true) (k40:PySem.W.keepIn K (.ref f40)=true)
  (a41:PySem.W.nsIn K mainGlobals "deeds_right"=some (some (.ref f41))) (l41:K.lookup f41=some ⟨oc41,od41,.func (PySem.W.fnOf "deeds_right" "deeds_right" (zan s_deeds_right) (zal s_deeds_right) (zac s_deeds_right) .none kV41 dc41 pm41 an41 cd41 ct41),sl41⟩) (c41:PySem.W.codeIn K cd41 "deeds_right"=true) (k41:PySem.W.keepIn K (.ref f41)=true)
  (a42:PySem.W.nsIn K mainGlobals "notes_right"=some (some (.ref f42))) (l42:K.lookup f42=some ⟨oc42,od42,.func (PySem.W.fnOf "notes_right" "notes_right" (zan s_notes_right) (zal s_notes_right) (zac s_notes_right) .none kV42 dc42 pm42 an42 cd42 ct42),sl42⟩) (c42:PySem.W.codeIn K cd42 "notes_right"=true) (k42:PySem.W.keepIn K (.ref f42)=true)
  (a43:PySem.W.nsIn K mainGlobals "right"=some (some (.ref f43))) (l43:K.lookup f43=some ⟨oc43,od43,.func (PySem.W.fnOf "right" "right" (zan s_right) (zal s_right) (zac s_right) .none kV43 dc43 pm43 an43 cd43 ct43),sl43⟩) (c43:PySem.W.codeIn K cd43 "right"=true) (k43:PySem.W.keepIn K (.ref f43)=true)
  (a44:PySem.W.findIn K (.ref C8) "__init__"=some (some (.ref f44))) (i44:PySem.W.isFn K (.ref f44)=true) (l44:K.lookup f44=some ⟨oc44,od44,.func (PySem.W.fnOf "__init__" "Hall.__init__" (zan s_Hall___init__) (zal s_Hall___init__) (zac s_Hall___init__) .none kV44 dc44 pm44 an44 cd44 ct44),sl44⟩) (c44:PySem.W.codeIn K cd44 "Hall.__init__"=true) (k44:PySem.W.keepIn K (.ref f44)=true)
  (a45:PySem.W.findIn K (.ref C8) "release"=some (some (.ref f45))) (i45:PySem.W.isFn K (.ref f45)=true) (l45:K.lookup f45=some ⟨oc45,od45,.func (PySem.W.fnOf "release" "Hall.release" (zan s_Hall_release) (zal s_Hall_release) (zac s_Hall_release) .none kV45 dc45 pm45 an45 cd45 ct45),sl45⟩) (c45:PySem.W.codeIn K cd45 "Hall.release"=true) (k45:PySem.W.keepIn K (.ref f45)=true)
  (a46:PySem.W.findIn K (.ref C8) "called_at"=some (some (.ref f46))) (i46:PySem.W.isFn K (.ref f46)=true) (l46:K.lookup f46=some ⟨oc46,od46,.func (PySem.W.fnOf "called_at" "Hall.called_at" (zan s_Hall_called_at) (zal s_Hall_called_at) (zac s_Hall_called_at) .none kV46 dc46 pm46 an46 cd46 ct46),sl46⟩) (c46:PySem.W.codeIn K cd46 "Hall.called_at"=true) (k46:PySem.W.keepIn K (.ref f46)=true)
  (a47:PySem.W.findIn K (.ref C8) "release_callers"=some (some (.ref f47))) (i47:PySem.W.isFn K (.ref f47)=true) (l47:K.lookup f47=some ⟨oc47,od47,.func (PySem.W.fnOf "release_callers" "Hall.release_callers" (zan s_Hall_release_callers) (zal s_Hall_release_callers) (zac s_Hall_release_callers) .none kV47 dc47 pm47 an47 cd47 ct47),sl47⟩) (c47:PySem.W.codeIn K cd47 "Hall.release_callers"=true) (k47:PySem.W.keepIn K (.ref f47)=true)
  (a48:PySem.W.nsIn K mainGlobals "same_oath"=some (some (.ref f48))) (l48:K.lookup f48=some ⟨oc48,od48,.func (PySem.W.fnOf "same_oath" "same_oath" (zan s_same_oath) (zal s_same_oath) (zac s_same_oath) .none kV48 dc48 pm48 an48 cd48 ct48),sl48⟩) (c48:PySem.W.codeIn K cd48 "same_oath"=true) (k48:PySem.W.keepIn K (.ref f48)=true)
  (a49:PySem.W.findIn K (.ref C8) "lay"=some (some (.ref f49))) (i49:PySem.W.isFn K (.ref f49)=true) (l49:K.lookup f49=some ⟨oc49,od49,.func (PySem.W.fnOf "lay" "Hall.lay" (zan s_Hall_lay) (zal s_Hall_lay) (zac s_Hall_lay) .none kV49 dc49 pm49 an49 cd49 ct49),sl49⟩) (c49:PySem.W.codeIn K cd49 "Hall.lay"=true) (k49:PySem.W.keepIn K (.ref f49)=true)
  (a50:PySem.W.findIn K (.ref C8) "must_stand"=some (some (.ref f50))) (i50:PySem.W.isFn K (.ref f50)=true) (l50:K.lookup f50=some ⟨oc50,od50,.func (PySem.W.fnOf "must_stand" "Hall.must_stand" (zan s_Hall_must_stand) (zal s_Hall_must_stand) (zac s_Hall_must_stand) .none kV50 dc50 pm50 an50 cd50 ct50),sl50⟩) (c50:PySem.W.codeIn K cd50 "Hall.must_stand"=true) (k50:PySem.W.keepIn K (.ref f50)=true)
  (a51:PySem.W.findIn K (.ref C8) "tear"=some (some (.ref f51))) (i51:PySem.W.isFn K (.ref f51)=true) (l51:K.lookup f51=some ⟨oc51,od51,.func (PySem.W.fnOf "tear" "Hall.tear" (zan s_Hall_tear) (zal s_Hall_tear) (zac s_Hall_tear) .none kV51 dc51 pm51 an51 cd51 ct51),sl51⟩) (c51:PySem.W.codeIn K cd51 "Hall.tear"=true) (k51:PySem.W.keepIn K (.ref f51)=true)
  (a52:PySem.W.nsIn K mainGlobals "_law_mix"=some (some (.ref f52))) (l52:K.lookup f52=some ⟨oc52,od52,.func (PySem.W.fnOf "_law_mix" "_law_mix" (zan s_l_mix) (zal s_l_mix) (zac s_l_mix) .none kV52 dc52 pm52 an52 cd52 ct52),sl52⟩) (c52:PySem.W.codeIn K cd52 "_law_mix"=true) (k52:PySem.W.keepIn K (.ref f52)=true)
  (a53:PySem.W.nsIn K mainGlobals "_law_cell_at"=some (some (.ref f53))) (l53:K.lookup f53=some ⟨oc53,od53,.func (PySem.W.fnOf "_law_cell_at" "_law_cell_at" (zan s_l_cell_at) (zal s_l_cell_at) (zac s_l_cell_at) .none kV53 dc53 pm53 an53 cd53 ct53),sl53⟩) (c53:PySem.W.codeIn K cd53 "_law_cell_at"=true) (k53:PySem.W.keepIn K (.ref f53)=true)
  (a54:PySem.W.nsIn K mainGlobals "_law_number"=some (some (.ref f54))) (l54:K.lookup f54=some ⟨oc54,od54,.func (PySem.W.fnOf "_law_number" "_law_number" (zan s_l_number) (zal s_l_number) (zac s_l_number) .none kV54 dc54 pm54 an54 cd54 ct54),sl54⟩) (c54:PySem.W.codeIn K cd54 "_law_number"=true) (k54:PySem.W.keepIn K (.ref f54)=true)
  (a55:PySem.W.nsIn K mainGlobals "_law_free"=some (some (.ref f55))) (l55:K.lookup f55=some ⟨oc55,od55,.func (PySem.W.fnOf "_law_free" "_law_free" (zan s_l_free) (zal s_l_free) (zac s_l_free) .none kV55 dc55 pm55 an55 cd55 ct55),sl55⟩) (c55:PySem.W.codeIn K cd55 "_law_free"=true) (k55:PySem.W.keepIn K (.ref f55)=true)
  (a56:PySem.W.nsIn K mainGlobals "_law_other_deed"=some (some (.ref f56))) (l56:K.lookup f56=some ⟨oc56,od56,.func (PySem.W.fnOf "_law_other_deed" "_law_other_deed" (zan s_l_other_deed) (zal s_l_other_deed) (zac s_l_other_deed) .none kV56 dc56 pm56 an56 cd56 ct56),sl56⟩) (c56:PySem.W.codeIn K cd56 "_law_other_deed"=true) (k56:PySem.W.keepIn K (.ref f56)=true)
  (a57:PySem.W.nsIn K mainGlobals "_law_second_deed"=some (some (.ref f57))) (l57:K.lookup f57=some ⟨oc57,od57,.func (PySem.W.fnOf "_law_second_deed" "_law_second_deed" (zan s_l_second_deed) (zal s_l_second_deed) (zac s_l_second_deed) .none kV57 dc57 pm57 an57 cd57 ct57),sl57⟩) (c57:PySem.W.codeIn K cd57 "_law_second_deed"=true) (k57:PySem.W.keepIn K (.ref f57)=true)
  (a58:PySem.W.nsIn K mainGlobals "_law_first_deed"=some (some (.ref f58))) (l58:K.lookup f58=some ⟨oc58,od58,.func (PySem.W.fnOf "_law_first_deed" "_law_first_deed" (zan s_l_first_deed) (zal s_l_first_deed) (zac s_l_first_deed) .none kV58 dc58 pm58 an58 cd58 ct58),sl58⟩) (c58:PySem.W.codeIn K cd58 "_law_first_deed"=true) (k58:PySem.W.keepIn K (.ref f58)=true)
  (a59:PySem.W.nsIn K mainGlobals "_law_bare"=some (some (.ref f59))) (l59:K.lookup f59=some ⟨oc59,od59,.func (PySem.W.fnOf "_law_bare" "_law_bare" (zan s_l_bare) (zal s_l_bare) (zac s_l_bare) .none kV59 dc59 pm59 an59 cd59 ct59),sl59⟩) (c59:PySem.W.codeIn K cd59 "_law_bare"=true) (k59:PySem.W.keepIn K (.ref f59)=true)
  (a60:PySem.W.nsIn K mainGlobals "_law_sworn_parts"=some (some (.ref f60))) (l60:K.lookup f60=some ⟨oc60,od60,.func (PySem.W.fnOf "_law_sworn_parts" "_law_sworn_parts" (zan s_l_sworn_parts) (zal s_l_sworn_parts) (zac s_l_sworn_parts) .none kV60 dc60 pm60 an60 cd60 ct60),sl60⟩) (c60:PySem.W.codeIn K cd60 "_law_sworn_parts"=true) (k60:PySem.W.keepIn K (.ref f60)=true)
  (a61:PySem.W.nsIn K mainGlobals "_law_hall_parts"=some (some (.ref f61))) (l61:K.lookup f61=some ⟨oc61,od61,.func (PySem.W.fnOf "_law_hall_parts" "_law_hall_parts" (zan s_l_hall_parts) (zal s_l_hall_parts) (zac s_l_hall_parts) .none kV61 dc61 pm61 an61 cd61 ct61),sl61⟩) (c61:PySem.W.codeIn K cd61 "_law_hall_parts"=true) (k61:PySem.W.keepIn K (.ref f61)=true)
  (a62:PySem.W.nsIn K mainGlobals "_law_line_by"=some (some (.ref f62))) (l62:K.lookup f62=some ⟨oc62,od62,.func (PySem.W.fnOf "_law_line_by" "_law_line_by" (zan s_l_line_by) (zal s_l_line_by) (zac s_l_line_by) .none kV62 dc62 pm62 an62 cd62 ct62),sl62⟩) (c62:PySem.W.codeIn K cd62 "_law_line_by"=true) (k62:PySem.W.keepIn K (.ref f62)=true)
  (a63:PySem.W.nsIn K mainGlobals "_law_deed_by"=some (some (.ref f63))) (l63:K.lookup f63=some ⟨oc63,od63,.func (PySem.W.fnOf "_law_deed_by" "_law_deed_by" (zan s_l_deed_by) (zal s_l_deed_by) (zac s_l_deed_by) .none kV63 dc63 pm63 an63 cd63 ct63),sl63⟩) (c63:PySem.W.codeIn K cd63 "_law_deed_by"=true) (k63:PySem.W.keepIn K (.ref f63)=true)
  (a64:PySem.W.nsIn K mainGlobals "_law_hall_by"=some (some (.ref f64))) (l64:K.lookup f64=some ⟨oc64,od64,.func (PySem.W.fnOf "_law_hall_by" "_law_hall_by" (zan s_l_hall_by) (zal s_l_hall_by) (zac s_l_hall_by) .none kV64 dc64 pm64 an64 cd64 ct64),sl64⟩) (c64:PySem.W.codeIn K cd64 "_law_hall_by"=true) (k64:PySem.W.keepIn K (.ref f64)=true)
  (a65:PySem.W.nsIn K mainGlobals "law"=some (some (.ref f65))) (l65:K.lookup f65=some ⟨oc65,od65,.func (PySem.W.fnOf "law" "law" (zan s_law) (zal s_law) (zac s_law) .none kV65 dc65 pm65 an65 cd65 ct65),sl65⟩) (c65:PySem.W.codeIn K cd65 "law"=true) (k65:PySem.W.keepIn K (.ref f65)=true)
  (z_all:PySem.W.nsIn K mainGlobals "all"=some none)
  (z_enumerate:PySem.W.nsIn K mainGlobals "enumerate"=some none)
  (z_int:PySem.W.nsIn K mainGlobals "int"=some none)
  (z_isinstance:PySem.W.nsIn K mainGlobals "isinstance"=some none)
  (z_len:PySem.W.nsIn K mainGlobals "len"=some none)
  (z_list:PySem.W.nsIn K mainGlobals "list"=some none)
  (z_max:PySem.W.nsIn K mainGlobals "max"=some none)
  (z_range:PySem.W.nsIn K mainGlobals "range"=some none)
  (z_sorted:PySem.W.nsIn K mainGlobals "sorted"=some none)
  (z_tuple:PySem.W.nsIn K mainGlobals "tuple"=some none)
  (z_zip:PySem.W.nsIn K mainGlobals "zip"=some none)
  (y_NUMBERS:PySem.W.nsIn K mainGlobals "NUMBERS"=some (some (.int 9 t_NUMBERS)))
  (y_FACTORS:PySem.W.nsIn K mainGlobals "FACTORS"=some (some (.int 8 t_FACTORS)))
  (y_MOST_FRAMES:PySem.W.nsIn K mainGlobals "MOST_FRAMES"=some (some (.int 20 t_MOST_FRAMES)))
  (y_HAND_SPOTS:PySem.W.nsIn K mainGlobals "HAND_SPOTS"=some (some (.ref a_HAND_SPOTS))) (x_HAND_SPOTS:K.lookup a_HAND_SPOTS=some ⟨.type "tuple",dd_HAND_SPOTS,.seq #[.int 1 t_HAND_SPOTS_0,.int 2 t_HAND_SPOTS_1,.int 3 t_HAND_SPOTS_2,.int 4 t_HAND_SPOTS_3] n_HAND_SPOTS,ss_HAND_SPOTS⟩)
  (y_LEFT_SPOTS:PySem.W.nsIn K mainGlobals "LEFT_SPOTS"=some (some (.ref a_LEFT_SPOTS))) (x_LEFT_SPOTS:K.lookup a_LEFT_SPOTS=some ⟨.type "tuple",dd_LEFT_SPOTS,.seq #[.int 7 t_LEFT_SPOTS_0,.int 8 t_LEFT_SPOTS_1] n_LEFT_SPOTS,ss_LEFT_SPOTS⟩)
  (y_LEFT_AS_HANDS:PySem.W.nsIn K mainGlobals "LEFT_AS_HANDS"=some (some (.ref a_LEFT_AS_HANDS))) (x_LEFT_AS_HANDS:K.lookup a_LEFT_AS_HANDS=some ⟨.type "tuple",dd_LEFT_AS_HANDS,.seq #[.int 0 t_LEFT_AS_HANDS_0,.int 1 t_LEFT_AS_HANDS_1,.int 2 t_LEFT_AS_HANDS_2,.int 3 t_LEFT_AS_HANDS_3,.int 4 t_LEFT_AS_HANDS_4,.int 5 t_LEFT_AS_HANDS_5,.int 0 t_LEFT_AS_HANDS_6,.int 1 t_LEFT_AS_HANDS_7] n_LEFT_AS_HANDS,ss_LEFT_AS_HANDS⟩)
  (y_MOST_LINES:PySem.W.nsIn K mainGlobals "MOST_LINES"=some (some (.int 2 t_MOST_LINES)))
  (y_MOST_DEEDS:PySem.W.nsIn K mainGlobals "MOST_DEEDS"=some (some (.int 8 t_MOST_DEEDS)))
  (y_LAST_HAND:PySem.W.nsIn K mainGlobals "LAST_HAND"=some (some (.int 3 t_LAST_HAND)))
  (y_LAST_NUMBER:PySem.W.nsIn K mainGlobals "LAST_NUMBER"=some (some (.int 99 t_LAST_NUMBER)))
  (y_GREATEST_BY:PySem.W.nsIn K mainGlobals "GREATEST_BY"=some (some (.int 1000 t_GREATEST_BY)))
  (y_GREATEST:PySem.W.nsIn K mainGlobals "GREATEST"=some (some (.int 1000000000 t_GREATEST)))
  (y_ASKED_0:PySem.W.nsIn K mainGlobals "ASKED_0"=some (some (.int 4 t_ASKED_0)))
  (y_ASKED_1:PySem.W.nsIn K mainGlobals "ASKED_1"=some (some (.int 5 t_ASKED_1)))
  (y_NEW_0:PySem.W.nsIn K mainGlobals "NEW_0"=some (some (.int 6 t_NEW_0)))
  (y_NEW_1:PySem.W.nsIn K mainGlobals "NEW_1"=some (some (.int 7 t_NEW_1)))
  (y_WHOLES:PySem.W.nsIn K mainGlobals "WHOLES"=some (some (.ref a_WHOLES))) (x_WHOLES:K.lookup a_WHOLES=some ⟨.type "tuple",dd_WHOLES,.seq #[.int 1 t_WHOLES_0,.int 2 t_WHOLES_1,.int 3 t_WHOLES_2,.int 4 t_WHOLES_3] n_WHOLES,ss_WHOLES⟩)
  (oC0:K.lookup C0=some (PySem.excClassObj xn0 xq0 C0 xN0 xb0 zbj xh0 xl0 xs0 xa0 xc0 xd0 x0_0 x1_0 x2_0 x3_0 x5_0 "ValueError.__new__")) (xC0:PySem.W.excIn K C0 zbj "ValueError.__new__"=true)
  (oC1:K.lookup C1=some (PySem.excClassObj xn1 xq1 C1 xN1 xb1 (.ref C0::zbj) xh1 xl1 xs1 xa1 xc1 xd1 x0_1 x1_1 x2_1 x3_1 x5_1 "ValueError.__new__")) (xC1:PySem.W.excIn K C1 zbj "ValueError.__new__"=true)
  (oC2:K.lookup C2=some (PySem.excClassObj xn2 xq2 C2 xN2 xb2 (.ref C0::zbj) xh2 xl2 xs2 xa2 xc2 xd2 x0_2 x1_2 x2_2 x3_2 x5_2 "ValueError.__new__")) (xC2:PySem.W.excIn K C2 zbj "ValueError.__new__"=true)
  (oC3:K.lookup C3=some (PySem.excClassObj xn3 xq3 C3 xN3 xb3 (.ref C0::zbj) xh3 xl3 xs3 xa3 xc3 xd3 x0_3 x1_3 x2_3 x3_3 x5_3 "ValueError.__new__")) (xC3:PySem.W.excIn K C3 zbj "ValueError.__new__"=true)
  (oC4:K.lookup C4=some (PySem.excClassObj xn4 xq4 C4 xN4 xb4 (.ref C0::zbj) xh4 xl4 xs4 xa4 xc4 xd4 x0_4 x1_4 x2_4 x3_4 x5_4 "ValueError.__new__")) (xC4:PySem.W.excIn K C4 zbj "ValueError.__new__"=true)
  (pg5:PySem.W.plainGet K C5 Str.empty=true) (hd5:PySem.W.hasDictIn K C5=true) (po5:PySem.W.plainOver K C5=true) (sa5:PySem.W.findIn K (.ref C5) "__setattr__"=some (some (.builtin "object.__setattr__"))) (mk5:PySem.W.makesIn K C5=true) (kc5:PySem.W.keepIn K (.ref C5)=true)
  (na5_number:PySem.W.findIn K (.ref C5) "number"=some none)
  (na5_place:PySem.W.findIn K (.ref C5) "place"=some none)
  (na5_hands:PySem.W.findIn K (.ref C5) "hands"=some none)
  (na5_asked:PySem.W.findIn K (.ref C5) "asked"=some none)
  (pg6:PySem.W.plainGet K C6 Str.empty=true) (hd6:PySem.W.hasDictIn K C6=true) (po6:PySem.W.plainOver K C6=true) (sa6:PySem.W.findIn K (.ref C6) "__setattr__"=some (some (.builtin "object.__setattr__"))) (mk6:PySem.W.makesIn K C6=true) (kc6:PySem.W.keepIn K (.ref C6)=true)
  (na6_known:PySem.W.findIn K (.ref C6) "known"=some none)
  (na6_inputs_left:PySem.W.findIn K (.ref C6) "inputs_left"=some none)
  (na6_stack:PySem.W.findIn K (.ref C6) "stack"=some none)
  (na6_steps_done:PySem.W.findIn K (.ref C6) "steps_done"=some none)
  (na6_ending:PySem.W.findIn K (.ref C6) "ending"=some none)
  (pg7:PySem.W.plainGet K C7 Str.empty=true) (hd7:PySem.W.hasDictIn K C7=true) (po7:PySem.W.plainOver K C7=true) (sa7:PySem.W.findIn K (.ref C7) "__setattr__"=some (some (.builtin "object.__setattr__"))) (mk7:PySem.W.makesIn K C7=true) (kc7:PySem.W.keepIn K (.ref C7)=true)
  (na7_needs:PySem.W.findIn K (.ref C7) "needs"=some none)
  (na7_leaves:PySem.W.findIn K (.ref C7) "leaves"=some none)
  (na7_deeds:PySem.W.findIn K (.ref C7) "deeds"=some none)
  (na7_notes:PySem.W.findIn K (.ref C7) "notes"=some none)
  (pg8:PySem.W.plainGet K C8 Str.empty=true) (hd8:PySem.W.hasDictIn K C8=true) (po8:PySem.W.plainOver K C8=true) (sa8:PySem.W.findIn K (.ref C8) "__setattr__"=some (some (.builtin "object.__setattr__"))) (mk8:PySem.W.makesIn K C8=true) (kc8:PySem.W.keepIn K (.ref C8)=true)
  (na8_laid:PySem.W.findIn K (.ref C8) "laid"=some none)
  (na8_vouched:PySem.W.findIn K (.ref C8) "vouched"=some none) :
  ∃ fd:FuncData,(∀ (s:Shared) (v:Value),BindsTo s fd ⟨[v],[]⟩ [("script",v)])∧∀ base:Heap,K.In base→base.Ns mainGlobals mg→FnOk l.prog w K mg base CX0 11 fa fd ["script"] (sp_law K):=by
 have e:=hfa.symm.trans (PySem.W.mg_of X G a65)
 cases e
 have B:Bl K mg:=⟨PySem.W.mg_none_of X G z_all,PySem.W.mg_none_of X G z_enumerate,PySem.W.mg_none_of X G z_int,PySem.W.mg_none_of X G z_isinstance,PySem.W.mg_none_of X G z_len,PySem.W.mg_none_of X G z_list,PySem.W.mg_none_of X G z_max,PySem.W.mg_none_of X G z_range,PySem.W.mg_none_of X G z_sorted,PySem.W.mg_none_of X G z_tuple,PySem.W.mg_none_of X G z_zip,⟨_,PySem.W.mg_of X G y_NUMBERS⟩,⟨_,PySem.W.mg_of X G y_FACTORS⟩,⟨_,PySem.W.mg_of X G y_MOST_FRAMES⟩,⟨_,PySem.W.mg_of X G y_MOST_LINES⟩,⟨_,PySem.W.mg_of X G y_MOST_DEEDS⟩,⟨_,PySem.W.mg_of X G y_LAST_HAND⟩,⟨_,PySem.W.mg_of X G y_LAST_NUMBER⟩,⟨_,PySem.W.mg_of X G y_GREATEST_BY⟩,⟨_,PySem.W.mg_of X G y_GREATEST⟩,⟨_,PySem.W.mg_of X G y_ASKED_0⟩,⟨_,PySem.W.mg_of X G y_ASKED_1⟩,⟨_,PySem.W.mg_of X G y_NEW_0⟩,⟨_,PySem.W.mg_of X G y_NEW_1⟩,⟨_,PySem.W.mg_of X G y_HAND_SPOTS,λ_=>.inr ⟨_,_,_,x_HAND_SPOTS,rfl,rfl,zaz (by simp),.cons ⟨_,rfl⟩ (.cons ⟨_,rfl⟩ (.cons ⟨_,rfl⟩ (.cons ⟨_,rfl⟩ (.nil))))⟩⟩,⟨_,PySem.W.mg_of X G y_LEFT_SPOTS,λ_=>.inr ⟨_,_,_,x_LEFT_SPOTS,rfl,rfl,zaz (by simp),.cons ⟨_,rfl⟩ (.cons ⟨_,rfl⟩ (.nil))⟩⟩,⟨_,PySem.W.mg_of X G y_LEFT_AS_HANDS,λ_=>.inr ⟨_,_,_,x_LEFT_AS_HANDS,rfl,rfl,zaz (by simp),.cons ⟨_,rfl⟩ (.cons ⟨_,rfl⟩ (.cons ⟨_,rfl⟩ (.cons ⟨_,rfl⟩ (.cons ⟨_,rfl⟩ (.cons ⟨_,rfl⟩ (.cons ⟨_,rfl⟩ (.cons ⟨_,rfl⟩ (.nil))))))))⟩⟩,⟨_,PySem.W.mg_of X G y_WHOLES,λ_=>.inr ⟨_,_,_,x_WHOLES,rfl,rfl,zaz (by simp),.cons ⟨_,rfl⟩ (.cons ⟨_,rfl⟩ (.cons ⟨_,rfl⟩ (.cons ⟨_,rfl⟩ (.nil))))⟩⟩⟩
 have Z:Zt K mg (λi=>[C0,C1,C2,C3,C4,C5,C6,C7,C8].getD i 0):=⟨⟨⟨_,_,_,_,_,_,_,_,_,_,_,_,_,_,_,oC0⟩,xC0⟩,PySem.W.mg_of X G aC0,⟨⟨_,_,_,_,_,_,_,_,_,_,_,_,_,_,_,oC1⟩,xC1⟩,PySem.W.mg_of X G aC1,⟨⟨_,_,_,_,_,_,_,_,_,_,_,_,_,_,_,oC2⟩,xC2⟩,PySem.W.mg_of X G aC2,⟨⟨_,_,_,_,_,_,_,_,_,_,_,_,_,_,_,oC3⟩,xC3⟩,PySem.W.mg_of X G aC3,⟨⟨_,_,_,_,_,_,_,_,_,_,_,_,_,_,_,oC4⟩,xC4⟩,PySem.W.mg_of X G aC4,⟨pg5,hd5,po5,sa5⟩,PySem.W.mg_of X G aC5,na5_number,na5_place,na5_hands,na5_asked,⟨pg6,hd6,po6,sa6⟩,PySem.W.mg_of X G aC6,na6_known,na6_inputs_left,na6_stack,na6_steps_done,na6_ending,⟨pg7,hd7,po7,sa7⟩,PySem.W.mg_of X G aC7,na7_needs,na7_leaves,na7_deeds,na7_notes,⟨pg8,hd8,po8,sa8⟩,PySem.W.mg_of X G aC8,na8_laid,na8_vouched⟩
 have F1:=zaw (st:=s_copied_lines) l1 c1 k1
 have F2:=zaw (st:=s_copied_deed) l2 c2 k2
 have F3:=zaw (st:=s_Craft___init__) l3 c3 k3
 have F4:=zaw (st:=s_worth) l4 c4 k4
 have F5:=zaw (st:=s_holds) l5 c5 k5
 have F6:=zaw (st:=s_Frame___init__) l6 c6 k6
 have F7:=zaw (st:=s_Frame_numbers) l7 c7 k7
 have F8:=zaw (st:=s_Hall_standing) l8 c8 k8
 have F9:=zaw (st:=s_copied_craft) l9 c9 k9
 have F10:=zaw (st:=s_Hall_crafts) l10 c10 k10
 have F11:=zaw (st:=s_Run_craft_of) l11 c11 k11
 have F12:=zaw (st:=s_Run_is_behind_last_deed) l12 c12 k12
 have F13:=zaw (st:=s_first_unmet) l13 c13 k13
 have F14:=zaw (st:=s_Run_meets) l14 c14 k14
 have F15:=zaw (st:=s_Run_take) l15 c15 k15
 have F16:=zaw (st:=s_Run_leave) l16 c16 k16
 have F17:=zaw (st:=s_Run_meet_notes) l17 c17 k17
 have F18:=zaw (st:=s_Run_come_to) l18 c18 k18
 have F19:=zaw (st:=s_Run_begin) l19 c19 k19
 have F20:=zaw (st:=s_asked_numbers) l20 c20 k20
 have F21:=zaw (st:=s_Run___init__) l21 c21 k21
 have F22:=zaw (st:=s_Run_put) l22 c22 k22
 have F23:=zaw (st:=s_Run_draw) l23 c23 k23
 have F24:=zaw (st:=s_Run_hold) l24 c24 k24
 have F25:=zaw (st:=s_Run_call) l25 c25 k25
 have F26:=zaw (st:=s_Run_step) l26 c26 k26
 have F27:=zaw (st:=s_Run_go) l27 c27 k27
 have F28:=zaw (st:=s_Run_steps) l28 c28 k28
 have F29:=zaw (st:=s_Run_frames) l29 c29 k29
 have F30:=zaw (st:=s_called_by) l30 c30 k30
 have F31:=zaw (st:=s_between) l31 c31 k31
 have F32:=zaw (st:=s_small_enough) l32 c32 k32
 have F33:=zaw (st:=s_line_right) l33 c33 k33
 have F34:=zaw (st:=s_lines_right) l34 c34 k34
 have F35:=zaw (st:=s_oath_right) l35 c35 k35
 have F36:=zaw (st:=s_hand_right) l36 c36 k36
 have F37:=zaw (st:=s_two_hands_right) l37 c37 k37
 have F38:=zaw (st:=s_call_right) l38 c38 k38
 have F39:=zaw (st:=s_range_right) l39 c39 k39
 have F40:=zaw (st:=s_deed_right) l40 c40 k40
 have F41:=zaw (st:=s_deeds_right) l41 c41 k41
 have F42:=zaw (st:=s_notes_right) l42 c42 k42
 have F43:=zaw (st:=s_right) l43 c43 k43
 have F44:=zaw (st:=s_Hall___init__) l44 c44 k44
 have F45:=zaw (st:=s_Hall_release) l45 c45 k45
 have F46:=zaw (st:=s_Hall_called_at) l46 c46 k46
 have F47:=zaw (st:=s_Hall_release_callers) l47 c47 k47
 have F48:=zaw (st:=s_same_oath) l48 c48 k48
 have F49:=zaw (st:=s_Hall_lay) l49 c49 k49
 have F50:=zaw (st:=s_Hall_must_stand) l50 c50 k50
 have F51:=zaw (st:=s_Hall_tear) l51 c51 k51
 have F52:=zaw (st:=s_l_mix) l52 c52 k52
 have F53:=zaw (st:=s_l_cell_at) l53 c53 k53
 have F54:=zaw (st:=s_l_number) l54 c54 k54
 have F55:=zaw (st:=s_l_free) l55 c55 k55
 have F56:=zaw (st:=s_l_other_deed) l56 c56 k56
 have F57:=zaw (st:=s_l_second_deed) l57 c57 k57
 have F58:=zaw (st:=s_l_first_deed) l58 c58 k58
 have F59:=zaw (st:=s_l_bare) l59 c59 k59
 have F60:=zaw (st:=s_l_sworn_parts) l60 c60 k60
 have F61:=zaw (st:=s_l_hall_parts) l61 c61 k61
 have F62:=zaw (st:=s_l_line_by) l62 c62 k62
 have F63:=zaw (st:=s_l_deed_by) l63 c63 k63
 have F64:=zaw (st:=s_l_hall_by) l64 c64 k64
 have F65:=zaw (st:=s_law) l65 c65 k65
 refine⟨PySem.W.fnOf "law" "law" (zan s_law) (zal s_law) (zac s_law) .none kV65 dc65 pm65 an65 cd65 ct65,λs v=>.of_eq rfl,λbase _ _=>?_⟩
 have G1:=zfJ (P:=l.prog) (w:=w) (base:=base) B Z  F1 (PySem.W.mg_of X G a1)
 have G2:=zfZ (P:=l.prog) (w:=w) (base:=base) B Z  F2 (PySem.W.mg_of X G a2)
 have G3:=zmM (P:=l.prog) (w:=w) (base:=base) B Z G1 G2 F3 ⟨mk7,a3,i3,kc7⟩
 have G4:=zmN (P:=l.prog) (w:=w) (base:=base) B Z  F4 (PySem.W.mg_of X G a4)
 have G5:=zmO (P:=l.prog) (w:=w) (base:=base) B Z G4 F5 (PySem.W.mg_of X G a5)
 have G6:=zmP (P:=l.prog) (w:=w) (base:=base) B Z  F6 ⟨mk5,a6,i6,kc5⟩
 have G7:=zeO (P:=l.prog) (w:=w) (base:=base) B Z  F7 ⟨a7,i7,k7⟩
 have G8:=zeP (P:=l.prog) (w:=w) (base:=base) B Z  F8 ⟨a8,i8,k8⟩
 have G9:=zfL (P:=l.prog) (w:=w) (base:=base) B Z G3 F9 (PySem.W.mg_of X G a9)
 have G10:=zf0 (P:=l.prog) (w:=w) (base:=base) B Z G8 G9 F10 ⟨a10,i10,k10⟩
 have G11:=zfM (P:=l.prog) (w:=w) (base:=base) B Z  F11 ⟨a11,i11,k11⟩
 have G12:=zct (P:=l.prog) (w:=w) (base:=base) B Z G11 F12 ⟨a12,i12,k12⟩
 have G13:=zf2 (P:=l.prog) (w:=w) (base:=base) B Z G5 F13 (PySem.W.mg_of X G a13)
 have G14:=zhS (P:=l.prog) (w:=w) (base:=base) B Z G13 F14 ⟨a14,i14,k14⟩
 have G15:=ziE (P:=l.prog) (w:=w) (base:=base) B Z G11 F15 ⟨a15,i15,k15⟩
 have G16:=zhT (P:=l.prog) (w:=w) (base:=base) B Z G14 G15 G7 G11 F16 ⟨a16,i16,k16⟩
 have G17:=zev (P:=l.prog) (w:=w) (base:=base) B Z G14 G7 G11 F17 ⟨a17,i17,k17⟩
 have G18:=zf3 (P:=l.prog) (w:=w) (base:=base) B Z G12 G16 G17 F18 ⟨a18,i18,k18⟩
 have G19:=zhU (P:=l.prog) (w:=w) (base:=base) B Z G18 G6 F19 ⟨a19,i19,k19⟩
 have G20:=zeQ (P:=l.prog) (w:=w) (base:=base) B Z  F20 (PySem.W.mg_of X G a20)
 have G21:=zpQ (P:=l.prog) (w:=w) (base:=base) B Z G10 G19 G13 G20 F21 ⟨mk6,a21,i21,kc6⟩
 have G22:=zka (P:=l.prog) (w:=w) (base:=base) B Z G18 F22 ⟨a22,i22,k22⟩
 have G23:=ziF (P:=l.prog) (w:=w) (base:=base) B Z G22 F23 ⟨a23,i23,k23⟩
 have G24:=ziG (P:=l.prog) (w:=w) (base:=base) B Z G14 G7 G18 F24 ⟨a24,i24,k24⟩
 have G25:=ziH (P:=l.prog) (w:=w) (base:=base) B Z G14 G20 G19 F25 ⟨a25,i25,k25⟩
 have G26:=ziI (P:=l.prog) (w:=w) (base:=base) B Z G22 G11 G4 G7 G23 G18 G24 G25 G5 F26 ⟨a26,i26,k26⟩
 have G27:=zlF (P:=l.prog) (w:=w) (base:=base) B Z G26 F27 ⟨a27,i27,k27⟩
 have G28:=zhV (P:=l.prog) (w:=w) (base:=base) B Z  F28 ⟨a28,i28,k28⟩
 have G29:=zgW (P:=l.prog) (w:=w) (base:=base) B Z  F29 ⟨a29,i29,k29⟩
 have G30:=zhW (P:=l.prog) (w:=w) (base:=base) B Z  F30 (PySem.W.mg_of X G a30)
 have G31:=zkb (P:=l.prog) (w:=w) (base:=base) B Z  F31 (PySem.W.mg_of X G a31)
 have G32:=zfN (P:=l.prog) (w:=w) (base:=base) B Z G31 F32 (PySem.W.mg_of X G a32)
 have G33:=zgX (P:=l.prog) (w:=w) (base:=base) B Z G32 F33 (PySem.W.mg_of X G a33)
 have G34:=zf4 (P:=l.prog) (w:=w) (base:=base) B Z G33 F34 (PySem.W.mg_of X G a34)
 have G35:=zgY (P:=l.prog) (w:=w) (base:=base) B Z G34 F35 (PySem.W.mg_of X G a35)
 have G36:=zgZ (P:=l.prog) (w:=w) (base:=base) B Z G31 F36 (PySem.W.mg_of X G a36)
 have G37:=zeh (P:=l.prog) (w:=w) (base:=base) B Z G36 F37 (PySem.W.mg_of X G a37)
 have G38:=zg0 (P:=l.prog) (w:=w) (base:=base) B Z G37 G31 F38 (PySem.W.mg_of X G a38)
 have G39:=zf5 (P:=l.prog) (w:=w) (base:=base) B Z G32 F39 (PySem.W.mg_of X G a39)
 have G40:=zg2 (P:=l.prog) (w:=w) (base:=base) B Z G38 G33 G36 G31 G39 F40 (PySem.W.mg_of X G a40)
 have G41:=zf6 (P:=l.prog) (w:=w) (base:=base) B Z G31 G40 F41 (PySem.W.mg_of X G a41)
 have G42:=zf7 (P:=l.prog) (w:=w) (base:=base) B Z G34 F42 (PySem.W.mg_of X G a42)
 have G43:=zmS (P:=l.prog) (w:=w) (base:=base) B Z G35 G41 G42 F43 (PySem.W.mg_of X G a43)
 have G44:=zon (P:=l.prog) (w:=w) (base:=base) B Z  F44 ⟨mk8,a44,i44,kc8⟩
 have G45:=zfP (P:=l.prog) (w:=w) (base:=base) B Z  F45 ⟨a45,i45,k45⟩
 have G46:=zex (P:=l.prog) (w:=w) (base:=base) B Z G30 F46 ⟨a46,i46,k46⟩
 have G47:=zc6 (P:=l.prog) (w:=w) (base:=base) B Z G46 G45 F47 ⟨a47,i47,k47⟩
 have G48:=zhX (P:=l.prog) (w:=w) (base:=base) B Z  F48 (PySem.W.mg_of X G a48)
 have G49:=ziL (P:=l.prog) (w:=w) (base:=base) B Z G45 G9 G43 G47 G48 F49 ⟨a49,i49,k49⟩
 have G50:=zei (P:=l.prog) (w:=w) (base:=base) B Z  F50 ⟨a50,i50,k50⟩
 have G51:=zhY (P:=l.prog) (w:=w) (base:=base) B Z G50 G47 G45 F51 ⟨a51,i51,k51⟩
 have G52:=zmT (P:=l.prog) (w:=w) (base:=base) B Z  F52 (PySem.W.mg_of X G a52)
 have G53:=zhZ (P:=l.prog) (w:=w) (base:=base) B Z  F53 (PySem.W.mg_of X G a53)
 have G54:=ziM (P:=l.prog) (w:=w) (base:=base) B Z G52 F54 (PySem.W.mg_of X G a54)
 have G55:=zlJ (P:=l.prog) (w:=w) (base:=base) B Z G54 F55 (PySem.W.mg_of X G a55)
 have G56:=zfQ (P:=l.prog) (w:=w) (base:=base) B Z G54 G55 G52 F56 (PySem.W.mg_of X G a56)
 have G57:=zeR (P:=l.prog) (w:=w) (base:=base) B Z G56 G55 F57 (PySem.W.mg_of X G a57)
 have G58:=zfR (P:=l.prog) (w:=w) (base:=base) B Z G56 F58 (PySem.W.mg_of X G a58)
 have G59:=zlL (P:=l.prog) (w:=w) (base:=base) B Z  F59 (PySem.W.mg_of X G a59)
 have G60:=zeS (P:=l.prog) (w:=w) (base:=base) B Z G57 G58 G59 F60 (PySem.W.mg_of X G a60)
 have G61:=zfT (P:=l.prog) (w:=w) (base:=base) B Z G52 G53 G60 F61 (PySem.W.mg_of X G a61)
 have G62:=zh0 (P:=l.prog) (w:=w) (base:=base) B Z G54 G52 F62 (PySem.W.mg_of X G a62)
 have G63:=zh1 (P:=l.prog) (w:=w) (base:=base) B Z G62 G52 G54 F63 (PySem.W.mg_of X G a63)
 have G64:=zh2 (P:=l.prog) (w:=w) (base:=base) B Z G61 G44 G63 G49 G53 G3 F64 (PySem.W.mg_of X G a64)
 exact zpR B Z G64 G21 G27 G28 G52 G53 G49 G51 G29 G3 F65
end My

open PySem PySem.W PyProof.Rows
open My L2
set_option maxRecDepth 1000000 in
set_option maxHeartbeats 0 in
theorem PySem.Challenge.cw_swornhall_k17_whole_cut_and_gone_on_holds : PySem.Challenge.rw_swornhall_k17_whole_cut_and_gone_on.Holds := by
  refine PySem.Challenge.hd_swornhall_k17_whole_cut_and_gone_on fun d kwd hdef => ?_
  obtain ⟨rfl, rfl⟩ := Prod.mk.inj (Option.some.inj ((show defOf My.Qv PySem.Challenge.rw_swornhall_k17_whole_cut_and_gone_on.row.name = some (_, _) from rfl).symm.trans hdef))
  refine L2.walk_ofE (l := PySem.Challenge.rw_swornhall_k17_whole_cut_and_gone_on) (n := 63) (k := 11) (x := "script") (CX := L2.CX0) (sp := My.sp_law) (S := fun K => ((My.zBoo K).all id, My.zSee K) = (true, My.zSig)) rfl (by decide) rfl ⟨rfl, by decide, by decide, rfl⟩ (fun w h Y => Y) ?F (fun _ _ a ns hl _ hS => ⟨a, ns, rfl, hS, hl, fun _ => rfl⟩) (fun _ _ _ _ z => z)
  intro w K mg fa h hA KX G hmg
  obtain⟨_,_,_,_,_,_,_,_,_,l1,c1,k1⟩:=fA hA 0 10 313 "copied_lines" "copied_lines" s_copied_lines rfl rfl rfl
  obtain⟨_,_,_,_,_,_,_,_,_,l2,c2,k2⟩:=fA hA 1 12 318 "copied_deed" "copied_deed" s_copied_deed rfl rfl rfl
  obtain⟨_,_,_,_,_,_,_,_,_,l3,c3,k3⟩:=fA hA 2 15 301 "__init__" "Craft.__init__" s_Craft___init__ rfl rfl rfl
  obtain⟨_,_,_,_,_,_,_,_,_,l4,c4,k4⟩:=fA hA 3 17 89 "worth" "worth" s_worth rfl rfl rfl
  obtain⟨_,_,_,_,_,_,_,_,_,l5,c5,k5⟩:=fA hA 4 19 96 "holds" "holds" s_holds rfl rfl rfl
  obtain⟨_,_,_,_,_,_,_,_,_,l6,c6,k6⟩:=fA hA 5 22 127 "__init__" "Frame.__init__" s_Frame___init__ rfl rfl rfl
  obtain⟨_,_,_,_,_,_,_,_,_,l7,c7,k7⟩:=fA hA 6 25 134 "numbers" "Frame.numbers" s_Frame_numbers rfl rfl rfl
  obtain⟨_,_,_,_,_,_,_,_,_,l8,c8,k8⟩:=fA hA 7 28 540 "standing" "Hall.standing" s_Hall_standing rfl rfl rfl
  obtain⟨_,_,_,_,_,_,_,_,_,l9,c9,k9⟩:=fA hA 8 30 325 "copied_craft" "copied_craft" s_copied_craft rfl rfl rfl
  obtain⟨_,_,_,_,_,_,_,_,_,l10,c10,k10⟩:=fA hA 9 33 547 "crafts" "Hall.crafts" s_Hall_crafts rfl rfl rfl
  obtain⟨_,_,_,_,_,_,_,_,_,l11,c11,k11⟩:=fA hA 10 36 258 "craft_of" "Run.craft_of" s_Run_craft_of rfl rfl rfl
  obtain⟨_,_,_,_,_,_,_,_,_,l12,c12,k12⟩:=fA hA 11 39 230 "is_behind_last_deed" "Run.is_behind_last_deed" s_Run_is_behind_last_deed rfl rfl rfl
  obtain⟨_,_,_,_,_,_,_,_,_,l13,c13,k13⟩:=fA hA 12 41 279 "first_unmet" "first_unmet" s_first_unmet rfl rfl rfl
  obtain⟨_,_,_,_,_,_,_,_,_,l14,c14,k14⟩:=fA hA 13 44 265 "meets" "Run.meets" s_Run_meets rfl rfl rfl
  obtain⟨_,_,_,_,_,_,_,_,_,l15,c15,k15⟩:=fA hA 14 47 251 "take" "Run.take" s_Run_take rfl rfl rfl
  obtain⟨_,_,_,_,_,_,_,_,_,l16,c16,k16⟩:=fA hA 15 50 244 "leave" "Run.leave" s_Run_leave rfl rfl rfl
  obtain⟨_,_,_,_,_,_,_,_,_,l17,c17,k17⟩:=fA hA 16 53 237 "meet_notes" "Run.meet_notes" s_Run_meet_notes rfl rfl rfl
  obtain⟨_,_,_,_,_,_,_,_,_,l18,c18,k18⟩:=fA hA 17 56 223 "come_to" "Run.come_to" s_Run_come_to rfl rfl rfl
  obtain⟨_,_,_,_,_,_,_,_,_,l19,c19,k19⟩:=fA hA 18 59 216 "begin" "Run.begin" s_Run_begin rfl rfl rfl
  obtain⟨_,_,_,_,_,_,_,_,_,l20,c20,k20⟩:=fA hA 19 61 286 "asked_numbers" "asked_numbers" s_asked_numbers rfl rfl rfl
  obtain⟨_,_,_,_,_,_,_,_,_,l21,c21,k21⟩:=fA hA 20 64 155 "__init__" "Run.__init__" s_Run___init__ rfl rfl rfl
  obtain⟨_,_,_,_,_,_,_,_,_,l22,c22,k22⟩:=fA hA 21 67 188 "put" "Run.put" s_Run_put rfl rfl rfl
  obtain⟨_,_,_,_,_,_,_,_,_,l23,c23,k23⟩:=fA hA 22 70 195 "draw" "Run.draw" s_Run_draw rfl rfl rfl
  obtain⟨_,_,_,_,_,_,_,_,_,l24,c24,k24⟩:=fA hA 23 73 202 "hold" "Run.hold" s_Run_hold rfl rfl rfl
  obtain⟨_,_,_,_,_,_,_,_,_,l25,c25,k25⟩:=fA hA 24 76 209 "call" "Run.call" s_Run_call rfl rfl rfl
  obtain⟨_,_,_,_,_,_,_,_,_,l26,c26,k26⟩:=fA hA 25 79 181 "step" "Run.step" s_Run_step rfl rfl rfl
  obtain⟨_,_,_,_,_,_,_,_,_,l27,c27,k27⟩:=fA hA 26 82 162 "go" "Run.go" s_Run_go rfl rfl rfl
  obtain⟨_,_,_,_,_,_,_,_,_,l28,c28,k28⟩:=fA hA 27 85 169 "steps" "Run.steps" s_Run_steps rfl rfl rfl
  obtain⟨_,_,_,_,_,_,_,_,_,l29,c29,k29⟩:=fA hA 28 88 174 "frames" "Run.frames" s_Run_frames rfl rfl rfl
  obtain⟨_,_,_,_,_,_,_,_,_,l30,c30,k30⟩:=fA hA 29 90 330 "called_by" "called_by" s_called_by rfl rfl rfl
  obtain⟨_,_,_,_,_,_,_,_,_,l31,c31,k31⟩:=fA hA 30 92 411 "between" "between" s_between rfl rfl rfl
  obtain⟨_,_,_,_,_,_,_,_,_,l32,c32,k32⟩:=fA hA 31 94 404 "small_enough" "small_enough" s_small_enough rfl rfl rfl
  obtain⟨_,_,_,_,_,_,_,_,_,l33,c33,k33⟩:=fA hA 32 96 364 "line_right" "line_right" s_line_right rfl rfl rfl
  obtain⟨_,_,_,_,_,_,_,_,_,l34,c34,k34⟩:=fA hA 33 98 359 "lines_right" "lines_right" s_lines_right rfl rfl rfl
  obtain⟨_,_,_,_,_,_,_,_,_,l35,c35,k35⟩:=fA hA 34 100 344 "oath_right" "oath_right" s_oath_right rfl rfl rfl
  obtain⟨_,_,_,_,_,_,_,_,_,l36,c36,k36⟩:=fA hA 35 102 397 "hand_right" "hand_right" s_hand_right rfl rfl rfl
  obtain⟨_,_,_,_,_,_,_,_,_,l37,c37,k37⟩:=fA hA 36 104 390 "two_hands_right" "two_hands_right" s_two_hands_right rfl rfl rfl
  obtain⟨_,_,_,_,_,_,_,_,_,l38,c38,k38⟩:=fA hA 37 106 385 "call_right" "call_right" s_call_right rfl rfl rfl
  obtain⟨_,_,_,_,_,_,_,_,_,l39,c39,k39⟩:=fA hA 38 108 378 "range_right" "range_right" s_range_right rfl rfl rfl
  obtain⟨_,_,_,_,_,_,_,_,_,l40,c40,k40⟩:=fA hA 39 110 371 "deed_right" "deed_right" s_deed_right rfl rfl rfl
  obtain⟨_,_,_,_,_,_,_,_,_,l41,c41,k41⟩:=fA hA 40 112 349 "deeds_right" "deeds_right" s_deeds_right rfl rfl rfl
  obtain⟨_,_,_,_,_,_,_,_,_,l42,c42,k42⟩:=fA hA 41 114 354 "notes_right" "notes_right" s_notes_right rfl rfl rfl
  obtain⟨_,_,_,_,_,_,_,_,_,l43,c43,k43⟩:=fA hA 42 116 337 "right" "right" s_right rfl rfl rfl
  obtain⟨_,_,_,_,_,_,_,_,_,l44,c44,k44⟩:=fA hA 43 119 519 "__init__" "Hall.__init__" s_Hall___init__ rfl rfl rfl
  obtain⟨_,_,_,_,_,_,_,_,_,l45,c45,k45⟩:=fA hA 44 122 608 "release" "Hall.release" s_Hall_release rfl rfl rfl
  obtain⟨_,_,_,_,_,_,_,_,_,l46,c46,k46⟩:=fA hA 45 125 601 "called_at" "Hall.called_at" s_Hall_called_at rfl rfl rfl
  obtain⟨_,_,_,_,_,_,_,_,_,l47,c47,k47⟩:=fA hA 46 128 615 "release_callers" "Hall.release_callers" s_Hall_release_callers rfl rfl rfl
  obtain⟨_,_,_,_,_,_,_,_,_,l48,c48,k48⟩:=fA hA 47 130 629 "same_oath" "same_oath" s_same_oath rfl rfl rfl
  obtain⟨_,_,_,_,_,_,_,_,_,l49,c49,k49⟩:=fA hA 48 133 526 "lay" "Hall.lay" s_Hall_lay rfl rfl rfl
  obtain⟨_,_,_,_,_,_,_,_,_,l50,c50,k50⟩:=fA hA 49 136 587 "must_stand" "Hall.must_stand" s_Hall_must_stand rfl rfl rfl
  obtain⟨_,_,_,_,_,_,_,_,_,l51,c51,k51⟩:=fA hA 50 139 533 "tear" "Hall.tear" s_Hall_tear rfl rfl rfl
  obtain⟨_,_,_,_,_,_,_,_,_,l52,c52,k52⟩:=fA hA 51 141 643 "_law_mix" "_law_mix" s_l_mix rfl rfl rfl
  obtain⟨_,_,_,_,_,_,_,_,_,l53,c53,k53⟩:=fA hA 52 143 636 "_law_cell_at" "_law_cell_at" s_l_cell_at rfl rfl rfl
  obtain⟨_,_,_,_,_,_,_,_,_,l54,c54,k54⟩:=fA hA 53 145 650 "_law_number" "_law_number" s_l_number rfl rfl rfl
  obtain⟨_,_,_,_,_,_,_,_,_,l55,c55,k55⟩:=fA hA 54 147 665 "_law_free" "_law_free" s_l_free rfl rfl rfl
  obtain⟨_,_,_,_,_,_,_,_,_,l56,c56,k56⟩:=fA hA 55 149 672 "_law_other_deed" "_law_other_deed" s_l_other_deed rfl rfl rfl
  obtain⟨_,_,_,_,_,_,_,_,_,l57,c57,k57⟩:=fA hA 56 151 686 "_law_second_deed" "_law_second_deed" s_l_second_deed rfl rfl rfl
  obtain⟨_,_,_,_,_,_,_,_,_,l58,c58,k58⟩:=fA hA 57 153 679 "_law_first_deed" "_law_first_deed" s_l_first_deed rfl rfl rfl
  obtain⟨_,_,_,_,_,_,_,_,_,l59,c59,k59⟩:=fA hA 58 155 655 "_law_bare" "_law_bare" s_l_bare rfl rfl rfl
  obtain⟨_,_,_,_,_,_,_,_,_,l60,c60,k60⟩:=fA hA 59 157 691 "_law_sworn_parts" "_law_sworn_parts" s_l_sworn_parts rfl rfl rfl
  obtain⟨_,_,_,_,_,_,_,_,_,l61,c61,k61⟩:=fA hA 60 159 696 "_law_hall_parts" "_law_hall_parts" s_l_hall_parts rfl rfl rfl
  obtain⟨_,_,_,_,_,_,_,_,_,l62,c62,k62⟩:=fA hA 61 161 660 "_law_line_by" "_law_line_by" s_l_line_by rfl rfl rfl
  obtain⟨_,_,_,_,_,_,_,_,_,l63,c63,k63⟩:=fA hA 62 163 703 "_law_deed_by" "_law_deed_by" s_l_deed_by rfl rfl rfl
  obtain⟨_,_,_,_,_,_,_,_,_,l64,c64,k64⟩:=fA hA 63 165 708 "_law_hall_by" "_law_hall_by" s_l_hall_by rfl rfl rfl
  obtain⟨_,_,_,_,_,_,_,_,_,l65,c65,k65⟩:=fA hA 64 167 713 "law" "law" s_law rfl rfl rfl
  obtain⟨_,_,_,xa_HAND_SPOTS⟩:=L2.tup_of (bA hA 183 rfl)
  obtain⟨_,_,_,xa_LEFT_SPOTS⟩:=L2.tup_of (bA hA 185 rfl)
  obtain⟨_,_,_,xa_LEFT_AS_HANDS⟩:=L2.tup_of (bA hA 187 rfl)
  obtain⟨_,_,_,xa_WHOLES⟩:=L2.tup_of (bA hA 199 rfl)
  obtain⟨_,_,_,_,_,_,_,_,_,_,_,_,_,_,_,o0⟩:=L2.exc_of (bA hA 200 rfl)
  obtain⟨_,_,_,_,_,_,_,_,_,_,_,_,_,_,_,o1⟩:=L2.exc_of (bA hA 202 rfl)
  obtain⟨_,_,_,_,_,_,_,_,_,_,_,_,_,_,_,o2⟩:=L2.exc_of (bA hA 204 rfl)
  obtain⟨_,_,_,_,_,_,_,_,_,_,_,_,_,_,_,o3⟩:=L2.exc_of (bA hA 206 rfl)
  obtain⟨_,_,_,_,_,_,_,_,_,_,_,_,_,_,_,o4⟩:=L2.exc_of (bA hA 208 rfl)
  exact My.all_mk KX G hmg (eA hA 0 rfl) (eA hA 1 rfl) (eA hA 2 rfl) (eA hA 3 rfl) (eA hA 4 rfl) (eA hA 5 rfl) (eA hA 6 rfl) (eA hA 7 rfl) (eA hA 8 rfl) (eA hA 9 rfl) l1 c1 k1 (eA hA 11 rfl) l2 c2 k2 (eA hA 13 rfl) (bA hA 14 rfl) l3 c3 k3 (eA hA 16 rfl) l4 c4 k4 (eA hA 18 rfl) l5 c5 k5 (eA hA 20 rfl) (bA hA 21 rfl) l6 c6 k6 (eA hA 23 rfl) (bA hA 24 rfl) l7 c7 k7 (eA hA 26 rfl) (bA hA 27 rfl) l8 c8 k8 (eA hA 29 rfl) l9 c9 k9 (eA hA 31 rfl) (bA hA 32 rfl) l10 c10 k10 (eA hA 34 rfl) (bA hA 35 rfl) l11 c11 k11 (eA hA 37 rfl) (bA hA 38 rfl) l12 c12 k12 (eA hA 40 rfl) l13 c13 k13 (eA hA 42 rfl) (bA hA 43 rfl) l14 c14 k14 (eA hA 45 rfl) (bA hA 46 rfl) l15 c15 k15 (eA hA 48 rfl) (bA hA 49 rfl) l16 c16 k16 (eA hA 51 rfl) (bA hA 52 rfl) l17 c17 k17 (eA hA 54 rfl) (bA hA 55 rfl) l18 c18 k18 (eA hA 57 rfl) (bA hA 58 rfl) l19 c19 k19 (eA hA 60 rfl) l20 c20 k20 (eA hA 62 rfl) (bA hA 63 rfl) l21 c21 k21 (eA hA 65 rfl) (bA hA 66 rfl) l22 c22 k22 (eA hA 68 rfl) (bA hA 69 rfl) l23 c23 k23 (eA hA 71 rfl) (bA hA 72 rfl) l24 c24 k24 (eA hA 74 rfl) (bA hA 75 rfl) l25 c25 k25 (eA hA 77 rfl) (bA hA 78 rfl) l26 c26 k26 (eA hA 80 rfl) (bA hA 81 rfl) l27 c27 k27 (eA hA 83 rfl) (bA hA 84 rfl) l28 c28 k28 (eA hA 86 rfl) (bA hA 87 rfl) l29 c29 k29 (eA hA 89 rfl) l30 c30 k30 (eA hA 91 rfl) l31 c31 k31 (eA hA 93 rfl) l32 c32 k32 (eA hA 95 rfl) l33 c33 k33 (eA hA 97 rfl) l34 c34 k34 (eA hA 99 rfl) l35 c35 k35 (eA hA 101 rfl) l36 c36 k36 (eA hA 103 rfl) l37 c37 k37 (eA hA 105 rfl) l38 c38 k38 (eA hA 107 rfl) l39 c39 k39 (eA hA 109 rfl) l40 c40 k40 (eA hA 111 rfl) l41 c41 k41 (eA hA 113 rfl) l42 c42 k42 (eA hA 115 rfl) l43 c43 k43 (eA hA 117 rfl) (bA hA 118 rfl) l44 c44 k44 (eA hA 120 rfl) (bA hA 121 rfl) l45 c45 k45 (eA hA 123 rfl) (bA hA 124 rfl) l46 c46 k46 (eA hA 126 rfl) (bA hA 127 rfl) l47 c47 k47 (eA hA 129 rfl) l48 c48 k48 (eA hA 131 rfl) (bA hA 132 rfl) l49 c49 k49 (eA hA 134 rfl) (bA hA 135 rfl) l50 c50 k50 (eA hA 137 rfl) (bA hA 138 rfl) l51 c51 k51 (eA hA 140 rfl) l52 c52 k52 (eA hA 142 rfl) l53 c53 k53 (eA hA 144 rfl) l54 c54 k54 (eA hA 146 rfl) l55 c55 k55 (eA hA 148 rfl) l56 c56 k56 (eA hA 150 rfl) l57 c57 k57 (eA hA 152 rfl) l58 c58 k58 (eA hA 154 rfl) l59 c59 k59 (eA hA 156 rfl) l60 c60 k60 (eA hA 158 rfl) l61 c61 k61 (eA hA 160 rfl) l62 c62 k62 (eA hA 162 rfl) l63 c63 k63 (eA hA 164 rfl) l64 c64 k64 (eA hA 166 rfl) l65 c65 k65 (eA hA 168 rfl) (eA hA 169 rfl) (eA hA 170 rfl) (eA hA 171 rfl) (eA hA 172 rfl) (eA hA 173 rfl) (eA hA 174 rfl) (eA hA 175 rfl) (eA hA 176 rfl) (eA hA 177 rfl) (eA hA 178 rfl) (eA hA 179 rfl) (eA hA 180 rfl) (eA hA 181 rfl) (eA hA 182 rfl) xa_HAND_SPOTS (eA hA 184 rfl) xa_LEFT_SPOTS (eA hA 186 rfl) xa_LEFT_AS_HANDS (eA hA 188 rfl) (eA hA 189 rfl) (eA hA 190 rfl) (eA hA 191 rfl) (eA hA 192 rfl) (eA hA 193 rfl) (eA hA 194 rfl) (eA hA 195 rfl) (eA hA 196 rfl) (eA hA 197 rfl) (eA hA 198 rfl) xa_WHOLES o0 (bA hA 201 rfl) o1 (bA hA 203 rfl) o2 (bA hA 205 rfl) o3 (bA hA 207 rfl) o4 (bA hA 209 rfl) (bA hA 210 rfl) (bA hA 211 rfl) (bA hA 212 rfl) (eA hA 213 rfl) (bA hA 214 rfl) (bA hA 215 rfl) (eA hA 216 rfl) (eA hA 217 rfl) (eA hA 218 rfl) (eA hA 219 rfl) (bA hA 220 rfl) (bA hA 221 rfl) (bA hA 222 rfl) (eA hA 223 rfl) (bA hA 224 rfl) (bA hA 225 rfl) (eA hA 226 rfl) (eA hA 227 rfl) (eA hA 228 rfl) (eA hA 229 rfl) (eA hA 230 rfl) (bA hA 231 rfl) (bA hA 232 rfl) (bA hA 233 rfl) (eA hA 234 rfl) (bA hA 235 rfl) (bA hA 236 rfl) (eA hA 237 rfl) (eA hA 238 rfl) (eA hA 239 rfl) (eA hA 240 rfl) (bA hA 241 rfl) (bA hA 242 rfl) (bA hA 243 rfl) (eA hA 244 rfl) (bA hA 245 rfl) (bA hA 246 rfl) (eA hA 247 rfl) (eA hA 248 rfl)

