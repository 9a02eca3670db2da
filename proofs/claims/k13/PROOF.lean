import PyProof.Rows.All
import Wide.All
import Wide.FinOn
import OpenK.KLine
import OpenK.KMore
import OpenK.KDescr
import OpenK.KOwn
import OpenK.KCls
import KE.KIsAll
import KE.KRevIter
import KE.KDictList
import KE.KIsNot
import KE.KItem
import KE.KDictSum
import KE.KDictOf
import KE.KxBytes
import KE.KFromBytes
import Open.FastRun
import PySem.Challenge.RW_swornhall_k13_loosened
set_option Elab.async false
set_option linter.all false
set_option compiler.extract_closed false
set_option maxHeartbeats 0
set_option maxRecDepth 100000
abbrev Fg:=PySem.W.Frag
theorem zgm {α : Type _} {β : Type _} {f : α → β} {l : List α} {i : Nat} : (l.map f)[i]? = l[i]?.map f := List.getElem?_map
theorem zlm {α : Type _} {β : Type _} {as : List α} (f : α → β) : (as.map f).length = as.length := List.length_map f
theorem zme {α : Type _} {β : Type _} {f : α → β} {o : Option α} {b : β} : o.map f = some b ↔ ∃ a, o = some a ∧ f a = b := Option.map_eq_some_iff
theorem zmg {α : Type _} {l : List α} {i : Nat} {a : α} (e : l[i]? = some a) : a ∈ l := List.mem_of_getElem? e
theorem zms {α : Type _} {a b : α} : a ∈ [b] ↔ a = b := List.mem_singleton
theorem zst {α : Type _} {l : List α} : l.toArray.size = l.length := List.size_toArray
theorem zma {α : Type _} {a : α} {s t : List α} : a ∈ s ++ t ↔ a ∈ s ∨ a ∈ t := List.mem_append
theorem zge {α : Type _} {l : List α} {i : Nat} {a : α} : l[i]? = some a ↔ ∃ h : i < l.length, l[i] = a := List.getElem?_eq_some_iff
theorem zmc {α : Type _} {β : Type _} {f : α → β} {a : α} {l : List α} : (a :: l).map f = f a :: l.map f := List.map_cons
theorem zmm {α : Type _} {β : Type _} {f : α → β} {l : List α} {b : β} : b ∈ l.map f ↔ ∃ a, a ∈ l ∧ f a = b := List.mem_map
namespace L2
open PySem PySem.Spec PySem.Calls PyProof.Rows PySem.W
abbrev zbx:List Value:=[.type "ValueError",.type "Exception",.type "BaseException",.type "object"]
def zcX (s:Stmt) (j:Nat):Stmt:=match s with
 | .ClassDef _ _ _ body _ _ _ _ _ _ _=>body.getD j (.Pass ⟨0,0,0,0⟩)
 | _=>.Pass ⟨0,0,0,0⟩
def zdU (s:Stmt):Arguments:=match s with
 | .FunctionDef _ a _ _ _ _ _ _ _ _=>a
 | _=>{posonlyargs:=[],args:=[],vararg:=none,kwonlyargs:=[],kw_defaults:=[],kwarg:=none,defaults:=[]}
def zcY (s:Stmt):List Stmt:=match s with
 | .FunctionDef _ _ b _ _ _ _ _ _ _=>b
 | _=>[]
def zai (s:Stmt):Scope:=match s with
 | .FunctionDef _ _ _ _ _ _ sc _ _ _=>sc
 | _=>{kind:=.function,names:=[],isGenerator:=false,isCoroutine:=false}
def Kof (as:List Addr) (h:Heap):Fg:=as.filterMap λa=>(h.get? a).map λo=>(a,o)
theorem zoF (h:Heap):∀ as:List Addr,(Kof as h).In h
 | []=>λa o e=>by cases e
 | b::as=>λa o e=>by
  have ih:=zoF h as
  unfold Kof at e
  rw[List.filterMap_cons] at e
  cases hb:h.get? b with
  | none=>rw[hb] at e;exact ih a o e
  | some ob=>
   rw[hb] at e
   simp only[Option.map_some] at e
   rw[List.lookup_cons] at e
   by_cases z:(a == b)=true
   ·rw[z] at e
    cases e
    rw[eq_of_beq z];exact hb
   ·rw[Bool.not_eq_true] at z
    rw[z] at e
    exact ih a o e
abbrev Sig:=Str × Str × Arguments × FuncBody × Scope × Addr × List (Str × Addr) × Value × Addr
def zo7 (name qual:Str) (params:Arguments) (body:List Stmt) (scope:Scope):Sig:=(name,qual,params,.stmts body,scope,mainGlobals,[],.none,builtinsNs)
def zaU (K:Fg) (a:Addr):Option Sig:=match K.lookup a with
 | some ⟨_,_,.func f,_⟩=>some (f.name,f.qualname,f.params,f.body,f.scope,f.globals,f.closure,f.defaults,f.builtins)
 | _=>none
def zar (K:Fg) (a:Addr) (q:Str):Bool:=match K.lookup a with
 | some ⟨_,_,.func f,_⟩=>codeIn K f.code q && keepIn K (.ref a)
 | _=>false
def zgj (K:Fg) (C:Addr) (bm:List Value) (newId:String):Bool:=match K.lookup C with
 | some ⟨cl,_,.cls c,sl⟩=>cl == .type "type" && c.mro == .ref C::bm && !c.hasDel && (match sl.toList with
  | [_,_,_,_,some v,_]=>v == .builtin newId
  | _=>false)
 | _=>false
def zhx (K:Fg) (a:Addr) (vs:List Value):Bool:=match K.lookup a with
 | some ⟨cl,_,.seq xs _,_⟩=>cl == .type "tuple" && xs.toList == vs
 | _=>false
def eHook {β:Type}(as:List Addr) (see:Fg→β) (due:β):Hook:=
 ⟨β,λs=>see (Kof as s.heap),λ_=>due,λ_ h=>∃ K:Fg,K.In h∧see K=due,λ_ s e=>⟨_,zoF _ _,e⟩,λ_ _ _ ⟨K,x,e⟩ k=>⟨K,x.keeps k,e⟩⟩
end L2
namespace PySem.W.Fast
def tw17197672384237150859:=0
def tw8109024813467625179:=0
def tw12881065225279615465:=0
def tw1195666626526274226:=0
def tw15110378475967703442:=0
def tw2003635590803650616:=0
def tw2587728532702664754:=0
def tw8317830693113833487:=0
def tw7973781971087818897:=0
def tw11658526459652061172:=0
def tw5732797423194111620:=0
def tw2250612100873288043:=0
def tw1374809917478469207:=0
def tw6711001639421841044:=0
def tw9136657034212678420:=0
def tw8427747297198166393:=0
def tw12416983136586930512:=0
def tw15973218058468540103:=0
def tw12211183353688251521:=0
def tw16437058424356404455:=0
def tw17967111960647755841:=0
def tw5445917350739699691:=0
def tw6021560811892962947:=0
def tw8999648625140310939:=0
def tw1031358704201277654:=0
def tw12495594426704934508:=0
def tw17405591417993635221:=0
def tw12947189612364120706:=0
def tw1433796776764028122:=0
def tw9023339737240260035:=0
def tw6828005076613393017:=0
def tw17440476607948782474:=0
def tw18160674875122710592:=0
def tw8601222271658991640:=0
def tw13766141037806066476:=0
def tw15886263818847630057:=0
def tw11020280332588765920:=0
def tw7054161957134371760:=0
def tw4031671796527252129:=0
def tw7393536490602896065:=0
def tw13657351386533884065:=0
def tw17030332424372663121:=0
def tw12192497858469925298:=0
def tw12214789780172774176:=0
def tw9032177565430573030:=0
def tw11182056951069262281:=0
def tw1174400456303168430:=0
def tw596036935148286111:=0
def tw4640501886508683469:=0
def tw1355517289199466394:=0
def tw2179593313846233413:=0
def tw6557899125026619530:=0
def tw9271894742598292996:=0
def tw10605863855262750922:=0
def tw6898405094774980555:=0
def tw11483816176880018911:=0
def tw4355598587195902030:=0
def tw9397015948050091319:=0
def tw5301306618180369064:=0
def tw6178032427762796448:=0
def tw5187312795642859143:=0
def tw8837730708704175665:=0
def tw9163145176791745063:=0
def tw11275280931718746530:=0
def tw9154629793097693793:=0
def tw8133079692332744999:=0
def tw7901311870644838525:=0
def tw14305741358190646713:=0
def tw7363573959114536696:=0
def tw6683590352720959582:=0
def tw10398276356954269798:=0
def tw9979591340026339514:=0
def tw16658231644446231510:=0
def tw5820400860775301287:=0
def tw4616859590410132360:=0
def tw16546442698367291149:=0
def tw10889117674977720493:=0
def tw2126895797138692885:=0
def tw16906006296169240015:=0
def tw8174651257882075223:=0
def tw7116161564126735480:=0
def tw7446320559695912743:=0
def tw3803694212180474198:=0
def tw8965325613162245434:=0
def tw16557483605164140888:=0
def tw9703721001660978815:=0
def tw16276744182064518206:=0
def tw17317273053478565971:=0
def tw10795000663844188959:=0
def tw1039982224676956468:=0
def tw8413374903856403251:=0
def tw4154157683535651666:=0
def tw7538542271051897376:=0
def tw9590961751414740683:=0
def tw8755564348833078137:=0
def tw10053847668725113202:=0
def tw5435971699544317042:=0
def tw474394711532659119:=0
def tw2918573290148788357:=0
def tw14893029218720779993:=0
def tw1161537482833801790:=0
def tw13148617041165349803:=0
end PySem.W.Fast
namespace My
open PySem L2 PyProof.Rows
def top (i:Nat):Stmt:=PySem.Challenge.pw_swornhall_k13_loosened.main.body.getD i (.Pass ⟨0,0,0,0⟩)
abbrev ziz:Stmt:=top 4
abbrev ze1:Stmt:=top 5
abbrev zf0:Stmt:=top 6
abbrev zbp:Stmt:=zcX (top 17) 0
abbrev zb4:Stmt:=top 18
abbrev zcj:Stmt:=top 19
abbrev zcG:Stmt:=top 20
abbrev zdc:Stmt:=top 21
abbrev zhQ:Stmt:=top 22
abbrev zdn:Stmt:=top 23
abbrev zck:Stmt:=top 24
abbrev zcl:Stmt:=top 25
abbrev zcm:Stmt:=top 26
abbrev zch:Stmt:=top 27
abbrev zdo:Stmt:=top 28
abbrev zc5:Stmt:=top 29
abbrev zdp:Stmt:=top 30
abbrev zby:Stmt:=top 31
abbrev zdq:Stmt:=top 32
abbrev zcH:Stmt:=top 33
abbrev ze2:Stmt:=top 34
abbrev zex:Stmt:=top 35
abbrev zf1:Stmt:=top 48
abbrev zcI:Stmt:=top 49
abbrev zc6:Stmt:=top 50
abbrev zc7:Stmt:=top 51
abbrev zc8:Stmt:=top 52
abbrev zc9:Stmt:=top 53
abbrev zda:Stmt:=top 54
abbrev zdd:Stmt:=top 55
abbrev zcO:Stmt:=top 56
abbrev zcP:Stmt:=top 57
abbrev zey:Stmt:=top 58
abbrev zed:Stmt:=top 59
abbrev zf2:Stmt:=top 60
abbrev za9:Stmt:=top 61
abbrev zcn:Stmt:=zcX (top 63) 0
abbrev zez:Stmt:=zcX (top 63) 1
abbrev zdV:Stmt:=zcX (top 63) 2
abbrev zdr:Stmt:=zcX (top 63) 5
abbrev zcA:Stmt:=zcX (top 63) 6
abbrev zdW:Stmt:=zcX (top 63) 7
abbrev zbX:Stmt:=zcX (top 63) 10
abbrev zb9:Stmt:=zcX (top 63) 11
abbrev zca:Stmt:=zcX (top 63) 12
abbrev zcJ:Stmt:=zcX (top 63) 13
abbrev zbm:Stmt:=zcX (top 63) 14
abbrev zdX:Stmt:=top 64
abbrev zde:Stmt:=top 65
abbrev zdY:Stmt:=top 67
abbrev zhR:Stmt:=top 68
abbrev zeA:Stmt:=top 69
abbrev ze3:Stmt:=top 70
abbrev ze4:Stmt:=top 71
abbrev zcK:Stmt:=top 72
abbrev zcL:Stmt:=top 73
abbrev zco:Stmt:=top 74
abbrev za6:Stmt:=top 75
abbrev zbN:Stmt:=top 76
abbrev zf3:Stmt:=top 77
abbrev zee:Stmt:=top 78
abbrev zf4:Stmt:=top 79
abbrev zeB:Stmt:=top 80
abbrev zdJ:Stmt:=top 81
abbrev zf5:Stmt:=top 82
abbrev zf6:Stmt:=top 83
abbrev zhS:Stmt:=top 84
section
open PySem PySem.Spec PySem.Calls PyProof.Rows PySem.W L2
def zqb (p:Program) (ks:List Nat):Program:={p with main:={p.main with body:=ks.filterMap λi=>p.main.body[i]?}}
def Qv:Program:=zqb PySem.Challenge.rw_swornhall_k13_loosened.row.toRowW.prog [0,2,3,4,5,6,8,9,10,11,12,13,14,15,16,17,18,19,20,21,22,23,24,25,26,27,28,29,30,31,32,33,34,35,37,38,39,40,41,43,44,45,46,47,48,49,50,51,52,53,54,55,56,57,58,59,60,61,63,64,65,67,68,69,70,71,72,73,74,75,76,77,78,79,80,81,82,83,84]
abbrev nI (K:Fg) (s:Str) (n:Addr):Bool:=PySem.W.nsIn K mainGlobals s == some (some (.ref n))
abbrev fI (K:Fg) (c:Addr) (s:Str) (n:Addr):Bool:=PySem.W.findIn K (.ref c) s == some (some (.ref n))
abbrev gS (n q:Str) (d:Stmt):Option L2.Sig:=some (L2.zo7 n q (zdU d) (zcY d) (zai d))
def zBo1 (K:Fg):List Bool:=[nI K "Craft" 56,
 nI K "HallError" 178,
 nI K "BadSheet" 191,
 nI K "NoCraft" 203,
 nI K "Unmet" 215,
 nI K "NotShown" 227,
 nI K "Hall" 431,
 nI K "copied_lines" 65,
 L2.zar K 65 "copied_lines",
 nI K "copied_deed" 70,
 L2.zar K 70 "copied_deed",
 fI K 56 "__init__" 53,
 PySem.W.isFn K (.ref 53),
 L2.zar K 53 "Craft.__init__",
 nI K "bare" 26,
 L2.zar K 26 "bare",
 nI K "summed" 31,
 L2.zar K 31 "summed",
 nI K "turned" 38,
 L2.zar K 38 "turned",
 nI K "copied_craft" 77,
 L2.zar K 77 "copied_craft",
 nI K "called_by" 82,
 L2.zar K 82 "called_by",
 nI K "between" 163,
 L2.zar K 163 "between",
 nI K "small_enough" 156,
 L2.zar K 156 "small_enough",
 nI K "line_right" 116,
 L2.zar K 116 "line_right",
 nI K "lines_right" 111,
 L2.zar K 111 "lines_right",
 nI K "oath_right" 96,
 L2.zar K 96 "oath_right",
 nI K "hand_right" 149,
 L2.zar K 149 "hand_right",
 nI K "two_hands_right" 142,
 L2.zar K 142 "two_hands_right",
 nI K "call_right" 137,
 L2.zar K 137 "call_right",
 nI K "range_right" 130,
 L2.zar K 130 "range_right",
 nI K "deed_right" 123,
 L2.zar K 123 "deed_right",
 nI K "deeds_right" 101,
 L2.zar K 101 "deeds_right",
 nI K "notes_right" 106,
 L2.zar K 106 "notes_right",
 nI K "right" 89,
 L2.zar K 89 "right",
 nI K "due_at" 168,
 L2.zar K 168 "due_at",
 nI K "eight_with" 294,
 L2.zar K 294 "eight_with",
 nI K "each_from" 284,
 L2.zar K 284 "each_from",
 nI K "all_turned" 289,
 L2.zar K 289 "all_turned",
 nI K "constant" 301,
 L2.zar K 301 "constant",
 nI K "first_duties" 244,
 L2.zar K 244 "first_duties",
 nI K "call_duties" 279,
 L2.zar K 279 "call_duties",
 nI K "part_duties" 258,
 L2.zar K 258 "part_duties",
 nI K "draw_duties" 265,
 L2.zar K 265 "draw_duties",
 nI K "turn_duties" 272,
 L2.zar K 272 "turn_duties",
 nI K "deed_duties" 251,
 L2.zar K 251 "deed_duties",
 nI K "duties" 237,
 L2.zar K 237 "duties",
 nI K "shows" 306,
 L2.zar K 306 "shows",
 nI K "noughts_and_ones" 318,
 L2.zar K 318 "noughts_and_ones",
 nI K "sought" 313,
 L2.zar K 313 "sought",
 fI K 431 "__init__" 332,
 PySem.W.isFn K (.ref 332),
 L2.zar K 332 "Hall.__init__",
 fI K 431 "release" 421,
 PySem.W.isFn K (.ref 421),
 L2.zar K 421 "Hall.release",
 fI K 431 "called_at" 414,
 PySem.W.isFn K (.ref 414),
 L2.zar K 414 "Hall.called_at",
 fI K 431 "release_callers" 428,
 PySem.W.isFn K (.ref 428),
 L2.zar K 428 "Hall.release_callers",
 nI K "same_oath" 442,
 L2.zar K 442 "same_oath",
 fI K 431 "lay" 339,
 PySem.W.isFn K (.ref 339),
 L2.zar K 339 "Hall.lay",
 fI K 431 "must_stand" 400,
 PySem.W.isFn K (.ref 400),
 L2.zar K 400 "Hall.must_stand",
 fI K 431 "tear" 346,
 PySem.W.isFn K (.ref 346),
 L2.zar K 346 "Hall.tear",
 nI K "all_shown" 447,
 L2.zar K 447 "all_shown",
 fI K 431 "duties_at" 407,
 PySem.W.isFn K (.ref 407)]
def zBo2 (K:Fg):List Bool:=[L2.zar K 407 "Hall.duties_at",
 fI K 431 "vouch" 367,
 PySem.W.isFn K (.ref 367),
 L2.zar K 367 "Hall.vouch",
 fI K 431 "seek" 372,
 PySem.W.isFn K (.ref 372),
 L2.zar K 372 "Hall.seek",
 fI K 431 "held" 379,
 PySem.W.isFn K (.ref 379),
 L2.zar K 379 "Hall.held",
 nI K "_law_mix" 461,
 L2.zar K 461 "_law_mix",
 nI K "_law_cell_at" 454,
 L2.zar K 454 "_law_cell_at",
 nI K "_law_number" 468,
 L2.zar K 468 "_law_number",
 nI K "_law_free" 478,
 L2.zar K 478 "_law_free",
 nI K "_law_other_deed" 485,
 L2.zar K 485 "_law_other_deed",
 nI K "_law_second_deed" 499,
 L2.zar K 499 "_law_second_deed",
 nI K "_law_first_deed" 492,
 L2.zar K 492 "_law_first_deed",
 nI K "_law_bare" 473,
 L2.zar K 473 "_law_bare",
 nI K "_law_sworn_parts" 504,
 L2.zar K 504 "_law_sworn_parts",
 nI K "_law_hall_parts" 509,
 L2.zar K 509 "_law_hall_parts",
 nI K "_law_laid" 528,
 L2.zar K 528 "_law_laid",
 nI K "_law_told" 516,
 L2.zar K 516 "_law_told",
 nI K "_law_same" 547,
 L2.zar K 547 "_law_same",
 nI K "_law_other" 540,
 L2.zar K 540 "_law_other",
 nI K "_law_calls" 521,
 L2.zar K 521 "_law_calls",
 nI K "_law_loosen" 535,
 L2.zar K 535 "_law_loosen",
 nI K "_law_done" 554,
 L2.zar K 554 "_law_done",
 nI K "law" 559,
 L2.zar K 559 "law",
 PySem.W.nsIn K mainGlobals "all"== some none,
 PySem.W.nsIn K mainGlobals "any"== some none,
 PySem.W.nsIn K mainGlobals "bool"== some none,
 PySem.W.nsIn K mainGlobals "int"== some none,
 PySem.W.nsIn K mainGlobals "isinstance"== some none,
 PySem.W.nsIn K mainGlobals "len"== some none,
 PySem.W.nsIn K mainGlobals "list"== some none,
 PySem.W.nsIn K mainGlobals "max"== some none,
 PySem.W.nsIn K mainGlobals "min"== some none,
 PySem.W.nsIn K mainGlobals "range"== some none,
 PySem.W.nsIn K mainGlobals "reversed"== some none,
 PySem.W.nsIn K mainGlobals "tuple"== some none,
 PySem.W.nsIn K mainGlobals "zip"== some none,
 PySem.W.nsIn K mainGlobals "NUMBERS"== some (some (.int 9 196)),
 PySem.W.nsIn K mainGlobals "FACTORS"== some (some (.int 8 198)),
 nI K "HAND_SPOTS" 39,
 L2.zhx K 39 [(.int 1 223),(.int 2 224),(.int 3 225),(.int 4 226)],
 nI K "LEFT_SPOTS" 40,
 L2.zhx K 40 [(.int 7 228),(.int 8 229)],
 nI K "LEFT_AS_HANDS" 41,
 L2.zhx K 41 [(.int 0 231),(.int 1 232),(.int 2 233),(.int 3 234),(.int 4 235),(.int 5 236),(.int 0 237),(.int 1 238)],
 PySem.W.nsIn K mainGlobals "MOST_LINES"== some (some (.int 2 240)),
 PySem.W.nsIn K mainGlobals "MOST_DEEDS"== some (some (.int 8 242)),
 PySem.W.nsIn K mainGlobals "LAST_HAND"== some (some (.int 3 244)),
 PySem.W.nsIn K mainGlobals "LAST_NUMBER"== some (some (.int 99 246)),
 PySem.W.nsIn K mainGlobals "GREATEST_BY"== some (some (.int 1000 248)),
 PySem.W.nsIn K mainGlobals "GREATEST"== some (some (.int 1000000000 250)),
 PySem.W.nsIn K mainGlobals "ASKED_0"== some (some (.int 4 494)),
 PySem.W.nsIn K mainGlobals "ASKED_1"== some (some (.int 5 496)),
 PySem.W.nsIn K mainGlobals "NEW_0"== some (some (.int 6 498)),
 PySem.W.nsIn K mainGlobals "NEW_1"== some (some (.int 7 500)),
 nI K "WHOLES" 230,
 L2.zhx K 230 [(.int 1 502),(.int 2 503),(.int 3 504),(.int 4 505)],
 L2.zgj K 178 zbx "ValueError.__new__",
 PySem.W.excIn K 178 zbx "ValueError.__new__",
 L2.zgj K 191 (.ref 178::zbx) "ValueError.__new__",
 PySem.W.excIn K 191 zbx "ValueError.__new__",
 L2.zgj K 203 (.ref 178::zbx) "ValueError.__new__",
 PySem.W.excIn K 203 zbx "ValueError.__new__",
 L2.zgj K 215 (.ref 178::zbx) "ValueError.__new__",
 PySem.W.excIn K 215 zbx "ValueError.__new__",
 L2.zgj K 227 (.ref 178::zbx) "ValueError.__new__",
 PySem.W.excIn K 227 zbx "ValueError.__new__",
 PySem.W.plainGet K 56 Str.empty,
 PySem.W.hasDictIn K 56,
 PySem.W.plainOver K 56,
 PySem.W.findIn K (.ref 56) "__setattr__"== some (some (.builtin "object.__setattr__")),
 PySem.W.makesIn K 56,
 PySem.W.keepIn K (.ref 56),
 PySem.W.findIn K (.ref 56) "needs"== some none,
 PySem.W.findIn K (.ref 56) "leaves"== some none,
 PySem.W.findIn K (.ref 56) "deeds"== some none,
 PySem.W.findIn K (.ref 56) "notes"== some none,
 PySem.W.plainGet K 431 Str.empty,
 PySem.W.hasDictIn K 431,
 PySem.W.plainOver K 431,
 PySem.W.findIn K (.ref 431) "__setattr__"== some (some (.builtin "object.__setattr__")),
 PySem.W.makesIn K 431,
 PySem.W.keepIn K (.ref 431),
 PySem.W.findIn K (.ref 431) "laid"== some none,
 PySem.W.findIn K (.ref 431) "vouched"== some none]
def zBoo (K:Fg):List Bool:=zBo1 K++zBo2 K
def zSee (K:Fg):List (Option L2.Sig):=[L2.zaU K 65,L2.zaU K 70,L2.zaU K 53,L2.zaU K 26,L2.zaU K 31,L2.zaU K 38,L2.zaU K 77,L2.zaU K 82,L2.zaU K 163,L2.zaU K 156,L2.zaU K 116,L2.zaU K 111,L2.zaU K 96,L2.zaU K 149,L2.zaU K 142,L2.zaU K 137,L2.zaU K 130,L2.zaU K 123,L2.zaU K 101,L2.zaU K 106,L2.zaU K 89,L2.zaU K 168,L2.zaU K 294,L2.zaU K 284,L2.zaU K 289,L2.zaU K 301,L2.zaU K 244,L2.zaU K 279,L2.zaU K 258,L2.zaU K 265,L2.zaU K 272,L2.zaU K 251,L2.zaU K 237,L2.zaU K 306,L2.zaU K 318,L2.zaU K 313,L2.zaU K 332,L2.zaU K 421,L2.zaU K 414,L2.zaU K 428,L2.zaU K 442,L2.zaU K 339,L2.zaU K 400,L2.zaU K 346,L2.zaU K 447,L2.zaU K 407,L2.zaU K 367,L2.zaU K 372,L2.zaU K 379,L2.zaU K 461,L2.zaU K 454,L2.zaU K 468,L2.zaU K 478,L2.zaU K 485,L2.zaU K 499,L2.zaU K 492,L2.zaU K 473,L2.zaU K 504,L2.zaU K 509,L2.zaU K 528,L2.zaU K 516,L2.zaU K 547,L2.zaU K 540,L2.zaU K 521,L2.zaU K 535,L2.zaU K 554,L2.zaU K 559]
def zSig:List (Option L2.Sig):=[gS "copied_lines" "copied_lines" zb4,
 gS "copied_deed" "copied_deed" zcj,
 gS "__init__" "Craft.__init__" zbp,
 gS "bare" "bare" ziz,
 gS "summed" "summed" ze1,
 gS "turned" "turned" zf0,
 gS "copied_craft" "copied_craft" zcG,
 gS "called_by" "called_by" zdc,
 gS "between" "between" ze2,
 gS "small_enough" "small_enough" zcH,
 gS "line_right" "line_right" zch,
 gS "lines_right" "lines_right" zcm,
 gS "oath_right" "oath_right" zdn,
 gS "hand_right" "hand_right" zdq,
 gS "two_hands_right" "two_hands_right" zby,
 gS "call_right" "call_right" zdp,
 gS "range_right" "range_right" zc5,
 gS "deed_right" "deed_right" zdo,
 gS "deeds_right" "deeds_right" zck,
 gS "notes_right" "notes_right" zcl,
 gS "right" "right" zhQ,
 gS "due_at" "due_at" zex,
 gS "eight_with" "eight_with" zcP,
 gS "each_from" "each_from" zdd,
 gS "all_turned" "all_turned" zcO,
 gS "constant" "constant" zey,
 gS "first_duties" "first_duties" zcI,
 gS "call_duties" "call_duties" zda,
 gS "part_duties" "part_duties" zc7,
 gS "draw_duties" "draw_duties" zc8,
 gS "turn_duties" "turn_duties" zc9,
 gS "deed_duties" "deed_duties" zc6,
 gS "duties" "duties" zf1,
 gS "shows" "shows" zed,
 gS "noughts_and_ones" "noughts_and_ones" za9,
 gS "sought" "sought" zf2,
 gS "__init__" "Hall.__init__" zcn,
 gS "release" "Hall.release" zcJ,
 gS "called_at" "Hall.called_at" zca,
 gS "release_callers" "Hall.release_callers" zbm,
 gS "same_oath" "same_oath" zdX,
 gS "lay" "Hall.lay" zez,
 gS "must_stand" "Hall.must_stand" zbX,
 gS "tear" "Hall.tear" zdV,
 gS "all_shown" "all_shown" zde,
 gS "duties_at" "Hall.duties_at" zb9,
 gS "vouch" "Hall.vouch" zdr,
 gS "seek" "Hall.seek" zcA,
 gS "held" "Hall.held" zdW,
 gS "_law_mix" "_law_mix" zhR,
 gS "_law_cell_at" "_law_cell_at" zdY,
 gS "_law_number" "_law_number" zeA,
 gS "_law_free" "_law_free" ze4,
 gS "_law_other_deed" "_law_other_deed" zcK,
 gS "_law_second_deed" "_law_second_deed" zco,
 gS "_law_first_deed" "_law_first_deed" zcL,
 gS "_law_bare" "_law_bare" ze3,
 gS "_law_sworn_parts" "_law_sworn_parts" za6,
 gS "_law_hall_parts" "_law_hall_parts" zbN,
 gS "_law_laid" "_law_laid" zf4,
 gS "_law_told" "_law_told" zf3,
 gS "_law_same" "_law_same" zf5,
 gS "_law_other" "_law_other" zdJ,
 gS "_law_calls" "_law_calls" zee,
 gS "_law_loosen" "_law_loosen" zeB,
 gS "_law_done" "_law_done" zf6,
 gS "law" "law" zhS]
def HK:PySem.W.Hook:=L2.eHook (List.range 560) (λK=>((zBoo K).all id,zSee K)) (true,zSig)
set_option maxRecDepth 1000000 in
set_option maxHeartbeats 0 in
theorem said0:OpenLaw.wellSaid PySem.Challenge.rw_swornhall_k13_loosened=true:=by
 rw[PySem.W.Fast.te9446332074065402090]
 kernel_rfl
set_option maxRecDepth 1000000 in
set_option maxHeartbeats 0 in
theorem _root_.PySem.Challenge.hd_swornhall_k13_loosened (q:∀ (d:DefRec) (kwd:List (Str × PySem.Expr)),defOf My.Qv PySem.Challenge.rw_swornhall_k13_loosened.row.name=some (d,kwd)→WalkO My.Qv [] (XL My.Qv []) (Hook.says My.HK) PySem.Challenge.rw_swornhall_k13_loosened.row.toRowW d kwd λf vs=>PySem.call f vs):PySem.Challenge.rw_swornhall_k13_loosened.Holds:=by
 refine holds_law My.said0 λsaid=>?_
 have h:=q _ _ rfl
 refine (λ(_:type_of% h)=>?m) ?hc
 rotate_left
 exact h
 o_head My.HK
 case hw=>w_witness2
end
end My
namespace L2
open PySem PySem.Spec PyProof.Rows

abbrev Key:=Sum Int Str
def zjR:Key→Value→Bool
 | .inl k,v=>Value.isInt k v
 | .inr x,v=>Value.isStrOf x v
def keyH (w:World):Key→Int
 | .inl k=>hashInt k
 | .inr x=>hashStr w x
theorem zbt:∀ {k:Key}{v:Value},zjR k v=true→(∃ i t,k=Sum.inl i∧v=Value.int i t)∨(∃ x t,k=Sum.inr x∧v=Value.str x t)
 | .inl i,v,h=>by
  obtain⟨t,e⟩:=Value.isInt_shape (k:=i) (v:=v) h
  exact .inl ⟨i,t,rfl,e⟩
 | .inr x,v,h=>by
  obtain⟨t,e⟩:=Value.isStrOf_shape (x:=x) (v:=v) h
  exact .inr ⟨x,t,rfl,e⟩
theorem zlL (i:Int) (t:Tok):zjR (.inl i) (.int i t)=true:=by simp[zjR,Value.isInt]
theorem zlM (x:Str) (t:Tok):zjR (.inr x) (.str x t)=true:=by simp[zjR,Value.isStrOf]
theorem zqc (a b:Int):decide ((Sum.inl a:Key)=Sum.inl b)=(a == b):=by
 by_cases e:a=b
 ·subst e;simp
 ·have h:¬ (Sum.inl a:Key)=Sum.inl b:=λq=>e (Sum.inl.inj q)
  rw[decide_eq_false h]
  exact (beq_eq_false_iff_ne.mpr e).symm
theorem zqd (a b:Str):decide ((Sum.inr a:Key)=Sum.inr b)=decide (a=b):=by
 by_cases e:a=b
 ·subst e;simp
 ·have h:¬ (Sum.inr a:Key)=Sum.inr b:=λq=>e (Sum.inr.inj q)
  rw[decide_eq_false h,decide_eq_false e]
theorem zqe (a:Int) (b:Str):decide ((Sum.inl a:Key)=Sum.inr b)=false:=decide_eq_false (λq=>nomatch q)
theorem zqf (a:Str) (b:Int):decide ((Sum.inr a:Key)=Sum.inl b)=false:=decide_eq_false (λq=>nomatch q)
def zbu (prog:Program) (w:World):PySem.KeyKind prog w Key where
 is:=zjR
 hash:=keyH w
 inj:=λv a b ha hb=>by
  rcases zbt ha with ⟨i,t,rfl,rfl⟩ | ⟨x,t,rfl,rfl⟩
  ·rcases zbt hb with ⟨j,u,rfl,e⟩ | ⟨y,u,rfl,e⟩
   ·injection e with e1 _;rw[e1]
   ·exact nomatch e
  ·rcases zbt hb with ⟨j,u,rfl,e⟩ | ⟨y,u,rfl,e⟩
   ·exact nomatch e
   ·injection e with e1 _;rw[e1]
 byValue:=λk v h=>by
  rcases zbt h with ⟨i,t,rfl,rfl⟩ | ⟨x,t,rfl,rfl⟩ <;> rfl
 pyHash:=λhv h=>by
  rcases zbt hv with ⟨i,t,rfl,rfl⟩ | ⟨x,t,rfl,rfl⟩
  ·exact wpAny_pyHash_int h
  ·exact wpAny_pyHash_str h
 eqBool:=λhu hv h=>by
  rcases zbt hu with ⟨i,t,rfl,rfl⟩ | ⟨x,t,rfl,rfl⟩
  ·rcases zbt hv with ⟨j,u,rfl,rfl⟩ | ⟨y,u,rfl,rfl⟩
   ·rw[zqc] at h;exact wpAny_eqBool_int h
   ·rw[zqe] at h;exact SeqAt.EqAt.int_str i t y u _ _ _ _ h
  ·rcases zbt hv with ⟨j,u,rfl,rfl⟩ | ⟨y,u,rfl,rfl⟩
   ·rw[zqf] at h;exact SeqAt.EqAt.str_int x t j u _ _ _ _ h
   ·rw[zqd] at h;exact wpAny_eqBool_str h
 «strs»:=λk x t v h=>by
  rcases zbt h with ⟨i,u,rfl,e⟩ | ⟨y,u,rfl,e⟩
  ·exact nomatch e
  ·injection e with e1 _
   subst e1
   cases v <;> rfl
theorem zjS (prog:Program) (w:World) (i:Int) (t:Tok):(zbu prog w).is (.inl i) (.int i t)=true:=zlL i t
theorem zjT (prog:Program) (w:World) (x:Str) (t:Tok):(zbu prog w).is (.inr x) (.str x t)=true:=zlM x t
end L2

namespace L2
open PySem PySem.Spec PyProof.Rows

inductive V where
 | non | bl (b:Bool) | int (i:Int) | str (x:Str) | byt (b:Array UInt8) | flt (b:UInt64) | ref (a:Addr) | ty (n:String)
 deriving DecidableEq
def RelV:V→Value→Prop
 | .non,u=>u=Value.none
 | .bl b,u=>u=Value.bool b
 | .int i,u=>∃ t,u=Value.int i t
 | .str x,u=>∃ t,u=Value.str x t
 | .byt b,u=>∃ t,u=Value.bytes b t
 | .flt b,u=>∃ t,u=Value.float b t
 | .ref a,u=>u=Value.ref a
 | .ty n,u=>u=Value.type n
abbrev Vals:List V→List Value→Prop:=Paired RelV
theorem Vals.length {xs:List V}{us:List Value}(r:Vals xs us):xs.length=us.length:=Paired.length r
theorem Vals.get:∀ {xs:List V}{us:List Value}{i:Nat}{x:V},Vals xs us→xs[i]?=some x→∃ u,us[i]?=some u∧RelV x u
 | _,_,_,_,.nil,e=>by simp at e
 | _,_,0,_,.cons r _,e=>by simp at e;subst e;exact⟨_,rfl,r⟩
 | _,_,i+1,x,.cons _ t,e=>by
  obtain⟨u,h1,h2⟩:=Vals.get (i:=i) (x:=x) t (by simpa using e)
  exact⟨u,by simpa using h1,h2⟩
theorem Vals.set {x:V}{u:Value}(r:RelV x u):∀ {xs:List V}{us:List Value}(i:Nat),Vals xs us→Vals (xs.set i x) (us.set i u)
 | _,_,_,.nil=>.nil
 | _,_,0,.cons _ t=>.cons r t
 | _,_,i+1,.cons q t=>.cons q (Vals.set r i t)
theorem Vals.append:∀ {xs ys:List V}{us ws:List Value},Vals xs us→Vals ys ws→Vals (xs++ys) (us++ws)
 | _,_,_,_,.nil,s=>s
 | _,_,_,_,.cons r t,s=>.cons r (Vals.append t s)
theorem Vals.take:∀ {xs:List V}{us:List Value}(n:Nat),Vals xs us→Vals (xs.take n) (us.take n)
 | _,_,0,_=>.nil
 | _,_,_+1,.nil=>.nil
 | _,_,n+1,.cons r t=>.cons r (Vals.take n t)
theorem Vals.drop:∀ {xs:List V}{us:List Value}(n:Nat),Vals xs us→Vals (xs.drop n) (us.drop n)
 | _,_,0,r=>r
 | _,_,_+1,.nil=>.nil
 | _,_,n+1,.cons _ t=>Vals.drop n t
theorem Vals.none_of:∀ {xs:List V}{us:List Value}{i:Nat},Vals xs us→xs[i]?=none→us[i]?=none:=λ{xs us i} r e=>by
 have h1:=r.length
 have h2:xs.length≤i:=List.getElem?_eq_none_iff.mp e
 exact List.getElem?_eq_none_iff.mpr (by omega)
def RelO:Option V→Option Value→Prop
 | some v,some u=>RelV v u
 | none,none=>True
 | _,_=>False
def KV {κ:Type} : List (κ × V)→List (κ × Value)→Prop:=Paired λ(p:κ × V) (q:κ × Value)=>p.1=q.1∧RelV p.2 q.2
def kV:Key→V
 | .inl i=>.int i
 | .inr x=>.str x
inductive HO where
 /-- a list -/
 | lst (xs:List V)
 /-- a tuple (never changes) -/
 | tup (xs:List V)
 /-- a dict whose keys are ints and texts;one whose keys are tuples of ints and texts (the empty one is both) -/
 | dK (kvs:List (Key × V)) | dT (kvs:List (List Key × V))
 /-- a set of ints: its members,its size -/
 | set (S:Int→Bool) (n:Nat)
 /-- an instance of the class at C,its dict at dx,its attributes -/
 | ins (C dx:Addr) (fs:List (Str × V))
 /-- the dict of the instance at x -/
 | own (x:Addr)
 /-- the dict of an exception -/
 | xd (fs:List (Str × V))
 /-- a bound method,f of x -/
 | met (f x:Addr)
 /-- a range object lo,lo+1,.. below hi -/
 | rng (lo hi:Int)
 /-- a thing that is known to the object (the script;a dict while a loop walks it): read,never written while it is so -/
 | frz (o:Obj) (u:HO)
 /-- a code object's table -/
 | tbl (ps:Array Value)
 /-- any other thing,by what is true of its one object (a def of one's own: SetO a S n:=HO.ext λh=>..) -/
 | ext (φ:Heap→Prop)
abbrev Hp:=Addr→Option HO
def upd (H:Hp) (a:Addr) (o:HO):Hp:=λb=>if b=a then some o else H b
theorem zad {H:Hp}{a:Addr}{o:HO} : upd H a o a=some o:=by unfold upd;rw[if_pos rfl]
theorem zaq {H:Hp}{a b:Addr}{o:HO}(h:b≠a):upd H a o b=H b:=by unfold upd;rw[if_neg h]
theorem znz {H:Hp}{a b:Addr}{o u:HO}(h:H a=some o) (h':H b=some u) (d:o≠u):a≠b:=by
 intro e;subst e;rw[h] at h';exact d (Option.some.inj h')
theorem zaM {H:Hp}{a b:Addr}{o:HO}(h:H a=some o) (h':H b=none):a≠b:=by
 intro e;subst e;rw[h] at h';cases h'
section
variable (P:Program)(w:World)
def zb5 (H:Hp) (h:Heap) (a:Addr):HO→Prop
 | .lst xs=>xs.length≤sizeLine∧∃ (its:List Value) (n:Nat),Vals xs its∧h.get? a=some {cls:=.type "list",data:=.seq its.toArray n}
 | .tup xs=>xs.length≤sizeLine∧∃ its:List Value,Vals xs its∧IsTup h a its.toArray
 | .dK kvs=>kvs.length≤sizeLine∧(a == sysModules)=false∧∃ vs,KV kvs vs∧h.DictOf (zbu P w) a vs
 | .dT kvs=>kvs.length≤sizeLine∧(a == sysModules)=false∧∃ xs:List (List Key × Addr × Value),
   Paired (λ(p:List Key × V) (q:List Key × Addr × Value)=>p.1=q.1∧H q.2.1=some (.tup (p.1.map kV))∧RelV p.2 q.2.2) kvs xs∧
   ∃ o es ep,h.get? a=some o∧o.ExactDict∧o.data=.dict es ep∧es.toList=xs.map (entryOfKey (tupleKind (zbu P w)))∧(xs.map (·.1)).Nodup
 | .set S n=>h.SetOf (intKind P w) a S n
 | .ins C dx fs=>H dx=some (.own a)∧fs.length≤1000∧dx≠a∧h.get? a=some (PySem.W.instObj C dx)∧
   ∃ mA,h.Ns1 dx mA∧(∀ f,RelO (fs.lookup f) (mA f))∧PySem.Within mA (fs.map (·.1))
 | .own _=>∃ o,h.get? a=some o
 | .xd fs=>∃ mA,h.Ns1 a mA∧∀ f,RelO (fs.lookup f) (mA f)
 | .rng lo hi=>∃ t u v,h.get? a=some {cls:=.type "range",data:=.fields #[.int lo t,.int hi u,.int 1 v]}
 | .frz o u=>h.get? a=some o∧zb5 H h a u
 | .tbl ps=>h.get? a=some {cls:=.none,data:=.fields ps}
 | .met f x=>h.get? a=some (PySem.W.methodObj (.ref f) (.ref x))
 | .ext φ=>φ h∧(∃ o,h.get? a=some o)∧∀ h1 h2:Heap,φ h1→(∀ o,h1.get? a=some o→h2.get? a=some o)→φ h2
def HOk (H:Hp) (h:Heap):Prop:=∀ a o,H a=some o→zb5 P w H h a o
end

section
variable {P:Program}{w:World}{H H':Hp}{h h':Heap}{a:Addr}{o:HO}
theorem zb5.lt (x:zb5 P w H h a o):a<h.objs.size:=by
 cases o with
 | lst xs=>obtain⟨_,_,_,_,e⟩:=x;exact Heap.lt_size e
 | tup xs=>obtain⟨_,_,_,p⟩:=x;exact p.lt
 | dK kvs=>obtain⟨_,_,_,_,o,_,_,e,_⟩:=x;exact Heap.lt_size e
 | dT kvs=>obtain⟨_,_,_,_,o,_,_,e,_⟩:=x;exact Heap.lt_size e
 | set S n=>obtain⟨o,_,_,_,e,_⟩:=x;exact Heap.lt_size e
 | ins C dx fs=>obtain⟨_,_,_,e,_⟩:=x;exact Heap.lt_size e
 | own y=>obtain⟨_,e⟩:=x;exact Heap.lt_size e
 | xd fs=>obtain⟨_,⟨_,_,_,e,_⟩,_⟩:=x;exact Heap.lt_size e
 | rng lo hi=>obtain⟨_,_,_,e⟩:=x;exact Heap.lt_size e
 | frz ob u=>obtain⟨e,_⟩:=x;exact Heap.lt_size e
 | tbl ps=>exact Heap.lt_size (show h.get? a=some _ from x)
 | met f y=>exact Heap.lt_size (show h.get? a=some _ from x)
 | ext φ=>obtain⟨_,⟨_,e⟩,_⟩:=x;exact Heap.lt_size e
theorem Paired.mapP {α β:Type}{F G:α→β→Prop} : ∀ {l₁:List α}{l₂:List β},Paired F l₁ l₂→(∀ a b,F a b→G a b)→Paired G l₁ l₂
 | _,_,.nil,_=>.nil
 | _,_,.cons r t,f=>.cons (f _ _ r) (Paired.mapP t f)
theorem zb5.stay (x:zb5 P w H h a o) (k:∀ b u,(b=a∨H b=some (.own a))→h.get? b=some u→h'.get? b=some u)
  (ho:∀ b,H b=some (.own a)→H' b=some (.own a)) (ht:∀ b xs,H b=some (.tup xs)→H' b=some (.tup xs)):zb5 P w H' h' a o:=by
 induction o with
 | lst xs=>obtain⟨z,its,n,r,e⟩:=x;exact⟨z,its,n,r,k _ _ (.inl rfl) e⟩
 | tup xs=>obtain⟨z,its,r,ob,e,c⟩:=x;exact⟨z,its,r,ob,k _ _ (.inl rfl) e,c⟩
 | dK kvs=>obtain⟨z,y,vs,r,ob,es,ep,e,c⟩:=x;exact⟨z,y,vs,r,ob,es,ep,k _ _ (.inl rfl) e,c⟩
 | dT kvs=>
  obtain⟨z,y,xs,r,ob,es,ep,e,c⟩:=x
  exact⟨z,y,xs,Paired.mapP r λp q z=>⟨z.1,ht _ _ z.2.1,z.2.2⟩,ob,es,ep,k _ _ (.inl rfl) e,c⟩
 | set S n=>obtain⟨ob,es,ep,t,e,c⟩:=x;exact⟨ob,es,ep,t,k _ _ (.inl rfl) e,c⟩
 | ins C dx fs=>
  obtain⟨d,z,ne,e,mA,⟨od,es,ep,e2,c⟩,r⟩:=x
  exact⟨ho _ d,z,ne,k _ _ (.inl rfl) e,mA,⟨od,es,ep,k _ _ (.inr d) e2,c⟩,r⟩
 | own y=>obtain⟨ob,e⟩:=x;exact⟨ob,k _ _ (.inl rfl) e⟩
 | xd fs=>obtain⟨mA,⟨od,es,ep,e,c⟩,r⟩:=x;exact⟨mA,⟨od,es,ep,k _ _ (.inl rfl) e,c⟩,r⟩
 | rng lo hi=>obtain⟨t,u,v,e⟩:=x;exact⟨t,u,v,k _ _ (.inl rfl) e⟩
 | frz ob u ih=>obtain⟨e,q⟩:=x;exact⟨k _ _ (.inl rfl) e,ih q⟩
 | tbl ps=>
  have e:h.get? a=some {cls:=.none,data:=.fields ps}:=x
  show h'.get? a=some {cls:=.none,data:=.fields ps}
  exact k a _ (.inl rfl) e
 | met f y=>
  have e:h.get? a=some (PySem.W.methodObj (.ref f) (.ref y)):=x
  show h'.get? a=some (PySem.W.methodObj (.ref f) (.ref y))
  exact k a _ (.inl rfl) e
 | ext φ=>obtain⟨p,⟨o,e⟩,st⟩:=x;exact⟨st _ _ p λo q=>k _ _ (.inl rfl) q,⟨o,k _ _ (.inl rfl) e⟩,st⟩
theorem HOk.lt (x:HOk P w H h) (e:H a=some o):a<h.objs.size:=(x a o e).lt
theorem HOk.fresh (x:HOk P w H h) (e:h.objs.size≤a):H a=none:=by
 cases q:H a with
 | none=>rfl
 | some u=>exact absurd (Nat.lt_of_lt_of_le (x.lt q) e) (Nat.lt_irrefl _)
theorem HOk.kept (x:HOk P w H h) (k:∀ b u,h.get? b=some u→h'.get? b=some u):HOk P w H h':=λa o e=>
 (x a o e).stay (λb u _ q=>k b u q) (λ_ q=>q) λ_ _ q=>q
theorem HOk.laid (x:HOk P w H h) (k:∀ b u,h.get? b=some u→h'.get? b=some u) (hp:h.objs.size≤a) (new:zb5 P w (upd H a o) h' a o):HOk P w (upd H a o) h':=λb u e=>by
 have hn:=x.fresh hp
 by_cases hb:b=a
 ·subst hb;rw[zad] at e;cases e;exact new
 ·rw[zaq hb] at e
  exact (x b u e).stay (λc v _ q=>k c v q) (λc q=>by rw[zaq (zaM q hn)];exact q) λc xs q=>by rw[zaq (zaM q hn)];exact q
end

def Rd (H:Hp) (a:Addr) (u:HO):Prop:=H a=some u∨∃ o,H a=some (.frz o u)
theorem Rd.ok {P:Program}{w:World}{H:Hp}{h:Heap}{a:Addr}{u:HO}(r:Rd H a u) (x:HOk P w H h):zb5 P w H h a u:=by
 rcases r with r | ⟨o,r⟩
 ·exact x a u r
 ·obtain⟨_,q⟩:=x a _ r
  exact q
def Mut:Option HO→Prop
 | some (.lst _)=>True
 | some (.dK _)=>True
 | some (.dT _)=>True
 | some (.set _ _)=>True
 | some (.ins _ _ _)=>True
 | some (.ext _)=>True
 | _=>False
section
variable {P:Program}{w:World}{H:Hp}{h h':Heap}{x e:Addr}{o':HO}
theorem HOk.write (ok:HOk P w H h) (mu:Mut (H x)) (he:e=x∨H e=some (.own x)) (k:∀ b u,b≠e→h.get? b=some u→h'.get? b=some u) (heo:∃ u,h'.get? e=some u)
  (new:zb5 P w (upd H x o') h' x o'):HOk P w (upd H x o') h':=λb u q=>by
 have nown:∀ c y,H c=some (.own y)→c≠x:=λc y r z=>by subst z;rw[r] at mu;exact mu
 have ntup:∀ c xs,H c=some (.tup xs)→c≠x:=λc xs r z=>by subst z;rw[r] at mu;exact mu
 by_cases hb:b=x
 ·subst hb;rw[zad] at q;cases q;exact new
 ·rw[zaq hb] at q
  by_cases hbe:b=e
  ·have q':H b=some (.own x):=by
    rcases he with z | z
    ·exact absurd (hbe.trans z) hb
    ·rw[hbe];exact z
   rw[q] at q';cases q'
   obtain⟨v,hv⟩:=heo
   exact⟨v,by rw[hbe];exact hv⟩
  ·refine (ok b u q).stay (λc v hc r=>k c v ?_ r) (λc r=>by rw[zaq (nown c b r)];exact r) λc xs r=>by rw[zaq (ntup c xs r)];exact r
   rcases hc with rfl | hc
   ·exact hbe
   ·rintro rfl
    rcases he with z | z
    ·exact nown c b hc z
    ·rw[hc] at z;cases z;exact hb rfl
end

structure Un (fs ex:List Addr) (H H':Hp) (h h':Heap):Prop where
 keep:∀ b o,h.get? b=some o→H b=none→b∉fs→b∉ex→h'.get? b=some o
 slot:∀ b o,h.get? b=some o→H b=none→b∈fs→b∉ex→∃ sl,h'.get? b=some {o with slots:=sl}
 free:∀ b o,h.get? b=some o→H b=none→b∉ex→H' b=none
 there:∀ b o,h.get? b=some o→b∉ex→∃ o',h'.get? b=some o'
 tups:∀ b xs,H b=some (.tup xs)→H' b=some (.tup xs)
 frzs:∀ b o u,H b=some (.frz o u)→H' b=some (.frz o u)
 tbls:∀ b ps,H b=some (.tbl ps)→∃ more,H' b=some (.tbl (ps++more))
section
variable {fs fs' ex ex':List Addr}{H H1 H2:Hp}{h h1 h2 h':Heap}{a x e:Addr}{o:HO}
theorem Un.any (u:Un fs ex H H1 h h1) {b:Addr}{ob:Obj}(q:h.get? b=some ob) (n:H b=none) (hx:b∉ex):∃ sl,h1.get? b=some {ob with slots:=sl}:=by
 by_cases hb:b∈fs
 ·exact u.slot b ob q n hb hx
 ·exact⟨ob.slots,u.keep b ob q n hb hx⟩
theorem Un.kept (k:∀ b u,h.get? b=some u→h'.get? b=some u):Un fs ex H H h h':=
 ⟨λb ob q _ _ _=>k b ob q,λb ob q _ _ _=>⟨ob.slots,k b ob q⟩,λ_ _ _ n _=>n,λb ob q _=>⟨ob,k b ob q⟩,λ_ _ q=>q,λ_ _ _ q=>q,λ_ ps q=>⟨#[],by rw[q];simp⟩⟩
theorem Un.refl:Un fs ex H H h h:=Un.kept λ_ _ q=>q
theorem Un.laid (k:∀ b u,h.get? b=some u→h'.get? b=some u) (hp:h.objs.size≤a) (hn:H a=none):Un fs ex H (upd H a o) h h' where
 keep:=λb u q _ _ _=>k b u q
 slot:=λb u q _ _ _=>⟨u.slots,k b u q⟩
 free:=λb u q n _=>by rw[zaq (Nat.ne_of_lt (Nat.lt_of_lt_of_le (Heap.lt_size q) hp))];exact n
 there:=λb u q _=>⟨u,k b u q⟩
 tups:=λb xs q=>by rw[zaq (zaM q hn)];exact q
 frzs:=λb u xs q=>by rw[zaq (zaM q hn)];exact q
 tbls:=λb ps q=>⟨#[],by rw[zaq (zaM q hn),q];simp⟩
theorem Un.write (mu:Mut (H x)) (he:e=x∨H e=some (.own x)) (k:∀ b u,b≠e→h.get? b=some u→h'.get? b=some u) (heo:∃ u,h'.get? e=some u):Un fs ex H (upd H x o) h h':=by
 have hx:∀ b,H b=none→b≠x:=λb n z=>by subst z;rw[n] at mu;exact mu
 have hb:∀ b,H b=none→b≠e:=λb n z=>by
  subst z
  rcases he with r | r
  ·exact hx b n r
  ·rw[n] at r;cases r
 have hm:∀ b u,H b=some u→¬ Mut (some u)→b≠x:=λb u q nm z=>by subst z;rw[q] at mu;exact nm mu
 refine⟨λb u q n _ _=>k b u (hb b n) q,λb u q n _ _=>⟨u.slots,k b u (hb b n) q⟩,λb u q n _=>by rw[zaq (hx b n)];exact n,λb u q _=>?_,
  λb xs q=>by rw[zaq (hm b _ q λz=>z)];exact q,λb u xs q=>by rw[zaq (hm b _ q λz=>z)];exact q,λb ps q=>⟨#[],by rw[zaq (hm b _ q λz=>z),q];simp⟩⟩
 by_cases hbe:b=e
 ·subst hbe;exact heo
 ·exact⟨u,k b u hbe q⟩
end

def trk (h:Heap) (H:Hp):List Addr:=(List.range h.objs.size).filter λa=>(H a).isSome
def hidT (h:Heap) (H:Hp):Heap:=PySem.W.hideAll h (trk h H)
theorem zlN (h:Heap) (H:Hp):(hidT h H).objs.size=h.objs.size:=PySem.W.hideAll_size _ _
theorem znA {h:Heap}{H:Hp}{b:Addr}{o:Obj}(e:h.get? b=some o) (n:H b=none):(hidT h H).get? b=some o:=
 PySem.W.hideAll_get _ e λhm=>by
  have q:(H b).isSome=true:=(List.mem_filter.mp hm).2
  rw[n] at q;simp at q
theorem zo8 {h:Heap}{H:Hp}{b:Addr}{o:Obj}(e:(hidT h H).get? b=some o):h.get? b=some o∧H b=none:=by
 have e':h.get? b=some o:=PySem.W.of_hideAll (trk h H) e
 refine⟨e',?_⟩
 cases q:H b with
 | none=>rfl
 | some x=>
  have hm:b∈trk h H:=List.mem_filter.mpr ⟨List.mem_range.mpr (Heap.lt_size e'),by simp[q]⟩
  have z:(hidT h H).get? b=none:=PySem.W.hideAll_none (trk h H) hm
  rw[z] at e;cases e
end L2

namespace L2
open PySem PySem.Spec PyProof.Rows

structure Mod (K:Fg) (mg:Str→Option Value) (base:Heap):Prop where
 kin:K.In base
 glob:base.Ns mainGlobals mg
 blt:∃ mb,base.Ns builtinsNs mb∧∀ x:Str,x≠ "__name__" →mb x=bootBuiltins x
 nolimit:base.NoLimit
structure Cx where
 prog:Program
 w:World
 K:Fg
 mg:Str→Option Value
 base:Heap
 A:Around
 N:List Str
 s₀:Shared
 H₀:Hp
 env:Env
 outer:List Env
 stack:List Env
 ex:List Addr
 fn:Str→Bool
 calm:Bool
 pn:List (Addr × Obj)
 xe:Value→Shared→Prop
def frs (l:List Env):List Addr:=l.filterMap (·.frame)
abbrev Cx.fs (X:Cx):List Addr:=frs X.outer
def Vis (sc:Scope) (x:Str):Prop:=sc.names.lookup x=some .local∨sc.names.lookup x=some .cell∨sc.names.lookup x=some .free
def Loc (sc:Scope) (x:Str):Prop:=sc.names.lookup x=some .local∨sc.names.lookup x=some .cell
def Look (env:Env) (h:Heap) (m:Str→Option Value) (x:Str) (u:Value):Prop:=
 (env.kindOf x=some .local∧m x=some u)∨((env.kindOf x=some .cell∨env.kindOf x=some .free)∧∃ c,env.cells.lookup x=some c∧h.IsCell c (some u))
structure Cx.Ok (X:Cx):Prop where
 mod:Mod X.K X.mg X.base
 kind:X.env.scope.kind=.function
 glob:X.env.globals=mainGlobals
 blt:X.env.builtins=builtinsNs
 above:X.s₀.heap.objs.size≤X.env.locals
 inj:∀ x y c,X.env.cells.lookup x=some c→X.env.cells.lookup y=some c→x=y
 has:∀ x,(X.env.kindOf x=some .cell∨X.env.kindOf x=some .free)→∃ c,X.env.cells.lookup x=some c
 cab:∀ x c,X.fn x=true→X.env.cells.lookup x=some c→X.s₀.heap.objs.size≤c
 hd:X.calm=true→X.A.handled=none
 frames:X.A.frames=some X.stack
 stk:X.stack=X.outer∨(X.stack=X.env::X.outer∧X.env.frame=some X.env.locals)
 exf:∀ b∈X.ex,b≠X.env.locals∧∀ x c,X.env.cells.lookup x=some c→c≠b
 bs:∀ b o,X.base.get? b=some o→X.s₀.heap.get? b=some o∧X.H₀ b=none
 bsz:X.base.objs.size≤X.s₀.heap.objs.size
 noex:∀ b o,X.base.get? b=some o→b∉X.ex
 exfs:∀ b∈X.ex,b∉X.fs
 funs:X.s₀.heap.FunFrames X.base X.outer
 frf:∀ b∈X.fs,X.H₀ b=none
structure Inv (X:Cx) (pins:List (Addr × Obj)) (σ:List (Option V)) (H:Hp) (s:Shared):Prop where
 ok:X.Ok
 os:s.os=X.s₀.os
 bare:AllBare s.gens
 base:Un X.fs X.ex X.H₀ H X.s₀.heap s.heap
 loc:∃ m,s.heap.Ns X.env.locals m∧∀ (i:Nat) (x:Str) (v:V),X.N[i]?=some x→σ[i]?=some (some v)→Vis X.env.scope x→∃ u,RelV v u∧Look X.env s.heap m x u
 cell:∀ x c,X.env.cells.lookup x=some c→∃ v,s.heap.IsCell c v
 free:H X.env.locals=none
 freeC:∀ x c,X.env.cells.lookup x=some c→H c=none
 pin:∀ p∈X.pn++pins,s.heap.get? p.1=some p.2∧H p.1=none∧p.1≠X.env.locals∧p.1∉X.fs∧∀ v,p.2.data≠.cell v
 hok:HOk X.prog X.w H s.heap
 len:σ.length=X.N.length
section
variable {X:Cx}{pins:List (Addr × Obj)}{σ:List (Option V)}{H H':Hp}{s:Shared}{h':Heap}

theorem Cx.Ok.nofr (ok:X.Ok) {b:Addr}{o:Obj}(e:X.base.get? b=some o):b∉X.fs:=λhb=>by
 have:=(ok.funs.mem hb).1
 rw[e] at this;cases this
theorem Inv.bs (I:Inv X pins σ H s):∀ b o,X.base.get? b=some o→s.heap.get? b=some o∧H b=none:=λb o e=>
 ⟨I.base.keep b o (I.ok.bs b o e).1 (I.ok.bs b o e).2 (I.ok.nofr e) (I.ok.noex b o e),I.base.free b o (I.ok.bs b o e).1 (I.ok.bs b o e).2 (I.ok.noex b o e)⟩
theorem Inv.bk (I:Inv X pins σ H s):∀ b o,X.base.get? b=some o→s.heap.get? b=some o:=λb o e=>(I.bs b o e).1
theorem Inv.mod (I:Inv X pins σ H s):Mod X.K X.mg X.base:=I.ok.mod
theorem Inv.kIn (I:Inv X pins σ H s):X.K.In s.heap:=I.ok.mod.kin.keeps I.bk
theorem Inv.lt (I:Inv X pins σ H s):X.env.locals<s.heap.objs.size:=let ⟨_,hn,_⟩:=I.loc;hn.lt
theorem Inv.sz (I:Inv X pins σ H s):X.s₀.heap.objs.size≤s.heap.objs.size:=Nat.le_trans I.ok.above (Nat.le_of_lt I.lt)
theorem Inv.nofs (I:Inv X pins σ H s) {a:Addr}(h:s.heap.objs.size≤a):a∉X.fs:=λhb=>by
 obtain⟨_,o,ho,_⟩:=I.ok.funs.mem hb
 exact absurd (Nat.lt_of_lt_of_le (Heap.lt_size ho) (Nat.le_trans I.sz h)) (Nat.lt_irrefl _)
theorem Inv.cne (I:Inv X pins σ H s):∀ x c,X.env.cells.lookup x=some c→c≠X.env.locals:=λx c e z=>by
 obtain⟨v,o,ho,hd⟩:=I.cell x c e
 obtain⟨m,⟨o',es,ep,ho',hd',_⟩,_⟩:=I.loc
 rw[z,ho'] at ho;cases ho;rw[hd'] at hd;cases hd
theorem Inv.funs (I:Inv X pins σ H s):s.heap.FunFrames X.base X.outer:=by
 have all:∀ (l:List Env),(∀ b∈frs l,b∈X.fs)→X.s₀.heap.FunFrames X.base l→s.heap.FunFrames X.base l:=by
  intro l
  induction l with
  | nil=>intro _ _;trivial
  | cons env r ih=>
   intro hs hl
   obtain⟨hk,⟨L,o,hf,hn,ho,hd⟩,hr⟩:=hl
   have hL:L∈X.fs:=hs L (by unfold frs;rw[List.filterMap_cons,hf];exact List.mem_cons_self)
   obtain⟨sl,e⟩:=I.base.slot L o ho (I.ok.frf L hL) hL λz=>I.ok.exfs L z hL
   exact⟨hk,⟨L,_,hf,hn,e,hd⟩,ih (λb hb=>hs b (by unfold frs;rw[List.filterMap_cons,hf];exact List.mem_cons_of_mem _ hb)) hr⟩
 exact all X.outer (λ_ hb=>hb) I.ok.funs
theorem Inv.stack (I:Inv X pins σ H s):s.heap.FunFrames X.base X.stack:=by
 rcases I.ok.stk with e | ⟨e,hf⟩
 ·rw[e];exact I.funs
 ·rw[e]
  obtain⟨m,hn,_⟩:=I.loc
  refine .cons (by rw[I.ok.kind];decide) hf hn ?_ I.funs
  exact Heap.get?_none_of_le (Nat.le_trans I.ok.bsz I.ok.above)
theorem Inv.stkSub (I:Inv X pins σ H s):∀ b∈frs X.stack,b∈X.env.locals::X.fs:=λb hb=>by
 rcases I.ok.stk with e | ⟨e,hf⟩
 ·rw[e] at hb;exact List.mem_cons_of_mem _ hb
 ·rw[e] at hb
  unfold frs at hb
  rw[List.filterMap_cons,hf] at hb
  exact hb
theorem Inv.stkFree (I:Inv X pins σ H s):∀ b∈frs X.stack,H b=none:=λb hb=>by
 rcases List.mem_cons.mp (I.stkSub b hb) with e | hb
 ·rw[e];exact I.free
 ·obtain⟨_,o,ho,_⟩:=I.ok.funs.mem hb
  exact I.base.free b o ho (I.ok.frf b hb) λz=>I.ok.exfs b z hb
theorem Inv.step {g':Array GenState}{t':Nat}{d':Drawn}{ch:List Addr}(I:Inv X pins σ H s)
  (hch:∀ b∈ch,(b∈X.ex∨X.s₀.heap.objs.size≤b)∧b≠X.env.locals∧(∀ x c,X.env.cells.lookup x=some c→c≠b)∧∀ p∈X.pn++pins,p.1≠b)
  (keep:∀ b o,b≠X.env.locals→b∉X.fs→b∉ch→s.heap.get? b=some o→H b=none→h'.get? b=some o)
  (slot:∀ b o,b≠X.env.locals→b∈X.fs→b∉ch→s.heap.get? b=some o→H b=none→∃ sl,h'.get? b=some {o with slots:=sl}) (free:∀ b o,b∉ch→s.heap.get? b=some o→H b=none→H' b=none)
  (there:∀ b o,b∉ch→s.heap.get? b=some o→∃ o',h'.get? b=some o')
  (tups:∀ b xs,H b=some (.tup xs)→H' b=some (.tup xs)) (frzs:∀ b o u,H b=some (.frz o u)→H' b=some (.frz o u)) (tbls:∀ b ps,H b=some (.tbl ps)→∃ more,H' b=some (.tbl (ps++more)))
  (ns:∀ m,s.heap.Ns X.env.locals m→h'.Ns X.env.locals m) (hok:HOk X.prog X.w H' h') (hg:AllBare g') :
  Inv X pins σ H' {s with heap:=h',gens:=g',drawn:=d',toks:=t'}:=by
 have neL:∀ b o,X.s₀.heap.get? b=some o→b≠X.env.locals:=λb o e=>Nat.ne_of_lt (Nat.lt_of_lt_of_le (Heap.lt_size e) I.ok.above)
 have neC:∀ b o,X.s₀.heap.get? b=some o→b∉X.ex→b∉ch:=λb o e hx hb=>by
  rcases (hch b hb).1 with z | z
  ·exact hx z
  ·exact absurd (Nat.lt_of_lt_of_le (Heap.lt_size e) z) (Nat.lt_irrefl _)
 have cellK:∀ x c,X.env.cells.lookup x=some c→∀ v,s.heap.IsCell c v→h'.IsCell c v:=λx c e v ⟨o,ho,hd⟩=>by
  have nch:c∉ch:=λz=>(hch c z).2.2.1 x c e rfl
  by_cases hc:c∈X.fs
  ·obtain⟨sl,q⟩:=slot c o (I.cne x c e) hc nch ho (I.freeC x c e)
   exact⟨_,q,hd⟩
  ·exact⟨o,keep c o (I.cne x c e) hc nch ho (I.freeC x c e),hd⟩
 refine⟨I.ok,I.os,hg,⟨λb o e n hb hx=>?_,λb o e n hb hx=>?_,λb o e n hx=>?_,λb o e hx=>?_,λb xs e=>tups b xs (I.base.tups b xs e),λb o xs e=>frzs b o xs (I.base.frzs b o xs e),λb ps e=>?_⟩,?_,λx c e=>?_,?_,λx c e=>?_,λp hp=>?_,hok,I.len⟩
 ·exact keep b o (neL b o e) hb (neC b o e hx) (I.base.keep b o e n hb hx) (I.base.free b o e n hx)
 ·obtain⟨sl,e1⟩:=I.base.slot b o e n hb hx
  obtain⟨sl',e2⟩:=slot b _ (neL b o e) hb (neC b o e hx) e1 (I.base.free b o e n hx)
  exact⟨sl',e2⟩
 ·obtain⟨o',e1⟩:=I.base.there b o e hx
  exact free b o' (neC b o e hx) e1 (I.base.free b o e n hx)
 ·obtain⟨o',e1⟩:=I.base.there b o e hx
  exact there b o' (neC b o e hx) e1
 ·obtain⟨m1,e1⟩:=I.base.tbls b ps e
  obtain⟨m2,e2⟩:=tbls b _ e1
  exact⟨m1++m2,by rw[e2,Array.append_assoc]⟩
 ·obtain⟨m,hn,hl⟩:=I.loc
  refine⟨m,ns m hn,λi x v e1 e2 e3=>?_⟩
  obtain⟨u,r,l⟩:=hl i x v e1 e2 e3
  refine⟨u,r,?_⟩
  rcases l with l | ⟨k,c,e,z⟩
  ·exact .inl l
  ·exact .inr ⟨k,c,e,cellK x c e _ z⟩
 ·obtain⟨v,z⟩:=I.cell x c e
  exact⟨v,cellK x c e v z⟩
 ·obtain⟨m,⟨o,_,_,ho,_⟩,_⟩:=I.loc
  exact free _ o (λz=>(hch _ z).2.1 rfl) ho I.free
 ·obtain⟨v,o,ho,hd⟩:=I.cell x c e
  exact free c o (λz=>(hch c z).2.2.1 x c e rfl) ho (I.freeC x c e)
 ·obtain⟨e,n,ne,nf,d⟩:=I.pin p hp
  have nch:p.1∉ch:=λz=>(hch p.1 z).2.2.2 p hp rfl
  exact⟨keep p.1 p.2 ne nf nch e n,free p.1 p.2 nch e n,ne,nf,d⟩
theorem Inv.un {t':Nat}(I:Inv X pins σ H s) (u:Un X.fs [] H H' s.heap h') (hok:HOk X.prog X.w H' h'):Inv X pins σ H' {s with heap:=h',toks:=t'}:=by
 obtain⟨m,⟨o,es,ep,ho,r⟩,_⟩:=id I.loc
 obtain⟨sl,hL⟩:=u.any ho I.free (by simp)
 exact I.step (g':=s.gens) (d':=s.drawn) (ch:=[]) (λ_ z=>nomatch z) (λb o _ hb _ e n=>u.keep b o e n hb (by simp)) (λb o _ hb _ e n=>u.slot b o e n hb (by simp)) (λb o _ e n=>u.free b o e n (by simp)) (λb o _ e=>u.there b o e (by simp)) u.tups u.frzs u.tbls (λm' hm=>by
  obtain⟨o',es',ep',ho',r'⟩:=hm
  rw[ho] at ho';cases ho'
  exact⟨_,es',ep',hL,r'⟩) hok I.bare
theorem Inv.call {g':Array GenState}{t':Nat}{d':Drawn}{ch:List Addr}(I:Inv X pins σ H s) (u:Un (frs X.stack) ch H H' s.heap h') (hok:HOk X.prog X.w H' h') (hg:AllBare g')
  (hch:∀ b∈ch,(b∈X.ex∨X.s₀.heap.objs.size≤b)∧b≠X.env.locals∧(∀ x c,X.env.cells.lookup x=some c→c≠b)∧∀ p∈X.pn++pins,p.1≠b) :
  Inv X pins σ H' {s with heap:=h',gens:=g',drawn:=d',toks:=t'}:=by
 obtain⟨m,⟨o,es,ep,ho,r⟩,_⟩:=id I.loc
 obtain⟨sl,hL⟩:=u.any ho I.free λz=>(hch _ z).2.1 rfl
 exact I.step (ch:=ch) hch (λb o hL hb hc e n=>u.keep b o e n (λz=>(List.mem_cons.mp (I.stkSub b z)).elim hL hb) hc) (λb o _ _ hc e n=>u.any e n hc) (λb o hc e n=>u.free b o e n hc) (λb o hc e=>u.there b o e hc) u.tups u.frzs u.tbls (λm' hm=>by
  obtain⟨o',es',ep',ho',r'⟩:=hm
  rw[ho] at ho';cases ho'
  exact⟨_,es',ep',hL,r'⟩) hok hg
theorem Inv.turned {t':Nat}{it:Addr}(I:Inv X pins σ H s) (k:∀ b o,b≠it→s.heap.get? b=some o→h'.get? b=some o) (hn:H it=none) (hL:it≠X.env.locals)
  (h1:it∈X.ex∨X.s₀.heap.objs.size≤it) (h2:∀ x c,X.env.cells.lookup x=some c→c≠it) (h3:∀ p∈X.pn++pins,p.1≠it):Inv X pins σ H {s with heap:=h',toks:=t'}:=by
 have nit:∀ b u,H b=some u→b≠it:=λb u e z=>by rw[z,hn] at e;cases e
 refine I.step (g':=s.gens) (d':=s.drawn) (ch:=[it]) (λb hb=>?_) (λb o _ _ hc e _=>k b o (λz=>hc (by simp[z])) e) (λb o _ _ hc e _=>⟨o.slots,k b o (λz=>hc (by simp[z])) e⟩) (λ_ _ _ _ n=>n)
  (λb o hc e=>⟨o,k b o (λz=>hc (by simp[z])) e⟩) (λ_ _ e=>e) (λ_ _ _ e=>e) (λb ps e=>⟨#[],by rw[e];simp⟩) (λm hm=>?_) (λb u e=>?_) I.bare
 ·have e:b=it:=by simpa using hb
  subst e
  exact⟨h1,hL,h2,h3⟩
 ·obtain⟨o,es,ep,ho,r⟩:=hm
  exact⟨o,es,ep,k _ o (Ne.symm hL) ho,r⟩
 ·refine (I.hok b u e).stay (λc v hc q=>k c v ?_ q) (λ_ q=>q) λ_ _ q=>q
  rcases hc with z | z
  ·rw[z];exact nit b u e
  ·exact nit c _ z
theorem Inv.tok (I:Inv X pins σ H s) (t:Nat):Inv X pins σ H {s with toks:=t}:=I.un (h':=s.heap) (t':=t) Un.refl I.hok
theorem Inv.kept {t':Nat}(I:Inv X pins σ H s) (k:∀ b u,s.heap.get? b=some u→h'.get? b=some u):Inv X pins σ H {s with heap:=h',toks:=t'}:=I.un (Un.kept k) (I.hok.kept k)
theorem Inv.laid {a:Addr}{o:HO}{t':Nat}(I:Inv X pins σ H s) (k:∀ b u,s.heap.get? b=some u→h'.get? b=some u) (hp:s.heap.objs.size≤a) (new:zb5 X.prog X.w (upd H a o) h' a o) :
  Inv X pins σ (upd H a o) {s with heap:=h',toks:=t'}:=I.un (Un.laid k hp (I.hok.fresh hp)) (I.hok.laid k hp new)
theorem Inv.write {x e:Addr}{o:HO}{t':Nat}(I:Inv X pins σ H s) (mu:Mut (H x)) (he:e=x∨H e=some (.own x)) (k:∀ b u,b≠e→s.heap.get? b=some u→h'.get? b=some u) (heo:∃ u,h'.get? e=some u)
  (new:zb5 X.prog X.w (upd H x o) h' x o):Inv X pins σ (upd H x o) {s with heap:=h',toks:=t'}:=I.un (Un.write mu he k heo) (I.hok.write mu he k heo new)
theorem Inv.pins_of {pins':List (Addr × Obj)}(I:Inv X pins σ H s) (h:∀ p∈pins',s.heap.get? p.1=some p.2∧H p.1=none∧p.1≠X.env.locals∧p.1∉X.fs∧∀ v,p.2.data≠.cell v):Inv X pins' σ H s:=
 ⟨I.ok,I.os,I.bare,I.base,I.loc,I.cell,I.free,I.freeC,λp hp=>(zma.mp hp).elim (λz=>I.pin p (List.mem_append_left _ z)) (h p),I.hok,I.len⟩
theorem zkB {N:List Str}(hN:N.Nodup) {i j:Nat}{x:Str}(a:N[i]?=some x) (b:N[j]?=some x):i=j:=by
 obtain⟨h1,e1⟩:=zge.mp a
 obtain⟨h2,e2⟩:=zge.mp b
 exact (List.getElem_inj hN).mp (e1.trans e2.symm)
theorem ziA {M:Model}{A:Around}{E:Value→Shared→Prop}{i:Nat}{x:Str}{v:V}{u:Value}{Q:Unit→Shared→Prop}(I:Inv X pins σ H s) (hN:X.N.Nodup) (hi:X.N[i]?=some x) (hx:Loc X.env.scope x) (r:RelV v u)
  (h:∀ s',Inv X pins (σ.set i (some v)) H s'→(∃ a,Heap.SameBut a s.heap s'.heap∧(a=X.env.locals∨X.env.cells.lookup x=some a))→Q () s') (hf:X.fn x=true∨X.env.scope.names.lookup x=some .local:=by first | exact .inl rfl | exact .inr rfl | assumption):wpAny M A (storeName X.env x u) Q E s:=by
 obtain⟨m,hn,hl⟩:=id I.loc
 have hcls:(X.env.scope.kind == .class || (X.env.scope.kind == .module && X.env.locals != X.env.globals))=false:=by rw[I.ok.kind];rfl
 have hiσ:i<σ.length:=by rw[I.len];exact (zge.mp hi).1
 have cne:=I.cne
 have tracked:∀ {a:Addr}{h':Heap},(∃ o,s.heap.get? a=some o∧H a=none)→Heap.SameBut a s.heap h'→HOk X.prog X.w H h':=λ{a h'} ha hs b ob e=>by
  obtain⟨_,_,hfree⟩:=ha
  refine (I.hok b ob e).stay (λc w' hc q=>(hs.2 c ?_).trans q) (λ_ q=>q) λ_ _ q=>q
  rintro rfl
  rcases hc with rfl | hc
  ·rw[hfree] at e;cases e
  ·rw[hfree] at hc;cases hc
 rcases hx with hk | hk
 ·refine wpAny_storeName_local hk hn (λh' hn' hs=>?_) hcls
  obtain⟨oL,_,_,hoL,_⟩:=id hn
  refine h _ ⟨I.ok,I.os,I.bare,⟨λb o e n hb hx=>?_,λb o e n hb hx=>?_,I.base.free,λb o e hx=>?_,I.base.tups,I.base.frzs,I.base.tbls⟩,⟨_,hn',λj y v' e1 e2 e3=>?_⟩,λy c e=>?_,I.free,I.freeC,λp hp=>?_,tracked ⟨oL,hoL,I.free⟩ hs,by simpa using I.len⟩ ⟨_,hs,.inl rfl⟩
  ·exact (hs.2 b (Nat.ne_of_lt (Nat.lt_of_lt_of_le (Heap.lt_size e) I.ok.above))).trans (I.base.keep b o e n hb hx)
  ·obtain⟨sl,e1⟩:=I.base.slot b o e n hb hx
   exact⟨sl,(hs.2 b (Nat.ne_of_lt (Nat.lt_of_lt_of_le (Heap.lt_size e) I.ok.above))).trans e1⟩
  ·obtain⟨o',e1⟩:=I.base.there b o e hx
   exact⟨o',(hs.2 b (Nat.ne_of_lt (Nat.lt_of_lt_of_le (Heap.lt_size e) I.ok.above))).trans e1⟩
  ·by_cases hj:j=i
   ·subst hj
    rw[hi] at e1;cases e1
    rw[List.getElem?_set_self hiσ] at e2
    cases e2
    exact⟨u,r,.inl ⟨hk,by simp⟩⟩
   ·rw[List.getElem?_set_ne (Ne.symm hj)] at e2
    obtain⟨u',r',q⟩:=hl j y v' e1 e2 e3
    refine⟨u',r',?_⟩
    rcases q with ⟨k,e⟩ | ⟨k,c,e,z⟩
    ·refine .inl ⟨k,?_⟩
     have:y≠x:=λe=>hj (zkB hN e1 (e ▸ hi))
     simp[this,e]
    ·exact .inr ⟨k,c,e,z.sameBut hs (cne y c e)⟩
  ·obtain⟨w',z⟩:=I.cell y c e
   exact⟨w',z.sameBut hs (cne y c e)⟩
  ·obtain⟨e,n,ne,nf,d⟩:=I.pin p hp
   exact⟨(hs.2 p.1 ne).trans e,n,ne,nf,d⟩
 ·have hfn:X.fn x=true:=by
   rcases hf with z | z
   ·exact z
   ·rw[z] at hk;cases hk
  obtain⟨c,hc⟩:=I.ok.has x (.inl hk)
  obtain⟨w',z⟩:=I.cell x c hc
  refine wpAny_storeName_cell I.ok.kind hk hc z (λh' hc' hs=>?_)
  obtain⟨oc,hoc,hocd⟩:=id z
  refine h {s with heap:=h'} ⟨I.ok,I.os,I.bare,⟨λb o e n hb hx=>?_,λb o e n hb hx=>?_,I.base.free,λb o e hx=>?_,I.base.tups,I.base.frzs,I.base.tbls⟩,⟨m,hn.sameBut hs (Ne.symm (cne x c hc)),λj y v' e1 e2 e3=>?_⟩,λy c' e=>?_,I.free,I.freeC,λp hp=>?_,tracked ⟨oc,hoc,I.freeC x c hc⟩ hs,by simpa using I.len⟩ ⟨c,hs,.inr hc⟩
  ·exact (hs.2 b (Nat.ne_of_lt (Nat.lt_of_lt_of_le (Heap.lt_size e) (I.ok.cab x c hfn hc)))).trans (I.base.keep b o e n hb hx)
  ·obtain⟨sl,e1⟩:=I.base.slot b o e n hb hx
   exact⟨sl,(hs.2 b (Nat.ne_of_lt (Nat.lt_of_lt_of_le (Heap.lt_size e) (I.ok.cab x c hfn hc)))).trans e1⟩
  ·obtain⟨o',e1⟩:=I.base.there b o e hx
   exact⟨o',(hs.2 b (Nat.ne_of_lt (Nat.lt_of_lt_of_le (Heap.lt_size e) (I.ok.cab x c hfn hc)))).trans e1⟩
  ·by_cases hj:j=i
   ·subst hj
    rw[hi] at e1;cases e1
    rw[List.getElem?_set_self hiσ] at e2
    cases e2
    exact⟨u,r,.inr ⟨.inl hk,c,hc,hc'⟩⟩
   ·rw[List.getElem?_set_ne (Ne.symm hj)] at e2
    obtain⟨u',r',q⟩:=hl j y v' e1 e2 e3
    refine⟨u',r',?_⟩
    rcases q with q | ⟨k,c',e,z'⟩
    ·exact .inl q
    ·refine .inr ⟨k,c',e,z'.sameBut hs ?_⟩
     rintro rfl
     exact hj (zkB hN e1 (I.ok.inj _ _ _ e hc ▸ hi))
  ·by_cases hcc:c'=c
   ·subst hcc;exact⟨_,hc'⟩
   ·obtain⟨w2,z2⟩:=I.cell y c' e
    exact⟨w2,z2.sameBut hs hcc⟩
  ·obtain⟨e,n,ne,nf,d⟩:=I.pin p hp
   refine⟨(hs.2 p.1 ?_).trans e,n,ne,nf,d⟩
   intro q
   rw[q,hoc] at e
   have q':oc=p.2:=Option.some.inj e
   exact d w' (by rw[←q'];exact hocd)
theorem zf7 {M:Model}{A:Around}{E:Value→Shared→Prop}{i:Nat}{x:Str}{v:V}{u:Value}{Q:Unit→Shared→Prop}(I:Inv X pins σ H s) (hN:X.N.Nodup) (hi:X.N[i]?=some x) (hx:Loc X.env.scope x) (r:RelV v u)
  (h:∀ s',Inv X pins (σ.set i (some v)) H s'→Q () s') (hf:X.fn x=true∨X.env.scope.names.lookup x=some .local:=by first | exact .inl rfl | exact .inr rfl | assumption):wpAny M A (storeName X.env x u) Q E s:=
 ziA I hN hi hx r (λs' I' _=>h s' I') hf
theorem Inv.call' {s':Shared}{ch:List Addr}(I:Inv X pins σ H s) (ho:s'.os=s.os) (u:Un (frs X.stack) ch H H' s.heap s'.heap) (hok:HOk X.prog X.w H' s'.heap) (hg:AllBare s'.gens)
  (hch:∀ b∈ch,(b∈X.ex∨X.s₀.heap.objs.size≤b)∧b≠X.env.locals∧(∀ x c,X.env.cells.lookup x=some c→c≠b)∧∀ p∈X.pn++pins,p.1≠b):Inv X pins σ H' s':=by
 obtain⟨h',g',d',t',o'⟩:=s'
 have e:o'=s.os:=ho
 subst e
 exact I.call (g':=g') (t':=t') (d':=d') u hok hg hch
end

abbrev XK:=Value→Option Addr→Hp→Prop
abbrev St:=List (Option V)
abbrev VK:=V→Hp→Prop
abbrev TE:=St→Hp→VK→Prop
abbrev TT:=St→Hp→(Bool→Hp→Prop)→Prop
abbrev TA:=St→Hp→(List V→Hp→Prop)→Prop
structure Ends where
 nx:St→Hp→Prop
 rt:VK
 bk:St→Hp→Prop:=λ_ _=>False
 ct:St→Hp→Prop:=λ_ _=>False
abbrev TS:=Ends→St→Hp→Prop
def EP (X:Cx) (pins:List (Addr × Obj)) (σ:St) (Q:VK) (u:Value) (s':Shared):Prop:=∃ v H',Inv X pins σ H' s'∧RelV v u∧Q v H'
def TP (X:Cx) (pins:List (Addr × Obj)) (σ:St) (Q:Bool→Hp→Prop) (b:Bool) (s':Shared):Prop:=∃ H',Inv X pins σ H' s'∧Q b H'
def AP (X:Cx) (pins:List (Addr × Obj)) (σ:St) (Q:List V→Hp→Prop) (us:List Value) (s':Shared):Prop:=∃ vs H',Inv X pins σ H' s'∧Vals vs us∧Q vs H'
def SP (X:Cx) (pins:List (Addr × Obj)) (D:Ends) (f:Flow) (s':Shared):Prop:=
 match f with
 | .next=>∃ σ' H',Inv X pins σ' H' s'∧D.nx σ' H'
 | .brk=>∃ σ' H',Inv X pins σ' H' s'∧D.bk σ' H'
 | .cont=>∃ σ' H',Inv X pins σ' H' s'∧D.ct σ' H'
 | .ret u=>∃ v σ' H',Inv X pins σ' H' s'∧RelV v u∧D.rt v H'
def PE (X:Cx) (e:Expr) (t:TE):Prop:=
 ∀ (pins:List (Addr × Obj)) (s:Shared) (σ:St) (H:Hp) (Q:VK),Inv X pins σ H s→t σ H Q→wpAny (model X.prog X.w) X.A (eval e X.env) (EP X pins σ Q) X.xe s
def PT (X:Cx) (e:Expr) (t:TT):Prop:=
 ∀ (pins:List (Addr × Obj)) (s:Shared) (σ:St) (H:Hp) (Q:Bool→Hp→Prop),Inv X pins σ H s→t σ H Q→wpAny (model X.prog X.w) X.A (isTrue e X.env (eval e X.env)) (TP X pins σ Q) X.xe s
def PW (X:Cx) (e:Expr) (t:TT):Prop:=
 ∀ (whole:Sem Value) (pins:List (Addr × Obj)) (s:Shared) (σ:St) (H:Hp) (Q:Bool→Hp→Prop),Inv X pins σ H s→t σ H Q→wpAny (model X.prog X.w) X.A (isTrue e X.env whole) (TP X pins σ Q) X.xe s
theorem PW.pt {X:Cx}{e:Expr}{t:TT}(h:PW X e t):PT X e t:=h _
def PA (X:Cx) (es:List Expr) (t:TA):Prop:=
 ∀ (pos:Pos) (pins:List (Addr × Obj)) (s:Shared) (σ:St) (H:Hp) (Q:List V→Hp→Prop),Inv X pins σ H s→t σ H Q→wpAny (model X.prog X.w) X.A (spliced (backTo pos (starEach es X.env))) (AP X pins σ Q) X.xe s
def PS (X:Cx) (st:Stmt) (t:TS):Prop:=
 ∀ (pins:List (Addr × Obj)) (s:Shared) (σ:St) (H:Hp) (D:Ends),Inv X pins σ H s→t D σ H→wpAny (model X.prog X.w) X.A (exec st X.env) (SP X pins D) X.xe s
def PSs (X:Cx) (st:List Stmt) (t:TS):Prop:=
 ∀ (pins:List (Addr × Obj)) (s:Shared) (σ:St) (H:Hp) (D:Ends),Inv X pins σ H s→t D σ H→wpAny (model X.prog X.w) X.A (execs st X.env) (SP X pins D) X.xe s
theorem thn {α:Type}{t:Sem α}{Q Q':α→Shared→Prop}{M:Model}{A:Around}{E:Value→Shared→Prop}{s:Shared}(h:wpAny M A t Q E s) (hQ:∀ a s,Q a s→Q' a s):wpAny M A t Q' E s:=wpAny_mono h hQ λ_ _ x=>x
end L2

namespace L2
open PySem PySem.Spec PyProof.Rows
section
variable {X:Cx}

theorem bin {a b:Expr}{ta tb:TE}(ha:PE X a ta) (hb:PE X b tb) {pins:List (Addr × Obj)}{s:Shared}{σ:St}{H:Hp}{R:V→V→Hp→Prop}(I:Inv X pins σ H s) (h:ta σ H λx H1=>tb σ H1 λy H2=>R x y H2)
  {α:Type}{Q:α→Shared→Prop}{f:Value→Value→Sem α}
  (hf:∀ v u s2 x y H2,Inv X pins σ H2 s2→RelV x v→RelV y u→R x y H2→wpAny (model X.prog X.w) X.A (f v u) Q X.xe s2) :
  wpAny (model X.prog X.w) X.A (eval a X.env) (λv s₁=>wpAny (model X.prog X.w) X.A (eval b X.env) (λu s₂=>wpAny (model X.prog X.w) X.A (f v u) Q X.xe s₂) X.xe s₁) X.xe s:=by
 refine thn (ha pins s σ H _ I h) λv s1 ⟨x,H1,I1,r1,q1⟩=>?_
 refine thn (hb pins s1 σ H1 _ I1 q1) λu s2 ⟨y,H2,I2,r2,q2⟩=>?_
 exact hf v u s2 x y H2 I2 r1 r2 q2
def tVar (i:Nat):TE:=λσ H Q=>∃ v,σ[i]?=some (some v)∧Q v H
def tC (v:V):TE:=λ_ H Q=>Q v H
theorem zqg {i:Nat}{x:Str}{pos:Pos}(hN:X.N[i]?=some x) (hv:Vis X.env.scope x) (hd:(x == ("__debug__" : Str))=false:=by decide) (hcd:(x == ("__classdict__" : Str))=false:=by decide):PE X (.Name x pos) (tVar i):=by
 intro pins s σ H Q I h
 obtain⟨v,e,h⟩:=h
 obtain⟨m,hn,hl⟩:=I.loc
 obtain⟨u,r,l⟩:=hl i x v hN e hv
 have fin:EP X pins σ Q u s:=⟨v,H,I,r,h⟩
 rcases l with ⟨hk,hm⟩ | ⟨hk,c,hc,hcell⟩
 ·exact wpAny_Name (wpAny_loadName_local I.ok.kind hk hn hm fin) hd
 ·rcases hk with hk | hk
  ·exact wpAny_Name (wpAny_loadName_cell I.ok.kind hk hc hcell fin) hd
  ·exact wpAny_Name (wpAny_loadName_free I.ok.kind hk hc hcell fin hcd) hd
theorem zaa {i j pos} : PE X (.Constant (.int i) j pos) (tC (.int i)):=λ_ _ _ H _ I h=>wpAny_Constant_int ⟨.int i,H,I.tok _,⟨_,rfl⟩,h⟩
theorem zef {b j pos} : PE X (.Constant (.bool b) j pos) (tC (.bl b)):=λ_ _ _ H _ I h=>Constant_bool ⟨.bl b,H,I,rfl,h⟩
theorem zeI {j pos} : PE X (.Constant .none j pos) (tC .non):=λ_ _ _ H _ I h=>Constant_none ⟨.non,H,I,rfl,h⟩
theorem zbr {x j pos} : PE X (.Constant (.str x) j pos) (tC (.str x)):=λ_ _ _ H _ I h=>Calls.Constant_str ⟨.str x,H,I.tok _,⟨_,rfl⟩,h⟩
def Gl (X:Cx) (x:Str):Prop:=X.env.kindOf x=some .globalImplicit
theorem zgk {E:Value→Shared→Prop}{pins:List (Addr × Obj)}{s:Shared}{σ:St}{H:Hp}{x:Str}{u:Value}{pos:Pos}{Q:Value→Shared→Prop}(I:Inv X pins σ H s) (hg:Gl X x) (hm:X.mg x=some u) (h:Q u s)
  (hd:(x == ("__debug__" : Str))=false:=by decide):wpAny (model X.prog X.w) X.A (eval (.Name x pos) X.env) Q E s:=
 Calls.Name_function_global I.ok.kind hg (Calls.loadGlobal_global (by rw[I.ok.glob];exact I.mod.glob.keeps I.bk) hm h) hd
theorem zgl {E:Value→Shared→Prop}{pins:List (Addr × Obj)}{s:Shared}{σ:St}{H:Hp}{x:Str}{u:Value}{pos:Pos}{Q:Value→Shared→Prop}(I:Inv X pins σ H s) (hg:Gl X x) (hm:X.mg x=none) (hv:bootBuiltins x=some u) (h:Q u s)
  (hn:x≠ "__name__":=by decide) (hd:(x == ("__debug__" : Str))=false:=by decide):wpAny (model X.prog X.w) X.A (eval (.Name x pos) X.env) Q E s:=by
 obtain⟨mb,h1,h2⟩:=I.mod.blt
 exact Calls.Name_function_global I.ok.kind hg (Calls.loadGlobal_builtin (by rw[I.ok.glob];exact I.mod.glob.keeps I.bk) hm (by rw[I.ok.blt];exact h1.keeps I.bk) ((h2 x hn).trans hv) h) hd
theorem zlO {x:Str}{v:V}{u:Value}{pos:Pos}(hg:Gl X x) (hm:X.mg x=some u) (r:RelV v u) (hd:(x == ("__debug__" : Str))=false:=by decide):PE X (.Name x pos) (tC v):=
 λ_ _ _ H _ I h=>zgk I hg hm ⟨v,H,I,r,h⟩ hd
theorem zlP {x:Str}{v:V}{u:Value}{pos:Pos}(hg:Gl X x) (hm:X.mg x=none) (hv:bootBuiltins x=some u) (r:RelV v u) (hn:x≠ "__name__":=by decide) (hd:(x == ("__debug__" : Str))=false:=by decide):PE X (.Name x pos) (tC v):=
 λ_ _ _ H _ I h=>zgl I hg hm hv ⟨v,H,I,r,h⟩ hn hd
variable {a b:Expr}{ta tb:TE}{pos:Pos}
def PC (X:Cx) (op:CmpOp) (a b:Expr) (t:TE):Prop:=
 ∀ (pins:List (Addr × Obj)) (s:Shared) (σ:St) (H:Hp) (Q:VK),Inv X pins σ H s→t σ H Q→
  wpAny (model X.prog X.w) X.A (eval a X.env) (λv s₁=>wpAny (model X.prog X.w) X.A (eval b X.env) (λu s₂=>wpAny (model X.prog X.w) X.A (compareOp op v u) (EP X pins σ Q) X.xe s₂) X.xe s₁) X.xe s
def tB (t:TE):TT:=λσ H Q=>t σ H λx H1=>∃ c,x=.bl c∧Q c H1
theorem zqh {op:CmpOp}{t:TE}(h:PC X op a b t) (h1:behindInMarks op b=false:=by first | exact nobehind _ (by decide) (by decide) | rfl):PE X (.Compare a [op] [b] pos) t:=λpins s σ H Q I hw=>wpAny_Compare1 (h pins s σ H Q I hw) h1
theorem ziB {op:CmpOp}{t:TE}(h:PC X op a b t) (h1:behindInMarks op b=false:=by first | exact nobehind _ (by decide) (by decide) | rfl):PT X (.Compare a [op] [b] pos) (tB t):=by
 intro pins s σ H Q I hw
 refine wpAny_isTrue_Compare1 (thn (h pins s σ H _ I hw) λv s1 h1=>thn h1 λu s2 h2=>thn h2 λc s3 ⟨x,H1,I1,r1,q1⟩=>?_) h1
 obtain⟨d,rfl,q⟩:=q1
 cases r1
 exact wpAny_truthy_bool ⟨H1,I1,q⟩
theorem zcQ {e:Expr}{t:TE}(h:PE X e t) (he:∀ whole,isTrue e X.env whole=(do let v ←whole;standAt e.pos;holding [v] (truthy v)):=by intro _;rfl):PT X e (tB t):=by
 intro pins s σ H Q I hw
 refine isTrue_plain (thn (h pins s σ H _ I hw) λv s1 ⟨x,H1,I1,r1,q1⟩=>?_) (he _)
 obtain⟨d,rfl,q⟩:=q1
 cases r1
 exact wpAny_truthy_bool ⟨H1,I1,q⟩
variable {tA tB':TT}{rest:List Expr}
def tAnd (t u:TT):TT:=λσ H Q=>t σ H λc H1=>if c=true then u σ H1 Q else Q false H1
def tOr (t u:TT):TT:=λσ H Q=>t σ H λc H1=>if c=true then Q true H1 else u σ H1 Q
def tNot (t:TT):TT:=λσ H Q=>t σ H λc H1=>Q (!c) H1
theorem zgn (ha:PT X a tA):PW X (.BoolOp .And [a] pos) tA:=by
 intro wh pins s σ H Q I h
 refine isTrue_and (thn (ha pins s σ H Q I h) λc s1 e=>?_)
 cases c with
 | true=>exact isTrue_and_nil e
 | false=>exact e
theorem ziC (ha:PT X a tA):PW X (.BoolOp .Or [a] pos) tA:=by
 intro wh pins s σ H Q I h
 refine isTrue_or (thn (ha pins s σ H Q I h) λc s1 e=>?_)
 cases c with
 | false=>exact isTrue_or_nil e
 | true=>exact e
theorem ziD (ha:PT X a tA) (hb:PW X (.BoolOp .And (b::rest) pos) tB'):PW X (.BoolOp .And (a::b::rest) pos) (tAnd tA tB'):=by
 intro wh pins s σ H Q I h
 refine isTrue_and (thn (ha pins s σ H _ I h) λc s1 ⟨H1,I1,q1⟩=>?_)
 cases c with
 | true=>exact hb wh pins s1 σ H1 Q I1 q1
 | false=>exact⟨H1,I1,q1⟩
theorem zjU (ha:PT X a tA) (hb:PW X (.BoolOp .Or (b::rest) pos) tB'):PW X (.BoolOp .Or (a::b::rest) pos) (tOr tA tB'):=by
 intro wh pins s σ H Q I h
 refine isTrue_or (thn (ha pins s σ H _ I h) λc s1 ⟨H1,I1,q1⟩=>?_)
 cases c with
 | true=>exact⟨H1,I1,q1⟩
 | false=>exact hb wh pins s1 σ H1 Q I1 q1
theorem ze5 (ha:PT X a tA):PT X (.UnaryOp .Not a pos) (tNot tA):=by
 intro pins s σ H Q I h
 exact isTrue_not (ha pins s σ H (λc H1=>Q (!c) H1) I h)
def zqi (ta tb:TE):TE:=λσ H Q=>ta σ H λx H1=>∃ c,x=.bl c∧if c=true then tb σ H1 Q else Q (.bl false) H1
theorem zci {op}{t:TE}(h:PE X a t):PE X (.BoolOp op [a] pos) t:=λpins s σ H Q I hw=>BoolOp_one (h pins s σ H Q I hw)
theorem zbR (ha:PE X a ta) (hb:PE X (.BoolOp .And (b::rest) pos) tb):PE X (.BoolOp .And (a::b::rest) pos) (zqi ta tb):=by
 intro pins s σ H Q I h
 refine BoolOp_and (thn (ha pins s σ H _ I h) λv s1 ⟨x,H1,I1,r1,q1⟩=>?_)
 obtain⟨c,rfl,q1⟩:=q1
 cases r1
 refine wpAny_truthy_bool ?_
 cases c with
 | true=>exact hb pins s1 σ H1 Q I1 q1
 | false=>exact⟨.bl false,H1,I1,rfl,q1⟩
def tIf (t:TT) (ta tb:TE):TE:=λσ H Q=>t σ H λc H1=>if c=true then ta σ H1 Q else tb σ H1 Q
theorem zkC {c:Expr}(hc:PT X c tA) (ha:PE X a ta) (hb:PE X b tb):PE X (.IfExp c a b pos) (tIf tA ta tb):=by
 intro pins s σ H Q I h
 refine wpAny_IfExp (thn (hc pins s σ H _ I h) λd s1 ⟨H1,I1,q1⟩=>?_)
 cases d with
 | true=>exact ha pins s1 σ H1 Q I1 q1
 | false=>exact hb pins s1 σ H1 Q I1 q1
end
end L2

namespace L2
open PySem PySem.Spec PyProof.Rows

def SqL (K:Fg) (H:Hp) (a:Addr) (xs:List V):Prop:=
 Rd H a (.lst xs)∨
  ∃ (o:Obj) (its:Array Value) (n:Nat),K.lookup a=some o∧o.cls=.type "list" ∧o.dict=none∧o.data=.seq its n∧its.size≤sizeLine∧Vals xs its.toList
def SqT (K:Fg) (H:Hp) (a:Addr) (xs:List V):Prop:=
 Rd H a (.tup xs)∨
  ∃ (o:Obj) (its:Array Value) (n:Nat),K.lookup a=some o∧o.cls=.type "tuple" ∧o.data=.seq its n∧its.size≤sizeLine∧Vals xs its.toList
def absV:Value→Option V
 | .none=>some .non
 | .bool b=>some (.bl b)
 | .int i _=>some (.int i)
 | .str x _=>some (.str x)
 | .bytes b _=>some (.byt b)
 | .float b _=>some (.flt b)
 | .ref a=>some (.ref a)
 | .type n=>some (.ty n)
 | _=>none
theorem RelV.abs {x:V}{u:Value}(r:RelV x u):absV u=some x:=by
 cases x with
 | non=>cases r;rfl
 | bl _=>cases r;rfl
 | int _=>obtain⟨t,rfl⟩:=r;rfl
 | str _=>obtain⟨t,rfl⟩:=r;rfl
 | byt _=>obtain⟨t,rfl⟩:=r;rfl
 | flt _=>obtain⟨t,rfl⟩:=r;rfl
 | ref _=>cases r;rfl
 | ty _=>cases r;rfl
theorem RelV.inj {x y:V}{u:Value}(r:RelV x u) (q:RelV y u):x=y:=Option.some.inj (r.abs.symm.trans q.abs)
theorem Vals.inj:∀ {xs ys:List V}{us:List Value},Vals xs us→Vals ys us→xs=ys
 | _,_,_,.nil,.nil=>rfl
 | _,_,_,.cons r t,.cons r' t'=>by rw[r.inj r',Vals.inj t t']
section
variable {X:Cx}{pins:List (Addr × Obj)}{σ:St}{H:Hp}{s:Shared}{a:Addr}{xs ys:List V}
theorem SqL.of {K:Fg}(h:H a=some (.lst xs)):SqL K H a xs:=.inl (.inl h)
theorem SqT.of {K:Fg}(h:H a=some (.tup xs)):SqT K H a xs:=.inl (.inl h)
theorem Inv.list (I:Inv X pins σ H s) (h:SqL X.K H a xs):∃ its:List Value,Vals xs its∧PlainL s.heap a its.toArray∧xs.length≤sizeLine:=by
 rcases h with h | ⟨o,its,n,hk,hc,hd,hs,hz,r⟩
 ·obtain⟨z,its,n,r,e⟩:=h.ok I.hok
  exact⟨its,r,⟨_,n,e,rfl,rfl,rfl⟩,z⟩
 ·refine⟨its.toList,r,⟨o,n,I.kIn a o hk,hc,hd,by simpa using hs⟩,?_⟩
  have e:=r.length
  simp only[Array.length_toList] at e
  omega
theorem Inv.tuple (I:Inv X pins σ H s) (h:SqT X.K H a xs):∃ its:List Value,Vals xs its∧IsTup s.heap a its.toArray∧xs.length≤sizeLine:=by
 rcases h with h | ⟨o,its,n,hk,hc,hs,hz,r⟩
 ·obtain⟨z,its,r,p⟩:=h.ok I.hok
  exact⟨its,r,p,z⟩
 ·refine⟨its.toList,r,⟨o,I.kIn a o hk,hc,n,by simpa using hs⟩,?_⟩
  have e:=r.length
  simp only[Array.length_toList] at e
  omega
theorem Inv.list_inj (I:Inv X pins σ H s) (h:SqL X.K H a xs) (h':SqL X.K H a ys):xs=ys:=by
 obtain⟨its,r,⟨o,n,e,_,_,d⟩,_⟩:=I.list h
 obtain⟨its',r',⟨o',n',e',_,_,d'⟩,_⟩:=I.list h'
 rw[e] at e';cases e'
 rw[d] at d'
 injection d' with d1 _
 have:its=its':=by simpa using congrArg Array.toList d1
 subst this
 exact r.inj r'
theorem Inv.tuple_inj (I:Inv X pins σ H s) (h:SqT X.K H a xs) (h':SqT X.K H a ys):xs=ys:=by
 obtain⟨its,r,⟨o,e,_,n,d⟩,_⟩:=I.tuple h
 obtain⟨its',r',⟨o',e',_,n',d'⟩,_⟩:=I.tuple h'
 rw[e] at e';cases e'
 rw[d] at d'
 injection d' with d1 _
 have:its=its':=by simpa using congrArg Array.toList d1
 subst this
 exact r.inj r'
end

abbrev Cx.wish (X:Cx) (E:Value→Shared→Prop):Cx:={X with xe:=E}
abbrev Cx.nox (X:Cx):Cx:=X.wish λ_ _=>False
theorem Cx.Ok.wish {X:Cx}(ok:X.Ok) (E:Value→Shared→Prop):(X.wish E).Ok:=
 ⟨ok.mod,ok.kind,ok.glob,ok.blt,ok.above,ok.inj,ok.has,ok.cab,ok.hd,ok.frames,ok.stk,ok.exf,ok.bs,ok.bsz,ok.noex,ok.exfs,ok.funs,ok.frf⟩
theorem Cx.Ok.unwish {X:Cx}{E:Value→Shared→Prop}(ok:(X.wish E).Ok):X.Ok:=
 ⟨ok.mod,ok.kind,ok.glob,ok.blt,ok.above,ok.inj,ok.has,ok.cab,ok.hd,ok.frames,ok.stk,ok.exf,ok.bs,ok.bsz,ok.noex,ok.exfs,ok.funs,ok.frf⟩
section
variable {X:Cx}{pins:List (Addr × Obj)}{σ:St}{H:Hp}{s:Shared}{E:Value→Shared→Prop}
theorem Inv.wish (I:Inv X pins σ H s) (E:Value→Shared→Prop):Inv (X.wish E) pins σ H s:=⟨I.ok.wish E,I.os,I.bare,I.base,I.loc,I.cell,I.free,I.freeC,I.pin,I.hok,I.len⟩
theorem Inv.unwish (I:Inv (X.wish E) pins σ H s):Inv X pins σ H s:=⟨I.ok.unwish,I.os,I.bare,I.base,I.loc,I.cell,I.free,I.freeC,I.pin,I.hok,I.len⟩
theorem SP.unwish {D:Ends}{f:Flow}{s':Shared}(h:SP (X.wish E) pins D f s'):SP X pins D f s':=by
 cases f with
 | next=>obtain⟨σ',H',I,q⟩:=h;exact⟨σ',H',I.unwish,q⟩
 | brk=>obtain⟨σ',H',I,q⟩:=h;exact⟨σ',H',I.unwish,q⟩
 | cont=>obtain⟨σ',H',I,q⟩:=h;exact⟨σ',H',I.unwish,q⟩
 | ret u=>obtain⟨v,σ',H',I,r,q⟩:=h;exact⟨v,σ',H',I.unwish,r,q⟩
theorem PSs.nox {st:List Stmt}{t:TS}(h:PSs X.nox st t):PSs X st t:=λpins s σ H D I hw=>
 wpAny_mono (h pins s σ H D (I.wish _) hw) (λ_ _ q=>q.unwish) λ_ _ z=>False.elim z
end

section
variable {X:Cx}{st:Stmt}{rest:List Stmt}{t u:TS}{e:Expr}{te:TE}{pos:Pos}
def zlQ:TS:=λD σ H=>D.nx σ H
def tSeq (t u:TS):TS:=λD σ H=>t {D with nx:=u D} σ H
theorem zax:PSs X [] zlQ:=λ_ _ σ H _ I h=>wpAny_execs_nil ⟨σ,H,I,h⟩
theorem zag (h1:PS X st t) (h2:PSs X rest u):PSs X (st::rest) (tSeq t u):=by
 intro pins s σ H D I h
 refine wpAny_execs_cons (thn (h1 pins s σ H {D with nx:=u D} I h) λf s1 q=>?_)
 cases f with
 | next=>
  obtain⟨σ',H',I',q⟩:=q
  exact h2 pins s1 σ' H' D I' q
 | ret v=>exact q
 | brk=>exact q
 | cont=>exact q
theorem zaj (h1:PS X st t):PSs X [st] t:=by
 intro pins s σ H D I h
 refine wpAny_execs_cons (thn (h1 pins s σ H D I h) λf s1 q=>?_)
 cases f with
 | next=>exact wpAny_execs_nil q
 | ret v=>exact q
 | brk=>exact q
 | cont=>exact q
theorem Inv.quiet {pins:List (Addr × Obj)}{σ:St}{H:Hp}{s:Shared}(I:Inv X pins σ H s):interactive X.env=false:=by simp[interactive,I.ok.kind]
def zqj (te:TE):TS:=λD σ H=>te σ H λ_ H1=>D.nx σ H1
theorem zbc (he:PE X e te) (hs:swapsWith e none pos.line X.env=pure false:=by rfl):PS X (.Expr e pos) (zqj te):=by
 intro pins s σ H D I h
 exact wpAny_Expr_any (thn (he pins s σ H _ I h) λv s1 ⟨x,H1,I1,r1,q1⟩=>⟨σ,H1,I1,q1⟩) I.quiet hs
def tRet (te:TE):TS:=λD σ H=>te σ H D.rt
theorem zao (he:PE X e te):PS X (.Return (some e) pos) (tRet te):=by
 intro pins s σ H D I h
 exact wpAny_Return_some (thn (he pins s σ H _ I h) λv s1 ⟨x,H1,I1,r1,q1⟩=>⟨x,σ,H1,I1,r1,q1⟩)
def tIfS (c:TT) (t u:TS):TS:=λD σ H=>c σ H λb H1=>if b=true then t D σ H1 else u D σ H1
theorem za0 {c:Expr}{a b:List Stmt}{tc:TT}(hc:PT X c tc) (ha:PSs X a t) (hb:PSs X b u):PS X (.If c a b pos) (tIfS tc t u):=by
 intro pins s σ H D I h
 refine wpAny_If (thn (hc pins s σ H _ I h) λd s1 ⟨H1,I1,q1⟩=>?_)
 cases d with
 | true=>exact ha pins s1 σ H1 D I1 q1
 | false=>exact hb pins s1 σ H1 D I1 q1
end

abbrev TG:=V→St→Hp→(St→Hp→Prop)→Prop
abbrev TGs:=List V→St→Hp→(St→Hp→Prop)→Prop
def PG (X:Cx) (target:Expr) (t:TG):Prop:=
 ∀ (pins:List (Addr × Obj)) (s:Shared) (σ:St) (H:Hp) (v:V) (u:Value) (Q:St→Hp→Prop),Inv X pins σ H s→RelV v u→t v σ H Q→
  wpAny (model X.prog X.w) X.A (assign target X.env u) (λ_ s'=>∃ σ' H',Inv X pins σ' H' s'∧Q σ' H') X.xe s
def PGs (X:Cx) (ts:List Expr) (t:TGs):Prop:=
 ∀ (pins:List (Addr × Obj)) (s:Shared) (σ:St) (H:Hp) (vs:List V) (us:List Value) (Q:St→Hp→Prop),Inv X pins σ H s→Vals vs us→t vs σ H Q→
  wpAny (model X.prog X.w) X.A (assignInOrder ((assignEach ts X.env).map (·.2)) us) (λ_ s'=>∃ σ' H',Inv X pins σ' H' s'∧Q σ' H') X.xe s
abbrev TSet:=V→V→V→Hp→(Hp→Prop)→Prop
def PSet (X:Cx) (t:TSet):Prop:=
 ∀ (pins:List (Addr × Obj)) (s:Shared) (σ:St) (H:Hp) (o i v:V) (ov iv u:Value) (Q:Hp→Prop),Inv X pins σ H s→RelV o ov→RelV i iv→RelV v u→t o i v H Q→
  wpAny (model X.prog X.w) X.A (setItem ov iv u) (λ_ s'=>∃ H',Inv X pins σ H' s'∧Q H') X.xe s
section
variable {X:Cx}{pos:Pos}
def znB (i:Nat):TG:=λv σ H Q=>Q (σ.set i (some v)) H
theorem zas {i:Nat}{x:Str}(hN:X.N.Nodup) (hi:X.N[i]?=some x) (hx:Loc X.env.scope x) (hf:X.fn x=true∨X.env.scope.names.lookup x=some .local:=by first | exact .inl rfl | exact .inr rfl | assumption):PG X (.Name x pos) (znB i):=by
 intro pins s σ H v u Q I r h
 exact wpAny_assign_Name (zf7 I hN hi hx r (λs' I'=>⟨_,H,I',h⟩) hf)
def gNil:TGs:=λvs σ H Q=>vs=[]∧Q σ H
inductive ConsI (vs:List V) (P:V→List V→Prop):Prop
 | mk (v:V) (r:List V) (e:vs=v::r) (q:P v r):ConsI vs P
def gCons (t:TG) (u:TGs):TGs:=λvs σ H Q=>ConsI vs λv r=>t v σ H λσ' H'=>u r σ' H' Q
theorem zeg:PGs X [] gNil:=by
 intro pins s σ H vs us Q I r h
 obtain⟨e,h⟩:=h
 subst e
 cases r
 exact assignInOrder_nil ⟨σ,H,I,h⟩
theorem zbw {e:Expr}{es:List Expr}{t:TG}{u:TGs}(h1:PG X e t) (h2:PGs X es u)
  (hs:(assignEach (e::es) X.env).map (·.2)=assign e X.env::(assignEach es X.env).map (·.2):=by rfl):PGs X (e::es) (gCons t u):=by
 intro pins s σ H vs us Q I r h
 obtain⟨v,vr,e1,h⟩:=h
 subst e1
 cases r with
 | cons r rr=>
  rw[hs]
  refine assignInOrder_cons (thn (h1 pins s σ H _ _ _ I r h) λ_ s1 ⟨σ1,H1,I1,q1⟩=>?_)
  exact h2 pins s1 σ1 H1 _ _ Q I1 rr q1
inductive TupI (K:Fg) (n:Nat) (v:V) (H:Hp) (P:List V→Prop):Prop
 | mk (a:Addr) (xs:List V) (e:v=.ref a) (h:SqT K H a xs) (l:xs.length=n) (q:P xs):TupI K n v H P
def gTup (K:Fg) (n:Nat) (t:TGs):TG:=λv σ H Q=>TupI K n v H λxs=>t xs σ H Q
theorem zqk {es:List Expr}{k:Nat}{t:TGs}{n:Nat}(hc:X.calm=true) (h:PGs X es t)
  (hn:(assignEach es X.env).length=n:=by rfl) (hst:(assignEach es X.env).findIdx? (·.1)=none:=by rfl):PG X (.Tuple es k pos) (gTup X.K n t):=by
 intro pins s σ H v u Q I r hw
 obtain⟨a,xs,e1,hq,hl,hw⟩:=hw
 subst e1
 cases r
 obtain⟨its,rv,ht,hz⟩:=I.tuple hq
 refine assign_Tuple_tuple (I.ok.hd hc) ht (by simp[hn,←hl,rv.length]) hst λh' hx=>?_
 have I1:Inv X pins σ H {s with heap:=h'}:=I.kept (t':=s.toks) λb o e=>hx b o (Nat.ne_of_lt (Heap.lt_size e)) e
 exact h pins _ σ H xs _ Q I1 (by simpa using rv) hw
def gSub (to ti:TE) (t:TSet):TG:=λv σ H Q=>to σ H λo H1=>ti σ H1 λi H2=>t o i v H2 λH3=>Q σ H3
theorem zkD {o i:Expr}{to ti:TE}{t:TSet}(ho:PE X o to) (hi:PE X i ti) (hs:PSet X t)
  (ha:∀ v,assign (.Subscript o i pos) X.env v=(do
   let ov ←holding [v] (eval o X.env)
   let iv ←holding [v,ov] (eval i X.env)
   standAt pos
   holding [v,ov,iv] (setItem ov iv v)
   release [v,ov,iv] []):=by intro _;rfl):PG X (.Subscript o i pos) (gSub to ti t):=by
 intro pins s σ H v u Q I r h
 rw[ha]
 refine wpAny_bind (wpAny_holding (thn (ho pins s σ H _ I h) λov s1 ⟨x,H1,I1,r1,q1⟩=>?_))
 refine wpAny_bind (wpAny_holding (thn (hi pins s1 σ H1 _ I1 q1) λiv s2 ⟨y,H2,I2,r2,q2⟩=>?_))
 refine wpAny_bind (wpAny_standAt (wpAny_bind (wpAny_holding (thn (hs pins s2 σ H2 x y v ov iv u _ I2 r1 r2 r q2) λ_ s3 ⟨H3,I3,q3⟩=>?_))))
 exact wpAny_release ⟨σ,H3,I3,q3⟩
def tAsg (te:TE) (g:TG):TS:=λD σ H=>te σ H λx H1=>g x σ H1 D.nx
theorem ziE {tg e:Expr}{te:TE}{g:TG}(he:PE X e te) (hg:PG X tg g) (hs:swapsWithSole [tg] e pos.line X.env=pure false:=by rfl) (hw:swappedStores [tg] e X.env=pure none:=by rfl)
  (h1:(assignEach [tg] X.env).map (·.2)=[assign tg X.env]:=by rfl):PS X (.Assign [tg] e pos) (tAsg te g):=by
 intro pins s σ H D I h
 refine wpAny_Assign_stores (thn (he pins s σ H _ I h) λv s1 ⟨x,H1,I1,r1,q1⟩=>?_) hs hw
 rw[h1]
 exact thn (hg pins s1 σ H1 x v _ I1 r1 q1) λ_ s2 q=>q
theorem zay {i:Nat}{x:Str}{e:Expr}{te:TE}{pos':Pos}(hN:X.N.Nodup) (hi:X.N[i]?=some x) (hx:Loc X.env.scope x) (he:PE X e te) (hs:swapsWith e (some (.Name x pos')) pos.line X.env=pure false:=by rfl) (hf:X.fn x=true∨X.env.scope.names.lookup x=some .local:=by first | exact .inl rfl | exact .inr rfl | assumption) :
  PS X (.Assign [.Name x pos'] e pos) (tAsg te (znB i)):=by
 intro pins s σ H D I h
 refine wpAny_Assign_Name (thn (he pins s σ H _ I h) λv s1 ⟨y,H1,I1,r1,q1⟩=>?_) hs
 exact zf7 I1 hN hi hx r1 (λs2 I2=>⟨_,H1,I2,q1⟩) hf
def tPar (i j:Nat) (ta:TA):TS:=λD σ H=>ta σ H λvs H1=>∃ v w,vs=[v,w]∧D.nx ((σ.set i (some v)).set j (some w)) H1
theorem zql {i j:Nat}{x y:Str}{a b:Expr}{ta:TA}{px py pt:Pos} {kt k2 pt2}(hc:X.calm=true) (hN:X.N.Nodup) (hi:X.N[i]?=some x) (hj:X.N[j]?=some y) (hij:i≠j)
  (hx:X.env.scope.names.lookup x=some .local) (hy:X.env.scope.names.lookup y=some .local) (ha:PA X [a,b] ta)
  (hw:swappedStores [.Tuple [.Name x px,.Name y py] kt pt] (.Tuple [a,b] k2 pt2) X.env=pure (some [x,y]))
  (hs:swapsWithSole [.Tuple [.Name x px,.Name y py] kt pt] (.Tuple [a,b] k2 pt2) pos.line X.env=pure false:=by rfl) :
  PS X (.Assign [.Tuple [.Name x px,.Name y py] kt pt] (.Tuple [a,b] k2 pt2) pos) (tPar i j ta):=by
 intro pins s σ H D I h
 rw[exec_Assign_arm]
 refine wpAny_bind (wpAny_standAt ?_)
 rw[hs]
 refine wpAny_bind (wpAny_pure ?_)
 rw[if_neg (by decide)]
 refine wpAny_bind (Tuple_ (thn (ha _ pins s σ H _ I h) λus s1 ⟨vs,H1,I1,r1,q1⟩=>?_))
 obtain⟨v,w,e1,q1⟩:=q1
 subst e1
 obtain⟨u1,u2,rfl,rv,rw'⟩:∃ u1 u2,us=[u1,u2]∧RelV v u1∧RelV w u2:=by
  cases r1 with
  | cons p q=>
   cases q with
   | cons p' q'=>
    cases q'
    exact⟨_,_,rfl,p,p'⟩
 refine wpAny_newObj_type ?_ (by show 2≤sizeLine;decide)
 have I2:Inv X pins σ H1 {s1 with heap:=s1.heap.push {cls:=.type "tuple",data:=.seq [u1,u2].toArray}}:=I1.kept (t':=s1.toks) λb o e=>Heap.get?_push_of_some _ e
 rw[hw]
 refine wpAny_bind (wpAny_pure ?_)
 show wpAny (model X.prog X.w) X.A (do rule "assign.swapped-stores";let items ←unpackItems (.ref s1.heap.objs.size) 2 none;assignInOrder [λv=>bindName X.env y v,λv=>bindName X.env x v] items.reverse;pure Flow.next) _ _ _
 refine wpAny_bind (wpAny_rule (wpAny_bind (unpackItems_tuple (items:=#[u1,u2]) (I.ok.hd hc) (IsTup.new s1.heap _) λh' hx'=>?_)))
 have I3:=I2.kept (h':=h') (t':=s1.toks) λb o e=>hx' b o (Nat.ne_of_lt (Heap.lt_size e)) e
 show wpAny _ _ (assignInOrder [λv=>bindName X.env y v,λv=>bindName X.env x v] [u2,u1] >>= λ_=>pure Flow.next) _ _ _
 refine wpAny_bind (assignInOrder_cons (wpAny_bindName (zf7 I3 hN hj (.inl hy) rw' (λs2 I4=>?_) (.inr hy))))
 refine assignInOrder_cons (wpAny_bindName (zf7 I4 hN hi (.inl hx) rv (λs3 I5=>assignInOrder_nil (wpAny_pure ?_)) (.inr hx)))
 rw[List.set_comm _ _ (Ne.symm hij)] at I5
 exact⟨_,H1,I5,q1⟩
end

section
variable {X:Cx}{pos:Pos}
def zqm (c:TT) (tb:TS):TS:=λD σ H=>∃ W:Nat→St→Hp→Prop,(∃ m,W m σ H)∧∀ m σ H,W m σ H→
 c σ H λb H1=>if b=true then ∃ N:St→Hp→Prop,(∀ σ' H',N σ' H'→∃ m',m'<m∧W m' σ' H')∧tb {D with nx:=N,ct:=N,bk:=D.nx} σ H1 else D.nx σ H1
theorem znC {c:Expr}{body:List Stmt}{tc:TT}{tb:TS}(hp:PassesOwn (model X.prog X.w) X.A X.env X.xe) (hc:PT X c tc) (hb:PSs X body tb):PS X (.While c body [] pos) (zqm tc tb):=by
 intro pins s σ H D I h
 obtain⟨W,⟨m0,w0⟩,turn⟩:=h
 refine wpAny_While (codeAny_whileLoop (λn s'=>∃ σ' H',Inv X pins σ' H' s'∧W n σ' H') ?_ m0 ⟨σ,H,I,w0⟩)
 rintro n s1 ⟨σ1,H1,I1,w1⟩
 refine wpAny_passesOwn hp (thn (hc pins s1 σ1 H1 _ I1 (turn n σ1 H1 w1)) λb s2 ⟨H2,I2,q2⟩=>?_)
 cases b with
 | true=>
  obtain⟨N,hN,q2⟩:=q2
  rw[if_pos rfl]
  refine wpAny_passesOwn hp (thn (hb pins s2 σ1 H2 _ I2 q2) λf s3 q3=>?_)
  cases f with
  | next=>
   obtain⟨σ3,H3,I3,n3⟩:=q3
   obtain⟨m',hm,w3⟩:=hN σ3 H3 n3
   exact⟨m',hm,σ3,H3,I3,w3⟩
  | cont=>
   obtain⟨σ3,H3,I3,n3⟩:=q3
   obtain⟨m',hm,w3⟩:=hN σ3 H3 n3
   exact⟨m',hm,σ3,H3,I3,w3⟩
  | brk=>exact q3
  | ret v=>exact q3
 | false=>
  rw[if_neg Bool.false_ne_true]
  exact wpAny_execs_nil ⟨σ1,H2,I2,q2⟩
end

structure It where
 go:Nat→Hp→Prop
 yld:Nat→Hp→V→Hp→Prop
 stop:Nat→Hp→Prop
def FpOk (X:Cx) (pins:List (Addr × Obj)) (H:Hp) (b:Addr):Prop:=
 H b=none∧b≠X.env.locals∧b∉X.fs∧(b∈X.ex∨X.s₀.heap.objs.size≤b)∧(∀ x c,X.env.cells.lookup x=some c→c≠b)∧∀ p∈X.pn++pins,p.1≠b
theorem Inv.fpOk {X:Cx}{pins:List (Addr × Obj)}{σ:St}{H H':Hp}{s:Shared}{b:Addr}(I:Inv X pins σ H s) (hb:s.heap.objs.size≤b) (hn:H' b=none):FpOk X pins H' b:=by
 refine⟨hn,Nat.ne_of_gt (Nat.lt_of_lt_of_le I.lt hb),I.nofs hb,.inr (Nat.le_trans I.sz hb),λx c e z=>?_,λp hp z=>?_⟩
 ·obtain⟨v,q⟩:=I.cell x c e
  exact absurd (Nat.lt_of_lt_of_le q.lt (by rw[z];exact hb)) (Nat.lt_irrefl _)
 ·exact absurd (Nat.lt_of_lt_of_le (Heap.lt_size (I.pin p hp).1) (by rw[z];exact hb)) (Nat.lt_irrefl _)
structure Turn (P:Program) (w:World) (K:Fg) (tg:Expr) (J:It) (fp:List Addr) (it:Addr) (tn:Nat→Heap→Prop):Prop where
 mem:it∈fp
 obj:∀ i h,tn i h→∀ b∈fp,∃ o,h.get? b=some o∧∀ v,o.data≠.cell v
 keep:∀ i h h',tn i h→(∀ b∈fp,∀ o,h.get? b=some o→h'.get? b=some o)→tn i h'
 item:∀ (X:Cx),X.prog=P→X.w=w→X.K=K→X.calm=true→∀ (i:Nat) (pins:List (Addr × Obj)) (s:Shared) (σ:St) (H:Hp) (E:Value→Shared→Prop),Inv X pins σ H s→(∀ b∈fp,FpOk X pins H b)→tn i s.heap→J.go i H→
  wpAny (model P w) X.A (pyNext (.ref it)) (λr s1=>∃ u,r=some u∧
   wpAny (model P w) X.A (letOwnedTupleGo tg (.ref it) u) (λ_ s2=>∃ x H',Inv X pins σ H' s2∧RelV x u∧J.yld i H x H'∧tn (i+1) s2.heap∧∀ b∈fp,H' b=none) E s1) E s
 done:∀ (X:Cx),X.prog=P→X.w=w→X.K=K→X.calm=true→∀ (i:Nat) (pins:List (Addr × Obj)) (s:Shared) (σ:St) (H:Hp) (E:Value→Shared→Prop),Inv X pins σ H s→(∀ b∈fp,FpOk X pins H b)→tn i s.heap→J.stop i H→
  wpAny (model P w) X.A (pyNext (.ref it)) (λr s1=>r=none∧Inv X pins σ H s1) E s
 self:∀ (A:Around) (i:Nat) (s:Shared) (Q:Value→Shared→Prop) (E:Value→Shared→Prop),tn i s.heap→Q (.ref it) s→wpAny (model P w) A (pyIter (.ref it)) Q E s
abbrev TI:=St→Hp→(It→Hp→Prop)→Prop
def PIE (X:Cx) (pins:List (Addr × Obj)) (σ:St) (tg:Expr) (R:It→Hp→Prop) (itv:Value) (s2:Shared):Prop:=
 ∃ (it:Addr) (fp:List Addr) (tn:Nat→Heap→Prop) (J:It) (H':Hp),itv=.ref it∧Inv X pins σ H' s2∧Turn X.prog X.w X.K tg J fp it tn∧tn 0 s2.heap∧(∀ b∈fp,FpOk X pins H' b)∧R J H'
def PI (X:Cx) (tg iter:Expr) (wi:TI):Prop:=
 ∀ (pins:List (Addr × Obj)) (s:Shared) (σ:St) (H:Hp) (R:It→Hp→Prop),Inv X pins σ H s→wi σ H R→
  wpAny (model X.prog X.w) X.A (eval iter X.env) (λv s1=>wpAny (model X.prog X.w) X.A (pyIter v) (PIE X pins σ tg R) X.xe s1) X.xe s
theorem zo9 {M:Model}{A:Around}{E:Value→Shared→Prop}{s:Shared}{tg:Expr}{it:Addr}{u:Value}{o:Obj}{n:String}{vs:Array Value}{Q:Unit→Shared→Prop}(ho:s.heap.get? it=some o) (hc:o.cls=.type n) (hd:o.data=.fields vs)
    (hn:["enumerate","zip","dict_itemiterator","dict_reverseitemiterator","odict_iterator","itertools.zip_longest","itertools.pairwise"].contains n=false) (hQ:Q () s):wpAny M A (letOwnedTupleGo tg (.ref it) u) Q E s:=by
  unfold letOwnedTupleGo
  cases tg <;> first
    | exact wpAny_pure hQ
    | (cases u <;> first
        | exact wpAny_pure hQ
        | (refine wpAny_bind (wpAny_load ho ?_)
           rw[hc,hd]
           show wpAny M A (if (["enumerate","zip","dict_itemiterator","dict_reverseitemiterator","odict_iterator","itertools.zip_longest","itertools.pairwise"].contains n && vs[0]? == some (rawInt _))=true then _ else _) Q E s
           rw[if_neg (by intro h;rw[hn,Bool.false_and] at h;cases h)]
           exact wpAny_pure hQ))
def Itl (K:Fg) (a:Addr):It:=
 ⟨λi H=>∃ xs x,SqL K H a xs∧xs[i]?=some x,λi H x H'=>H'=H∧∀ xs,SqL K H a xs→xs[i]?=some x,λi H=>∃ xs,SqL K H a xs∧xs.length≤i⟩
def Itt (K:Fg) (a:Addr):It:=
 ⟨λi H=>∃ xs x,SqT K H a xs∧xs[i]?=some x,λi H x H'=>H'=H∧∀ xs,SqT K H a xs→xs[i]?=some x,λi H=>∃ xs,SqT K H a xs∧xs.length≤i⟩
def Itr (lo:Int) (n:Nat):It:=⟨λi _=>i<n,λi H x H'=>H'=H∧x=.int (lo+i),λi _=>n≤i⟩
theorem zlR {P:Program}{w:World}{K:Fg}{tg:Expr}(a it:Addr):Turn P w K tg (Itl K a) [it] it (λi h=>h.IsListIter it a i) where
 mem:=by simp
 obj:=λi h st b hb=>by
  have e:b=it:=by simpa using hb
  subst e
  obtain⟨o,e,c,d⟩:=st
  exact⟨o,e,λv z=>by rw[d] at z;cases z⟩
 keep:=λi h h' st k=>st.at λo e=>k it (by simp) o e
 item:=by
  intro X hP hw hK hc i pins s σ H E I hf st hg
  subst hP hw hK
  obtain⟨xs,x,hq,hx⟩:=hg
  obtain⟨its,rv,p,hz⟩:=I.list hq
  obtain⟨u,hu,ru⟩:=rv.get hx
  obtain⟨f0,f1,f2,f3,f4,f5⟩:=hf it (by simp)
  refine wpAny_pyNext_list_item st p.isList (x:=u) (by simpa using hu) λh' st' sb=>?_
  have I1:Inv X pins σ H {s with heap:=h'}:=I.turned (t':=s.toks) (λb o hb e=>(sb.2 b hb).trans e) f0 f1 f3 f4 f5
  obtain⟨o,e,c,d⟩:=id st'
  exact⟨u,rfl,zo9 (s:={s with heap:=h'}) e c d (by decide) ⟨x,H,I1,ru,⟨rfl,λys hy=>by rw[I.list_inj hy hq];exact hx⟩,st',λb hb=>(hf b hb).1⟩⟩
 done:=by
  intro X hP hw hK hc i pins s σ H E I hf st hg
  subst hP hw hK
  obtain⟨xs,hq,hx⟩:=hg
  obtain⟨its,rv,p,hz⟩:=I.list hq
  obtain⟨f0,f1,f2,f3,f4,f5⟩:=hf it (by simp)
  have hl:=rv.length
  exact wpAny_pyNext_list_end (I.ok.hd hc) st p.isList (by simp;omega) λh' eb=>⟨rfl,I.turned (t':=s.toks) (λb o hb e=>eb b o hb e) f0 f1 f3 f4 f5⟩
 self:=λ_ _ _ _ _ st h=>wpAny_pyIter_listiter st h
theorem zlb {P:Program}{w:World}{K:Fg}{tg:Expr}(a it:Addr):Turn P w K tg (Itt K a) [it] it (λi h=>h.IsTupleIter it a i) where
 mem:=by simp
 obj:=λi h st b hb=>by
  have e:b=it:=by simpa using hb
  subst e
  obtain⟨o,e,c,d⟩:=st
  exact⟨o,e,λv z=>by rw[d] at z;cases z⟩
 keep:=λi h h' st k=>st.at λo e=>k it (by simp) o e
 item:=by
  intro X hP hw hK hc i pins s σ H E I hf st hg
  subst hP hw hK
  obtain⟨xs,x,hq,hx⟩:=hg
  obtain⟨its,rv,p,hz⟩:=I.tuple hq
  obtain⟨u,hu,ru⟩:=rv.get hx
  obtain⟨f0,f1,f2,f3,f4,f5⟩:=hf it (by simp)
  refine wpAny_pyNext_tuple_item st (show s.heap.IsTuple a its.toArray from p) (x:=u) (by simpa using hu) λh' st' sb=>?_
  have I1:Inv X pins σ H {s with heap:=h'}:=I.turned (t':=s.toks) (λb o hb e=>(sb.2 b hb).trans e) f0 f1 f3 f4 f5
  obtain⟨o,e,c,d⟩:=id st'
  exact⟨u,rfl,zo9 (s:={s with heap:=h'}) e c d (by decide) ⟨x,H,I1,ru,⟨rfl,λys hy=>by rw[I.tuple_inj hy hq];exact hx⟩,st',λb hb=>(hf b hb).1⟩⟩
 done:=by
  intro X hP hw hK hc i pins s σ H E I hf st hg
  subst hP hw hK
  obtain⟨xs,hq,hx⟩:=hg
  obtain⟨its,rv,p,hz⟩:=I.tuple hq
  obtain⟨f0,f1,f2,f3,f4,f5⟩:=hf it (by simp)
  have hl:=rv.length
  exact wpAny_pyNext_tuple_end (I.ok.hd hc) st (show s.heap.IsTuple a its.toArray from p) (by simp;omega) λh' eb=>⟨rfl,I.turned (t':=s.toks) (λb o hb e=>eb b o hb e) f0 f1 f3 f4 f5⟩
 self:=λ_ _ _ _ _ st h=>wpAny_pyIter_tupleiter st h
theorem zlc {P:Program}{w:World}{K:Fg}{tg:Expr}(it:Addr) (lo:Int) (n:Nat):Turn P w K tg (Itr lo n) [it] it (λi h=>IsRangeIter h it (lo+(i:Nat) * 1) ((n:Int) - (i:Nat)) 1) where
 mem:=by simp
 obj:=λi h st b hb=>by
  have e:b=it:=by simpa using hb
  subst e
  exact⟨_,st,λv z=>by
   have z':Data.fields _=Data.cell v:=z
   cases z'⟩
 keep:=λi h h' st k=>k it (by simp) _ st
 item:=by
  intro X hP hw hK hc i pins s σ H E I hf st hg
  subst hP hw hK
  obtain⟨f0,f1,f2,f3,f4,f5⟩:=hf it (by simp)
  have W:=Walks.range (prog:=X.prog) (w:=X.w) (I.ok.hd hc) it lo 1 n
  refine W.item i s _ _ hg st λv h' tk hv st' kk=>?_
  obtain⟨t,rfl⟩:=hv
  have I1:Inv X pins σ H {s with heap:=h',toks:=tk}:=I.turned (λb o hb e=>kk b o (by simpa using hb) e) f0 f1 f3 f4 f5
  refine⟨_,rfl,zo9 (s:={s with heap:=h',toks:=tk}) (n:="range_iterator") st' rfl rfl (by decide) ⟨.int (lo+i),H,I1,⟨t,?_⟩,⟨rfl,rfl⟩,st',λb hb=>(hf b hb).1⟩⟩
  rw[Int.mul_one]
 done:=by
  intro X hP hw hK hc i pins s σ H E I hf st hg
  subst hP hw hK
  obtain⟨f0,f1,f2,f3,f4,f5⟩:=hf it (by simp)
  exact wpAny_pyNext_range_end (I.ok.hd hc) st (by have:n≤i:=hg;omega) λh' eb=>⟨rfl,I.turned (t':=s.toks) (λb o hb e=>eb b o hb e) f0 f1 f3 f4 f5⟩
 self:=λ_ _ _ _ _ st h=>wpAny_pyIter_rangeiter st h
end L2

namespace L2
open PySem PySem.Spec PyProof.Rows
section
variable {X:Cx}{tg:Expr}
def zpa (K:Fg) (tl:TE):TI:=λσ H R=>tl σ H λx H1=>∃ a,x=.ref a∧(∃ xs,SqL K H1 a xs)∧R (Itl K a) H1
def iTup (K:Fg) (tl:TE):TI:=λσ H R=>tl σ H λx H1=>∃ a,x=.ref a∧(∃ xs,SqT K H1 a xs)∧R (Itt K a) H1
theorem zpb {l:Expr}{tl:TE}(hl:PE X l tl):PI X tg l (zpa X.K tl):=by
 intro pins s σ H R I h
 refine thn (hl pins s σ H _ I h) λv s1 ⟨x,H1,I1,r1,q1⟩=>?_
 obtain⟨a,e,⟨xs,hq⟩,q⟩:=q1
 subst e
 cases r1
 obtain⟨its,rv,p,hz⟩:=I1.list hq
 refine wpAny_pyIter_list p.isList ?_
 refine⟨s1.heap.objs.size,[s1.heap.objs.size],_,_,H1,rfl,I1.kept (t':=s1.toks) λb o e=>Heap.get?_push_of_some _ e,zlR a _,⟨_,Heap.get?_push_size _ rfl,rfl,rfl⟩,λb hb=>?_,q⟩
 have e:b=s1.heap.objs.size:=by simpa using hb
 subst e
 exact I1.fpOk (Nat.le_refl _) (I1.hok.fresh (Nat.le_refl _))
theorem zqn {l:Expr}{tl:TE}(hl:PE X l tl):PI X tg l (iTup X.K tl):=by
 intro pins s σ H R I h
 refine thn (hl pins s σ H _ I h) λv s1 ⟨x,H1,I1,r1,q1⟩=>?_
 obtain⟨a,e,⟨xs,hq⟩,q⟩:=q1
 subst e
 cases r1
 obtain⟨its,rv,p,hz⟩:=I1.tuple hq
 refine wpAny_pyIter_tuple (show s1.heap.IsTuple a its.toArray from p) ?_
 refine⟨s1.heap.objs.size,[s1.heap.objs.size],_,_,H1,rfl,I1.kept (t':=s1.toks) λb o e=>Heap.get?_push_of_some _ e,zlb a _,⟨_,Heap.get?_push_size _ rfl,rfl,rfl⟩,λb hb=>?_,q⟩
 have e:b=s1.heap.objs.size:=by simpa using hb
 subst e
 exact I1.fpOk (Nat.le_refl _) (I1.hok.fresh (Nat.le_refl _))
theorem znD {pins:List (Addr × Obj)}{σ:St}{H:Hp}{s:Shared}{R:It→Hp→Prop}{E:Value→Shared→Prop}{lo hi:Int}{t u v:Tok}{tk:Nat}(I:Inv X pins σ H s) (h1:-(2 ^ 62)≤lo) (h2:lo<2 ^ 62) (h3:-(2 ^ 62)≤hi) (h4:hi<2 ^ 62)
  (q:R (Itr lo (hi - lo).toNat) H):wpAny (model X.prog X.w) X.A (pyIter (.ref s.heap.objs.size)) (PIE X pins σ tg R) E {s with heap:=s.heap.push {cls:=.type "range",data:=.fields #[.int lo t,.int hi u,.int 1 v]},toks:=tk}:=by
 refine wpAny_pyIter_range (IsRange.new ..) (small_one h1 h2 h3 h4) ?_
 have I1:Inv X pins σ H {s with heap:=s.heap.push {cls:=.type "range",data:=.fields #[.int lo t,.int hi u,.int 1 v]},toks:=tk}:=I.kept λb o e=>Heap.get?_push_of_some _ e
 refine⟨(s.heap.push {cls:=.type "range",data:=.fields #[.int lo t,.int hi u,.int 1 v]}).objs.size,[(s.heap.push {cls:=.type "range",data:=.fields #[.int lo t,.int hi u,.int 1 v]}).objs.size],_,_,H,rfl,
  I1.kept (t':=tk) λb o e=>Heap.get?_push_of_some _ e,zlc _ lo (hi - lo).toNat,?_,λb hb=>?_,q⟩
 ·have e1:lo+((0:Nat):Int) * 1=lo:=by simp
  have e2:(((hi - lo).toNat:Nat):Int) - ((0:Nat):Int)=Builtin.Range.rangeSize lo hi 1:=by rw[rangeSize_one];split <;> omega
  show IsRangeIter _ _ (lo+((0:Nat):Int) * 1) ((((hi - lo).toNat:Nat):Int) - ((0:Nat):Int)) 1
  rw[e1,e2]
  exact Heap.get?_push_size _ rfl
 ·have e:b=(s.heap.push {cls:=.type "range",data:=.fields #[.int lo t,.int hi u,.int 1 v]}).objs.size:=by simpa using hb
  subst e
  exact I1.fpOk (Nat.le_refl _) (I1.hok.fresh (Nat.le_refl _))
def zqo (ta:TA):TI:=λσ H R=>ta σ H λvs H1=>∃ j:Int,vs=[.int j]∧-(2 ^ 62)≤j∧j<2 ^ 62∧R (Itr 0 j.toNat) H1
theorem zbJ {a:Expr}{ta:TA}{p pos:Pos}(hg:Gl X "range") (hm:X.mg "range"=none) (ha:PA X [a] ta) (hs:starEach [a] X.env=[(false,eval a X.env)]:=by rfl):PI X tg (.Call (.Name "range" p) [a] [] pos) (zqo ta):=by
 intro pins s σ H R I h
 refine Call_ (zgl I hg hm boot_range (PyProof.Rows.callWith_type1 (thn (ha pos pins s σ H _ I h) λus s1 ⟨vs,H1,I1,r1,q1⟩=>?_) hs rfl))
 obtain⟨j,e,q1,q2,q⟩:=q1
 subst e
 cases r1 with
 | cons r rr=>
  cases rr
  obtain⟨t,rfl⟩:=r
  exact call_range_1 (znD I1 (by omega) (by omega) q1 q2 (by simpa using q))
def tFor (wi:TI) (g:TG) (tb:TS):TS:=λD σ H=>wi σ H λJ H1=>∃ W:Nat→Nat→St→Hp→Prop,(∃ m,W 0 m σ H1)∧∀ i m σ H,W i m σ H→
 (J.stop i H∧D.nx σ H)∨(J.go i H∧∃ N:St→Hp→Prop,(∀ σ' H',N σ' H'→∃ m',m'<m∧W (i+1) m' σ' H')∧∀ x H',J.yld i H x H'→g x σ H' λσ2 H2=>tb {D with nx:=N,ct:=N,bk:=D.nx} σ2 H2)
def ziF (fp:List Addr) (h:Heap):List (Addr × Obj):=fp.filterMap λb=>(h.get? b).map λo=>(b,o)
theorem zeC {fp:List Addr}{h:Heap}{b:Addr}{o:Obj}(hb:b∈fp) (e:h.get? b=some o):(b,o)∈ziF fp h:=List.mem_filterMap.mpr ⟨b,hb,by rw[e];rfl⟩
theorem zlS {fp:List Addr}{h:Heap}{p:Addr × Obj}(hp:p∈ziF fp h):p.1∈fp∧h.get? p.1=some p.2:=by
 obtain⟨b,hb,e⟩:=List.mem_filterMap.mp hp
 cases q:h.get? b with
 | none=>rw[q] at e;cases e
 | some o=>
  rw[q] at e
  have e':(b,o)=p:=Option.some.inj e
  subst e'
  exact⟨hb,q⟩
theorem Inv.pinned {pins:List (Addr × Obj)}{σ:St}{H:Hp}{s:Shared}{fp:List Addr}(I:Inv X pins σ H s) (hf:∀ b∈fp,FpOk X pins H b) (ho:∀ b∈fp,∃ o,s.heap.get? b=some o∧∀ v,o.data≠.cell v):Inv X (pins++ziF fp s.heap) σ H s:=
 I.pins_of λp hp=>(zma.mp hp).elim (λz=>I.pin p (List.mem_append_right _ z)) λz=>by
  obtain⟨hb,e⟩:=zlS z
  obtain⟨f0,f1,f2,_⟩:=hf p.1 hb
  obtain⟨o,e',d⟩:=ho p.1 hb
  rw[e] at e';cases e'
  exact⟨e,f0,f1,f2,d⟩
theorem Inv.unpinned {pins pl:List (Addr × Obj)}{σ:St}{H:Hp}{s:Shared}(I:Inv X (pins++pl) σ H s):Inv X pins σ H s:=I.pins_of λp hp=>I.pin p (List.mem_append_right _ (List.mem_append_left _ hp))
theorem zds {iter:Expr}{body:List Stmt}{wi:TI}{g:TG}{tb:TS}{pos:Pos}(hp:PassesOwn (model X.prog X.w) X.A X.env X.xe) (hc:X.calm=true) (hi:PI X tg iter wi) (hg:PG X tg g) (hb:PSs X body tb)
  (hs:∀ x,foldedSetIterable iter X.env x=pure x:=by intro _;rfl):PS X (.For tg iter body [] pos) (tFor wi g tb):=by
 intro pins s σ H D I h
 refine wpAny_For (thn (hi pins s σ H _ I h) λv s1 h1=>thn h1 λitv s2 h2=>?_) hs
 obtain⟨it,fp,tn,J,H2,e,I2,T,st2,f2,W,⟨m0,w0⟩,turn⟩:=h2
 subst e
 -- what stays true of the iterator's objects through the loop
 have stat:∀ {H':Hp},(∀ b∈fp,H' b=none)→∀ b∈fp,FpOk X pins H' b:=λhn b hb=>⟨hn b hb,(f2 b hb).2⟩
 refine codeAny_forLoop_any (λn s'=>∃ i σ' H',Inv X pins σ' H' s'∧tn i s'.heap∧(∀ b∈fp,H' b=none)∧W i n σ' H') ?_ m0 ⟨0,σ,H2,I2,st2,λb hb=>(f2 b hb).1,w0⟩
 rintro n s3 ⟨i,σ3,H3,I3,st3,fr3,w3⟩
 rcases turn i n σ3 H3 w3 with ⟨stop,qn⟩ | ⟨go,N,hN,step⟩
 ·refine wpAny_passesOwn hp (thn (T.done X rfl rfl rfl hc i pins s3 σ3 H3 X.xe I3 (stat fr3) st3 stop) λr s4 ⟨hr,I4⟩=>?_)
  subst hr
  exact wpAny_execs_nil ⟨σ3,H3,I4,qn⟩
 ·refine wpAny_passesOwn hp (thn (T.item X rfl rfl rfl hc i pins s3 σ3 H3 X.xe I3 (stat fr3) st3 go) λr s4 ⟨u,hr,h4⟩=>?_)
  subst hr
  refine wpAny_passesOwn hp (thn h4 λ_ s5 ⟨x,H5,I5,r5,y5,st5,fr5⟩=>?_)
  have I5':=I5.pinned (stat fr5) (T.obj _ _ st5)
  refine wpAny_passesOwn hp (thn (hg _ s5 σ3 H5 x u _ I5' r5 (step x H5 y5)) λ_ s6 ⟨σ6,H6,I6,q6⟩=>?_)
  refine wpAny_passesOwn hp (thn (hb _ s6 σ6 H6 _ I6 q6) λf s7 q7=>?_)
  have again:∀ {σ7:St}{H7:Hp},Inv X (pins++ziF fp s5.heap) σ7 H7 s7→N σ7 H7→∃ m,m<n∧∃ i σ' H',Inv X pins σ' H' s7∧tn i s7.heap∧(∀ b∈fp,H' b=none)∧W i m σ' H':=λ{σ7 H7} I7 n7=>by
   obtain⟨m',hm,w7⟩:=hN σ7 H7 n7
   refine⟨m',hm,i+1,σ7,H7,I7.unpinned,T.keep _ _ _ st5 λb hb o e=>(I7.pin (b,o) (List.mem_append_right _ (List.mem_append_right _ (zeC hb e)))).1,λb hb=>?_,w7⟩
   obtain⟨o,e,d⟩:=T.obj _ _ st5 b hb
   exact (I7.pin (b,o) (List.mem_append_right _ (List.mem_append_right _ (zeC hb e)))).2.1
  cases f with
  | next=>obtain⟨σ7,H7,I7,n7⟩:=q7;exact again I7 n7
  | cont=>obtain⟨σ7,H7,I7,n7⟩:=q7;exact again I7 n7
  | brk=>obtain⟨σ7,H7,I7,q7⟩:=q7;exact⟨σ7,H7,I7.unpinned,q7⟩
  | ret v=>obtain⟨x7,σ7,H7,I7,r7,q7⟩:=q7;exact⟨x7,σ7,H7,I7.unpinned,r7,q7⟩
end

theorem znE {K:Fg}{a:Addr}{xs:List V}{g:TG}{tb:TS}{D:Ends}{σ:St}{H:Hp}(Pv:Nat→St→Hp→Prop) (h0:Pv 0 σ H) (hl:∀ i σ H,i≤xs.length→Pv i σ H→SqL K H a xs)
  (hs:∀ i x σ H,xs[i]?=some x→Pv i σ H→g x σ H λσ2 H2=>tb {D with nx:=Pv (i+1),ct:=Pv (i+1),bk:=D.nx} σ2 H2) (hd:∀ σ H,Pv xs.length σ H→D.nx σ H) :
  ∃ W:Nat→Nat→St→Hp→Prop,(∃ m,W 0 m σ H)∧∀ i m σ H,W i m σ H→
   ((Itl K a).stop i H∧D.nx σ H)∨((Itl K a).go i H∧∃ N:St→Hp→Prop,(∀ σ' H',N σ' H'→∃ m',m'<m∧W (i+1) m' σ' H')∧∀ x H',(Itl K a).yld i H x H'→g x σ H' λσ2 H2=>tb {D with nx:=N,ct:=N,bk:=D.nx} σ2 H2):=by
 refine⟨λi m σ H=>m=xs.length - i∧i≤xs.length∧Pv i σ H,⟨xs.length,by simp,Nat.zero_le _,h0⟩,?_⟩
 rintro i m σ H ⟨rfl,hi,p⟩
 have q:=hl i σ H hi p
 by_cases hlt:i<xs.length
 ·refine .inr ⟨⟨xs,xs[i],q,by simp[hlt]⟩,Pv (i+1),λσ' H' p'=>⟨xs.length - (i+1),by omega,rfl,hlt,p'⟩,λx H' y=>?_⟩
  obtain⟨e,y⟩:=y
  subst e
  exact hs i x σ _ (y xs q) p
 ·have e:i=xs.length:=by omega
  subst e
  exact .inl ⟨⟨xs,q,Nat.le_refl _⟩,hd σ H p⟩
theorem zlT {lo:Int}{n:Nat}{g:TG}{tb:TS}{D:Ends}{σ:St}{H:Hp}(Pv:Nat→St→Hp→Prop) (h0:Pv 0 σ H)
  (hs:∀ i σ H,i<n→Pv i σ H→g (.int (lo+i)) σ H λσ2 H2=>tb {D with nx:=Pv (i+1),ct:=Pv (i+1),bk:=D.nx} σ2 H2) (hd:∀ σ H,Pv n σ H→D.nx σ H) :
  ∃ W:Nat→Nat→St→Hp→Prop,(∃ m,W 0 m σ H)∧∀ i m σ H,W i m σ H→
   ((Itr lo n).stop i H∧D.nx σ H)∨((Itr lo n).go i H∧∃ N:St→Hp→Prop,(∀ σ' H',N σ' H'→∃ m',m'<m∧W (i+1) m' σ' H')∧∀ x H',(Itr lo n).yld i H x H'→g x σ H' λσ2 H2=>tb {D with nx:=N,ct:=N,bk:=D.nx} σ2 H2):=by
 refine⟨λi m σ H=>m=n - i∧i≤n∧Pv i σ H,⟨n,by simp,Nat.zero_le _,h0⟩,?_⟩
 rintro i m σ H ⟨rfl,hi,p⟩
 by_cases hlt:i<n
 ·refine .inr ⟨hlt,Pv (i+1),λσ' H' p'=>⟨n - (i+1),by omega,rfl,hlt,p'⟩,λx H' y=>?_⟩
  obtain⟨e,y⟩:=y
  subst e y
  exact hs i σ _ hlt p
 ·have e:i=n:=by omega
  subst e
  exact .inl ⟨Nat.le_refl _,hd σ H p⟩
end L2

namespace L2
open PySem PySem.Spec PyProof.Rows

abbrev R2:=V→V→Hp→VK→Prop
def OpR (X:Cx) (f:Value→Value→Sem Value) (r:R2):Prop:=
 ∀ (pins:List (Addr × Obj)) (s:Shared) (σ:St) (H:Hp) (x y:V) (v u:Value) (Q:VK),Inv X pins σ H s→RelV x v→RelV y u→r x y H Q→
  wpAny (model X.prog X.w) X.A (f v u) (EP X pins σ Q) X.xe s
def UnR (X:Cx) (f:Value→Sem Value) (r:V→Hp→VK→Prop):Prop:=
 ∀ (pins:List (Addr × Obj)) (s:Shared) (σ:St) (H:Hp) (x:V) (v:Value) (Q:VK),Inv X pins σ H s→RelV x v→r x H Q→
  wpAny (model X.prog X.w) X.A (f v) (EP X pins σ Q) X.xe s
def zcB (X:Cx) (f:Value) (r:List V→Hp→VK→Prop):Prop:=
 ∀ (pins:List (Addr × Obj)) (s:Shared) (σ:St) (H:Hp) (xs:List V) (us:List Value) (Q:VK),Inv X pins σ H s→Vals xs us→r xs H Q→
  wpAny (model X.prog X.w) X.A (call f us) (EP X pins σ Q) X.xe s
def tOp (r:R2) (ta tb:TE):TE:=λσ H Q=>ta σ H λx H1=>tb σ H1 λy H2=>r x y H2 Q
def tUn (r:V→Hp→VK→Prop) (ta:TE):TE:=λσ H Q=>ta σ H λx H1=>r x H1 Q
def rI (C:Int→Int→Prop) (g:Int→Int→V):R2:=λx y H Q=>∃ i j,x=.int i∧y=.int j∧C i j∧Q (g i j) H
def rI0 (g:Int→Int→V):R2:=λx y H Q=>∃ i j,x=.int i∧y=.int j∧Q (g i j) H
def rU (g:Int→V):V→Hp→VK→Prop:=λx H Q=>∃ i,x=.int i∧Q (g i) H
section
variable {X:Cx}{a b c:Expr}{ta tb tc:TE}{pos:Pos}

theorem binT (ha:PE X a ta) (hb:PE X b tb) {pins:List (Addr × Obj)}{s:Shared}{σ:St}{H:Hp}{R:V→V→Hp→Prop}(I:Inv X pins σ H s)
  (h:ta σ H λx H1=>tb σ H1 λy H2=>R x y H2) {Q:Value→Shared→Prop}{f:Value→Value→Sem Value}
  (hf:∀ v u s2 x y H2,Inv X pins σ H2 s2→RelV x v→RelV y u→R x y H2→wpAny (model X.prog X.w) X.A (f v u) Q X.xe s2) :
  wpAny (model X.prog X.w) X.A (eval a X.env) (λv s₁=>wpAny (model X.prog X.w) X.A (eval b X.env) (λu s₂=>wpAny (model X.prog X.w) X.A (f v u) Q X.xe s₂) X.xe s₁) X.xe s:=by
 refine thn (ha pins s σ H _ I h) λv s1 ⟨x,H1,I1,r1,q1⟩=>?_
 refine thn (hb pins s1 σ H1 _ I1 q1) λu s2 ⟨y,H2,I2,r2,q2⟩=>?_
 exact hf v u s2 x y H2 I2 r1 r2 q2
theorem zam {op:Operator}{r:R2}(ho:OpR X (binaryOp op) r) (ha:PE X a ta) (hb:PE X b tb):PE X (.BinOp a op b pos) (tOp r ta tb):=by
 intro pins s σ H Q I h
 exact wpAny_BinOp (binT ha hb I h λv u s2 x y H2 I2 rx ry q=>ho pins s2 σ H2 x y v u Q I2 rx ry q)
theorem zdZ {op:UnaryOp}{r:V→Hp→VK→Prop}(ho:UnR X (unaryOp op) r) (ha:PE X a ta):PE X (.UnaryOp op a pos) (tUn r ta):=by
 intro pins s σ H Q I h
 exact UnaryOp_ (thn (ha pins s σ H _ I h) λv s1 ⟨x,H1,I1,r1,q1⟩=>ho pins s1 σ H1 x v Q I1 r1 q1)
theorem opI {f:Value→Value→Sem Value}{C:Int→Int→Prop}{g:Int→Int→Int}
  (rule:∀ (i j:Int) (t u:Tok) (s:Shared) (Q:Value→Shared→Prop) (E:Value→Shared→Prop),C i j→Q (.int (g i j) s.toks) {s with toks:=s.toks+1}→wpAny (model X.prog X.w) X.A (f (.int i t) (.int j u)) Q E s) :
  OpR X f (rI C λi j=>.int (g i j)):=by
 intro pins s σ H x y v u Q I rx ry h
 obtain⟨i,j,rfl,rfl,hc,q⟩:=h
 obtain⟨t,rfl⟩:=rx
 obtain⟨t',rfl⟩:=ry
 exact rule i j t t' s _ _ hc ⟨.int (g i j),H,I.tok _,⟨_,rfl⟩,q⟩
theorem opI0 {f:Value→Value→Sem Value}{g:Int→Int→Int}
  (rule:∀ (i j:Int) (t u:Tok) (s:Shared) (Q:Value→Shared→Prop) (E:Value→Shared→Prop),Q (.int (g i j) s.toks) {s with toks:=s.toks+1}→wpAny (model X.prog X.w) X.A (f (.int i t) (.int j u)) Q E s) :
  OpR X f (rI0 λi j=>.int (g i j)):=by
 intro pins s σ H x y v u Q I rx ry h
 obtain⟨i,j,rfl,rfl,q⟩:=h
 obtain⟨t,rfl⟩:=rx
 obtain⟨t',rfl⟩:=ry
 exact rule i j t t' s _ _ ⟨.int (g i j),H,I.tok _,⟨_,rfl⟩,q⟩
theorem opB0 {f:Value→Value→Sem Value}{g:Int→Int→Bool}
  (rule:∀ (i j:Int) (t u:Tok) (s:Shared) (Q:Value→Shared→Prop) (E:Value→Shared→Prop),Q (.bool (g i j)) s→wpAny (model X.prog X.w) X.A (f (.int i t) (.int j u)) Q E s) :
  OpR X f (rI0 λi j=>.bl (g i j)):=by
 intro pins s σ H x y v u Q I rx ry h
 obtain⟨i,j,rfl,rfl,q⟩:=h
 obtain⟨t,rfl⟩:=rx
 obtain⟨t',rfl⟩:=ry
 exact rule i j t t' s _ _ ⟨.bl (g i j),H,I,rfl,q⟩
def CDiv (i j:Int):Prop:=0<j∧j<1073741824
def CPow (i j:Int):Prop:=0≤j∧j≤1000000∧i.natAbs<2 ^ 64
def CMul (i j:Int):Prop:=(-(2 ^ 64)<i∧i<2 ^ 64)∨(-(2 ^ 64)<j∧j<2 ^ 64)
theorem CMul.ok {i j:Int}(h:CMul i j):IntMulOk i j:=by
 rcases h with ⟨h1,h2⟩ | ⟨h1,h2⟩
 ·exact .of_left (intBits_le_64 h1 h2)
 ·exact .of_right (intBits_le_64 h1 h2)
theorem zqp:OpR X (binaryOp .Add) (rI0 λi j=>.int (i+j)):=opI0 λ_ _ _ _ _ _ _ q=>add_int q
theorem ziG:OpR X (binaryOp .Sub) (rI0 λi j=>.int (i - j)):=opI0 λ_ _ _ _ _ _ _ q=>sub_int q
theorem zqq:OpR X (binaryOp .Mult) (rI CMul λi j=>.int (i * j)):=opI λ_ _ _ _ _ _ _ hc q=>mul_int q hc.ok
theorem zaS:OpR X (binaryOp .FloorDiv) (rI CDiv λi j=>.int (i / j)):=opI λi j _ _ _ _ _ hc q=>by
 have h1:(0:Int)<j:=hc.1
 have h2:j<1073741824:=hc.2
 exact floordiv_int (by omega) (by rw[Int.fdiv_eq_ediv_of_nonneg i (by omega)];exact q) (.inl (PyProof.noPylong_small (by omega)))
theorem zaV:OpR X (binaryOp .Mod) (rI (λ_ j=>0<j) λi j=>.int (i % j)):=opI λi j _ _ _ _ _ hc q=>by
 have h1:(0:Int)<j:=hc
 exact mod_int' (by omega) (by rw[Int.fmod_eq_emod_of_nonneg i (by omega)];exact q)
theorem zhy:OpR X (binaryOp .Pow) (rI CPow λi j=>.int (i ^ j.toNat)):=opI λ_ _ _ _ _ _ _ hc q=>pow_int_small hc.1 hc.2.1 hc.2.2 q
theorem unI {f:Value→Sem Value}{g:Int→Int}
  (rule:∀ (i:Int) (t:Tok) (s:Shared) (Q:Value→Shared→Prop) (E:Value→Shared→Prop),Q (.int (g i) s.toks) {s with toks:=s.toks+1}→wpAny (model X.prog X.w) X.A (f (.int i t)) Q E s) :
  UnR X f (rU λi=>.int (g i)):=by
 intro pins s σ H x v Q I rx h
 obtain⟨i,rfl,q⟩:=h
 obtain⟨t,rfl⟩:=rx
 exact rule i t s _ _ ⟨.int (g i),H,I.tok _,⟨_,rfl⟩,q⟩
theorem zcp:UnR X (unaryOp .USub) (rU λi=>.int (-i)):=unI λ_ _ _ _ _ q=>neg_int q
end

def scal:V→V→Bool
 | .non,.non=>true | .non,.int _=>true | .int _,.non=>true | .non,.bl _=>true | .bl _,.non=>true | .non,.str _=>true | .str _,.non=>true
 | .int _,.int _=>true | .bl _,.bl _=>true | .str _,.str _=>true | .byt _,.byt _=>true
 | .int _,.str _=>true | .str _,.int _=>true | .bl _,.str _=>true | .str _,.bl _=>true
 | _,_=>false
def rEq:R2:=λx y H Q=>scal x y=true∧Q (.bl (decide (x=y))) H
def rNe:R2:=λx y H Q=>scal x y=true∧Q (.bl (!decide (x=y))) H
theorem zlU {i j:Int} : decide (V.int i=V.int j)=(i == j):=by
 rw[Bool.eq_iff_iff]
 simp
theorem zoG {i j:Bool} : decide (V.bl i=V.bl j)=(i == j):=by
 rw[Bool.eq_iff_iff]
 simp
theorem zlV {i j:Str} : decide (V.str i=V.str j)=(i == j):=by
 rw[Bool.eq_iff_iff]
 simp
theorem zlW {i j:Array UInt8} : decide (V.byt i=V.byt j)=(i.toList == j.toList):=by
 rw[Bool.eq_iff_iff]
 cases i
 cases j
 simp
section
variable {X:Cx}{a b c:Expr}{ta tb tc:TE}{pos:Pos}
theorem zbf {pins:List (Addr × Obj)}{σ:St}{H:Hp}{s:Shared}{Q:VK}{k k':Bool}(I:Inv X pins σ H s) (q:Q (.bl k) H) (e:k=k'):EP X pins σ Q (.bool k') s:=by
 subst e
 exact⟨.bl k,H,I,rfl,q⟩
theorem op_eq:OpR X (compareOp .Eq) rEq:=by
 intro pins s σ H x y v u Q I rx ry h
 obtain⟨hs,q⟩:=h
 cases x with
 | non=>
  cases rx
  cases y with
  | non=>cases ry;exact PySem.EqNone.eq_none_none (zbf I q (by simp))
  | bl j=>cases ry;exact PySem.EqNone.eq_none_bool (zbf I q (by simp))
  | int j=>obtain⟨t',rfl⟩:=ry;exact PySem.EqNone.eq_none_int (zbf I q (by simp))
  | str j=>obtain⟨t',rfl⟩:=ry;exact PySem.EqNone.eq_none_str (zbf I q (by simp))
  | _=>exact absurd (show false=true from hs) Bool.false_ne_true
 | bl i=>
  cases rx
  cases y with
  | non=>cases ry;exact PySem.EqNone.eq_bool_none (zbf I q (by simp))
  | bl j=>cases ry;exact eq_bool (zbf I q zoG)
  | str j=>obtain⟨t',rfl⟩:=ry;exact PySem.EqMixed.eq_bool_str (zbf I q (by simp))
  | _=>exact absurd (show false=true from hs) Bool.false_ne_true
 | int i=>
  obtain⟨t,rfl⟩:=rx
  cases y with
  | non=>cases ry;exact PySem.EqNone.eq_int_none (zbf I q (by simp))
  | int j=>obtain⟨t',rfl⟩:=ry;exact eq_int (zbf I q zlU)
  | str j=>obtain⟨t',rfl⟩:=ry;exact PySem.EqMixed.eq_int_str (zbf I q (by simp))
  | _=>exact absurd (show false=true from hs) Bool.false_ne_true
 | str i=>
  obtain⟨t,rfl⟩:=rx
  cases y with
  | non=>cases ry;exact PySem.EqNone.eq_str_none (zbf I q (by simp))
  | bl j=>cases ry;exact PySem.EqMixed.eq_str_bool (zbf I q (by simp))
  | int j=>obtain⟨t',rfl⟩:=ry;exact PySem.EqMixed.eq_str_int (zbf I q (by simp))
  | str j=>obtain⟨t',rfl⟩:=ry;exact eq_str (zbf I q zlV)
  | _=>exact absurd (show false=true from hs) Bool.false_ne_true
 | byt i=>
  obtain⟨t,rfl⟩:=rx
  cases y with
  | byt j=>obtain⟨t',rfl⟩:=ry;exact PySem.W.eq_bytes (zbf I q zlW)
  | _=>exact absurd (show false=true from hs) Bool.false_ne_true
 | _=>cases y <;> exact absurd (show false=true from hs) Bool.false_ne_true
theorem op_ne:OpR X (compareOp .NotEq) rNe:=by
 intro pins s σ H x y v u Q I rx ry h
 obtain⟨hs,q⟩:=h
 cases x with
 | non=>
  cases rx
  cases y with
  | non=>cases ry;exact PySem.EqNone.ne_none_none (zbf I q (by simp))
  | bl j=>cases ry;exact PySem.EqNone.ne_none_bool (zbf I q (by simp))
  | int j=>obtain⟨t',rfl⟩:=ry;exact PySem.EqNone.ne_none_int (zbf I q (by simp))
  | str j=>obtain⟨t',rfl⟩:=ry;exact PySem.EqNone.ne_none_str (zbf I q (by simp))
  | _=>exact absurd (show false=true from hs) Bool.false_ne_true
 | bl i=>
  cases rx
  cases y with
  | non=>cases ry;exact PySem.EqNone.ne_bool_none (zbf I q (by simp))
  | bl j=>cases ry;exact ne_bool (zbf I q (congrArg not zoG))
  | str j=>obtain⟨t',rfl⟩:=ry;exact PySem.EqMixed.ne_bool_str (zbf I q (by simp))
  | _=>exact absurd (show false=true from hs) Bool.false_ne_true
 | int i=>
  obtain⟨t,rfl⟩:=rx
  cases y with
  | non=>cases ry;exact PySem.EqNone.ne_int_none (zbf I q (by simp))
  | int j=>obtain⟨t',rfl⟩:=ry;exact ne_int (zbf I q (congrArg not zlU))
  | str j=>obtain⟨t',rfl⟩:=ry;exact PySem.EqMixed.ne_int_str (zbf I q (by simp))
  | _=>exact absurd (show false=true from hs) Bool.false_ne_true
 | str i=>
  obtain⟨t,rfl⟩:=rx
  cases y with
  | non=>cases ry;exact PySem.EqNone.ne_str_none (zbf I q (by simp))
  | bl j=>cases ry;exact PySem.EqMixed.ne_str_bool (zbf I q (by simp))
  | int j=>obtain⟨t',rfl⟩:=ry;exact PySem.EqMixed.ne_str_int (zbf I q (by simp))
  | str j=>obtain⟨t',rfl⟩:=ry;exact ne_str (zbf I q (congrArg not zlV))
  | _=>exact absurd (show false=true from hs) Bool.false_ne_true
 | byt i=>
  obtain⟨t,rfl⟩:=rx
  cases y with
  | byt j=>obtain⟨t',rfl⟩:=ry;exact PySem.W.ne_bytes (zbf I q (congrArg not zlW))
  | _=>exact absurd (show false=true from hs) Bool.false_ne_true
 | _=>cases y <;> exact absurd (show false=true from hs) Bool.false_ne_true
theorem zld:OpR X (compareOp .Lt) (rI0 λi j=>.bl (decide (i<j))):=opB0 λ_ _ _ _ _ _ _ q=>lt_int q
theorem znF:OpR X (compareOp .LtE) (rI0 λi j=>.bl (decide (i≤j))):=opB0 λ_ _ _ _ _ _ _ q=>le_int q
theorem zlX:OpR X (compareOp .Gt) (rI0 λi j=>.bl (decide (j<i))):=opB0 λ_ _ _ _ _ _ _ q=>gt_int q
theorem zlY:OpR X (compareOp .Is) (λx y H Q=>y=.non∧Q (.bl (decide (x=.non))) H):=by
 intro pins s σ H x y v u Q I rx ry h
 obtain⟨rfl,q⟩:=h
 cases ry
 refine is_none_gen (zbf I q ?_)
 cases x <;> first
  | (cases rx;rfl)
  | (obtain⟨t,rfl⟩:=rx;rfl)
theorem zpc:OpR X (compareOp .IsNot) (λx y H Q=>y=.non∧Q (.bl (!decide (x=.non))) H):=by
 intro pins s σ H x y v u Q I rx ry h
 obtain⟨rfl,q⟩:=h
 cases ry
 refine isnot_none_gen (zbf I q ?_)
 cases x <;> first
  | (cases rx;rfl)
  | (obtain⟨t,rfl⟩:=rx;rfl)
theorem OpR.or {f:Value→Value→Sem Value}{r r':R2}(h:OpR X f r) (h':OpR X f r'):OpR X f (λx y H Q=>r x y H Q∨r' x y H Q):=by
 intro pins s σ H x y v u Q I rx ry q
 rcases q with q | q
 ·exact h pins s σ H x y v u Q I rx ry q
 ·exact h' pins s σ H x y v u Q I rx ry q
theorem zav (b:Expr) {op:CmpOp}(h:op≠.In:=by decide) (h2:op≠.NotIn:=by decide):behindInMarks op b=false:=by
 have e1:(op == CmpOp.In)=false:=by cases op <;> first | rfl | exact absurd rfl h
 have e2:(op == CmpOp.NotIn)=false:=by cases op <;> first | rfl | exact absurd rfl h2
 cases b <;> simp[behindInMarks,e1,e2]
theorem zbh {op:CmpOp}{r:R2}(ho:OpR X (compareOp op) r) (ha:PE X a ta) (hb:PE X b tb) (hm:behindInMarks op b=false):PE X (.Compare a [op] [b] pos) (tOp r ta tb):=by
 intro pins s σ H Q I h
 exact wpAny_Compare1 (binT ha hb I h λv u s2 x y H2 I2 rx ry q=>ho pins s2 σ H2 x y v u Q I2 rx ry q) hm
def zqr (t:TE):TT:=λσ H Q=>t σ H λx H'=>∃ k,x=.bl k∧Q k H'
theorem zau {op:CmpOp}{r:R2}(ho:OpR X (compareOp op) r) (ha:PE X a ta) (hb:PE X b tb) (hm:behindInMarks op b=false):PT X (.Compare a [op] [b] pos) (zqr (tOp r ta tb)):=by
 intro pins s σ H Q I h
 refine wpAny_isTrue_Compare1 (thn (ha pins s σ H _ I h) λv s1 ⟨x,H1,I1,r1,q1⟩=>thn (hb pins s1 σ H1 _ I1 q1) λu s2 ⟨y,H2,I2,r2,q2⟩=>
  thn (ho pins s2 σ H2 x y v u _ I2 r1 r2 q2) λc s3 ⟨z,H3,I3,r3,k,e,q3⟩=>?_) hm
 subst e
 cases r3
 exact wpAny_truthy_bool ⟨H3,I3,q3⟩
def zoH (r r':R2) (ta tb tc:TE):TE:=λσ H Q=>ta σ H λx H1=>tb σ H1 λy H2=>r x y H2 λz H3=>∃ k,z=.bl k∧
 (if k=true then tc σ H3 λw' H4=>r' y w' H4 Q else Q (.bl false) H3)
theorem znG {op op':CmpOp}{r r':R2}(ho:OpR X (compareOp op) r) (ho':OpR X (compareOp op') r') (ha:PE X a ta) (hb:PE X b tb) (hc:PE X c tc)
  (hm:lastMarks [op,op'] [b,c]=false:=by with_unfolding_all rfl):PE X (.Compare a [op,op'] [b,c] pos) (zoH r r' ta tb tc):=by
 intro pins s σ H Q I h
 refine Compare_chain (thn (ha pins s σ H _ I h) λv s1 ⟨x,H1,I1,r1,q1⟩=>chain_link (thn (hb pins s1 σ H1 _ I1 q1) λu s2 ⟨y,H2,I2,r2,q2⟩=>
  thn (ho pins s2 σ H2 x y v u _ I2 r1 r2 q2) λd s3 ⟨z,H3,I3,r3,k,e,q3⟩=>?_)) hm
 subst e
 cases r3
 refine wpAny_truthy_bool ?_
 cases k with
 | false=>exact ite_ff ⟨.bl false,H3,I3,rfl,q3⟩
 | true=>exact ite_tt (chain_last (thn (hc pins s3 σ H3 _ I3 q3) λw' s4 ⟨z',H4,I4,r4,q4⟩=>ho' pins s4 σ H4 y z' u w' Q I4 r2 r4 q4))
theorem ziH:(sizeLine:Nat)<2 ^ 63:=by rw[sizeLine_eq];decide
theorem zhT {x:V}{us:List Value}(r:Vals [x] us):∃ u,us=[u]∧RelV x u:=by
 cases r with
 | cons r1 r2=>cases r2;exact⟨_,rfl,r1⟩
theorem zpd {x y:V}{us:List Value}(r:Vals [x,y] us):∃ u w',us=[u,w']∧RelV x u∧RelV y w':=by
 cases r with
 | cons r1 r2=>
  cases r2 with
  | cons r3 r4=>cases r4;exact⟨_,_,rfl,r1,r3⟩
theorem zlZ (hc:X.calm=true):zcB X (.builtin "max") (λxs H Q=>∃ i j,xs=[.int i,.int j]∧Q (.int (if j>i then j else i)) H):=by
 intro pins s σ H xs us Q I r h
 obtain⟨i,j,rfl,q⟩:=h
 obtain⟨u,w',rfl,⟨t,rfl⟩,⟨t',rfl⟩⟩:=zpd r
 refine max_two_ints (I.ok.hd hc) λh' tk k=>⟨_,H,I.kept k,?_,q⟩
 by_cases hj:j>i
 ·rw[if_pos hj,if_pos hj];exact⟨_,rfl⟩
 ·rw[if_neg hj,if_neg hj];exact⟨_,rfl⟩
theorem zl0 (hc:X.calm=true):zcB X (.builtin "min") (λxs H Q=>∃ i j,xs=[.int i,.int j]∧Q (.int (if j<i then j else i)) H):=by
 intro pins s σ H xs us Q I r h
 obtain⟨i,j,rfl,q⟩:=h
 obtain⟨u,w',rfl,⟨t,rfl⟩,⟨t',rfl⟩⟩:=zpd r
 refine min_two_ints (I.ok.hd hc) λh' tk k=>⟨_,H,I.kept k,?_,q⟩
 by_cases hj:j<i
 ·rw[if_pos hj,if_pos hj];exact⟨_,rfl⟩
 ·rw[if_neg hj,if_neg hj];exact⟨_,rfl⟩
theorem zl1:zcB X (.type "int") (λxs H Q=>(∃ i,xs=[.int i]∧Q (.int i) H)∨∃ k,xs=[.bl k]∧Q (.int (if k then 1 else 0)) H):=by
 intro pins s σ H xs us Q I r h
 rcases h with ⟨i,rfl,q⟩ | ⟨k,rfl,q⟩
 ·obtain⟨u,rfl,t,rfl⟩:=zhT r
  exact call_int_int ⟨.int i,H,I,⟨_,rfl⟩,q⟩
 ·obtain⟨u,rfl,r1⟩:=zhT r
  cases r1
  exact call_int_bool ⟨.int (if k then 1 else 0),H,I.tok _,⟨_,rfl⟩,q⟩
end
end L2

namespace L2
open PySem PySem.Spec PyProof.Rows

structure ObjM (h:Heap) (x dx C:Addr) (mA:Str→Option Value):Prop where
 obj:h.get? x=some (PySem.W.instObj C dx)
 ns:h.Ns1 dx mA
 ne:dx≠x
theorem zl2 {h:Heap}{dx:Addr}{mA:Str→Option Value}(n:h.Ns1 dx mA):∃ od,h.get? dx=some od∧∀ name,PySem.W.lookIn name od=some (mA name):=by
 obtain⟨o,es,ep,ho,hd,hk,_,hm⟩:=n
 refine⟨o,ho,λname=>?_⟩
 have e:=hm name
 unfold nsFind findBy at e
 rw[←Array.find?_toList] at e
 unfold PySem.W.lookIn
 rw[hd]
 dsimp only
 split
 ·rename_i y q
  rw[q] at e
  exact congrArg some e
 ·rename_i q
  rw[q] at e
  have a:es.toList.any (·.refKey)=false:=by
   rw[List.any_eq_false]
   intro y hy
   obtain⟨z,t,hkey⟩:=hk y (Array.mem_toList_iff.mp hy)
   simp[DictEntry.refKey,hkey]
  have a':¬ es.toList.any (·.refKey)=true:=by rw[a];exact Bool.false_ne_true
  rw[if_neg a']
  exact congrArg some e
theorem ObjM.look {h:Heap}{x dx C:Addr}{mA:Str→Option Value}(I:ObjM h x dx C mA):∃ od,PySem.W.InstAt h x (PySem.W.instObj C dx) C (some od)∧∀ name,PySem.W.lookIn name od=some (mA name):=
 let ⟨od,ho,hl⟩:=zl2 I.ns
 ⟨od,⟨I.obj,rfl,rfl,ho⟩,hl⟩
section
variable {prog:Program}{w:World}{A:Around}{E:Value→Shared→Prop}{s:Shared}{K:Fg}{x dx C f:Addr}{mA:Str→Option Value}{name:Str}{v:Value}

theorem zpe {expr:Bool}{Q:Value→Shared→Prop}(X:K.In s.heap) (I:ObjM s.heap x dx C mA) (hg:PySem.W.plainGet K C name=true) (hh:PySem.W.hasDictIn K C=true)
  (ha:PySem.W.findIn K (.ref C) name=some none) (hv:mA name=some v) (hv':PySem.W.handedIn v=true) (h:Q v {s with toks:=s.toks+1}) :
  wpAny (model prog w) A (getAttr (.ref x) name expr) Q E s:=by
 obtain⟨od,J,hl⟩:=I.look
 exact PySem.W.get_value X J (PySem.W.plainGet_of hg).1 (PySem.W.findObj_own hh ha rfl (by rw[hl,hv])) hv' h
theorem znH {pl:Sem Bool}{Q:Value × List Value→Shared→Prop}(X:K.In s.heap) (I:ObjM s.heap x dx C mA) (hg:PySem.W.plainGet K C name=true)
  (hf:PySem.W.findIn K (.ref C) name=some (some (.ref f))) (ht:PySem.W.isFn K (.ref f)=true) (hv:mA name=none) (h:Q (.ref f,[.ref x]) s) :
  wpAny (model prog w) A (getMethod (.ref x) name pl) Q E s:=by
 obtain⟨od,J,hl⟩:=I.look
 exact PySem.W.method_fn X J (PySem.W.plainGet_of hg).1 (PySem.W.plainGet_of hg).2 hf (beq_iff_eq.mp ht) (by show (PySem.W.lookIn name od).map (·.isSome)=some false;rw[hl,hv];rfl) h
theorem zpf {ns:List Str}{Q:Unit→Shared→Prop}(X:K.In s.heap) (I:ObjM s.heap x dx C mA)
  (hs:PySem.W.findIn K (.ref C) "__setattr__"=some (some (.builtin "object.__setattr__"))) (hp:PySem.W.plainOver K C=true) (ht:PySem.W.takerIn K C name=some none) (hh:PySem.W.hasDictIn K C=true)
  (hw:PySem.Within mA ns) (hsz:ns.length≤sizeLine)
  (h:∀ h',ObjM h' x dx C (λy=>if y=name then some v else mA y)→Heap.SameBut dx s.heap h'→Q () {s with heap:=h',toks:=s.toks+2}) :
  wpAny (model prog w) A (setAttr (.ref x) name v) Q E s:=by
 obtain⟨od,J,hl⟩:=I.look
 refine PySem.W.set_plain X J hs (PySem.W.osa_open (s:={s with toks:=s.toks+1}) (r:=none) X J hp ht λb=>?_)
 obtain⟨cd,hc,hd'⟩:=PySem.W.any_some hh
 have hx:s.heap.get? x=some ⟨.ref C,some dx,.plain,#[]⟩:=I.obj
 refine wpAny_bind (wpAny_pure (wpAny_bind (wpAny_bind (wpAny_loadPart hx (wpAny_bind (PySem.W.Looks.here (s:={s with toks:=s.toks+1}) (PySem.W.looks_clsIn X hc) ?_))))))
 rw[hd']
 refine wpAny_pure (a:=some dx) (wpAny_bind (wpAny_pure (wpAny_bind ?_)))
 refine wpAny_nsSet1 (s:={s with toks:=s.toks+1}) I.ns λh' hn2 hs2=>?_
 obtain⟨oD,esD,epD,hoD,hdD,hcD⟩:=hn2.count (PySem.Within.cons name v hw)
 refine wpAny_bind (wpAny_lookBehind hoD (by rw[hdD];exact pastItsLine_dict (Nat.le_trans hcD (by rw[List.length_cons];omega))) ?_)
 exact wpAny_pure (h _ ⟨(hs2.2 _ (Ne.symm I.ne)).trans I.obj,hn2,I.ne⟩ hs2)
theorem znI {R:Result→Shared→Prop}{vs:List Value}{kw:List (Str × Value)}(X:K.In s.heap) (hm:PySem.W.makesIn K C=true)
  (hi:PySem.W.findIn K (.ref C) "__init__"=some (some (.ref f))) (hf:PySem.W.typeIn K (.ref f)=some (.type "function"))
  (h:codeAny (model prog w) (A.under (.builtin "type.__call__" ⟨.ref C::vs,kw⟩)) (.call (.ref f) ⟨.ref (s.heap.objs.size+1)::vs,kw⟩) (PySem.W.InitBack (s.heap.objs.size+1) R)
   {s with heap:=(s.heap.push PySem.W.emptyDict).push (PySem.W.instObj C s.heap.objs.size)}) :
  codeAny (model prog w) A (.call (.ref C) ⟨vs,kw⟩) R s:=by
 obtain⟨hh,g,d,t,os⟩:=s
 exact PySem.W.make_core (PySem.W.makes_of X hm) (PySem.W.looks_findIn X hi) (λself=>PySem.W.bind_fn X self hf) (.inl rfl) h
end

def putF (f:Str) (v:V):List (Str × V)→List (Str × V)
 | []=>[(f,v)]
 | (g,x)::r=>if g=f then (g,v)::r else (g,x)::putF f v r
theorem zaT (f g:Str) (v:V):∀ fs:List (Str × V),(putF f v fs).lookup g=if g=f then some v else fs.lookup g
 | []=>by
  show List.lookup g [(f,v)]=_
  by_cases h:g=f
  ·have hb:(g == f)=true:=beq_iff_eq.mpr h
   simp only[List.lookup,hb,if_pos h]
  ·have hb:(g == f)=false:=beq_eq_false_iff_ne.mpr h
   simp only[List.lookup,hb,if_neg h]
 | (k,x)::r=>by
  have ih:=zaT f g v r
  rw[show putF f v ((k,x)::r)=(if k=f then (k,v)::r else (k,x)::putF f v r) from rfl]
  by_cases hk:k=f
  ·rw[if_pos hk]
   by_cases h:g=k
   ·have hb:(g == k)=true:=beq_iff_eq.mpr h
    simp only[List.lookup,hb,if_pos (h.trans hk)]
   ·have hb:(g == k)=false:=beq_eq_false_iff_ne.mpr h
    simp only[List.lookup,hb,if_neg (λe:g=f=>h (e.trans hk.symm))]
  ·rw[if_neg hk]
   by_cases h:g=k
   ·have hb:(g == k)=true:=beq_iff_eq.mpr h
    simp only[List.lookup,hb,if_neg (λe:g=f=>hk (h.symm.trans e))]
   ·have hb:(g == k)=false:=beq_eq_false_iff_ne.mpr h
    simp only[List.lookup,hb]
    exact ih
theorem zgo (f:Str) (v:V):∀ fs:List (Str × V),f∈(putF f v fs).map (·.1)∧∀ g,g∈fs.map (·.1)→g∈(putF f v fs).map (·.1)
 | []=>⟨by simp[putF],λg h=>by simp at h⟩
 | (k,x)::r=>by
  obtain⟨i1,i2⟩:=zgo f v r
  rw[show putF f v ((k,x)::r)=(if k=f then (k,v)::r else (k,x)::putF f v r) from rfl]
  by_cases hk:k=f
  ·rw[if_pos hk]
   subst hk
   exact⟨by simp,λg h=>by simpa using h⟩
  ·rw[if_neg hk]
   refine⟨?_,λg h=>?_⟩
   ·rw[zmc]
    exact List.mem_cons_of_mem _ i1
   ·rw[zmc] at h ⊢
    rcases List.mem_cons.mp h with e | e
    ·exact List.mem_cons.mpr (.inl e)
    ·exact List.mem_cons_of_mem _ (i2 g e)
theorem zeR (f:Str) (v:V):∀ fs:List (Str × V),(putF f v fs).length≤fs.length+1
 | []=>by simp[putF]
 | (k,x)::r=>by
  have ih:=zeR f v r
  rw[show putF f v ((k,x)::r)=(if k=f then (k,v)::r else (k,x)::putF f v r) from rfl]
  by_cases hk:k=f
  ·rw[if_pos hk,List.length_cons,List.length_cons];omega
  ·rw[if_neg hk,List.length_cons,List.length_cons];omega
theorem RelO.some_of {v:V}{o:Option Value}(r:RelO (some v) o):∃ u,o=some u∧RelV v u:=by
 cases o with
 | none=>exact (show False from r).elim
 | some u=>exact⟨u,rfl,r⟩
theorem RelO.none_of {o:Option Value}(r:RelO none o):o=none:=by
 cases o with
 | none=>rfl
 | some u=>exact (show False from r).elim
theorem zl3 {v:V}{u:Value}(r:RelV v u):PySem.W.handedIn u=true:=by
 cases v with
 | non=>cases (show u=Value.none from r);rfl
 | bl b=>cases (show u=Value.bool b from r);rfl
 | int i=>obtain⟨t,e⟩:=(show ∃ t,u=Value.int i t from r);cases e;rfl
 | str x=>obtain⟨t,e⟩:=(show ∃ t,u=Value.str x t from r);cases e;rfl
 | byt b=>obtain⟨t,e⟩:=(show ∃ t,u=Value.bytes b t from r);cases e;rfl
 | flt b=>obtain⟨t,e⟩:=(show ∃ t,u=Value.float b t from r);cases e;rfl
 | ref a=>cases (show u=Value.ref a from r);rfl
 | ty n=>cases (show u=Value.type n from r);rfl
section
variable {P:Program}{w:World}{H H':Hp}{h h':Heap}{a C dx:Addr}{fs fs':List (Str × V)}
theorem zhU (hok:HOk P w H h) (e:H a=some (.ins C dx fs)):∃ mA,ObjM h a dx C mA∧(∀ f,RelO (fs.lookup f) (mA f))∧PySem.Within mA (fs.map (·.1))∧fs.length≤1000∧H dx=some (.own a):=by
 obtain⟨d,z,ne,ob,mA,n,r,q⟩:=(show zb5 P w H h a (.ins C dx fs) from hok a _ e)
 exact⟨mA,⟨ob,n,ne⟩,r,q,z,d⟩
end

structure Cls (K:Fg) (C:Addr):Prop where
 pg:PySem.W.plainGet K C Str.empty=true
 hd:PySem.W.hasDictIn K C=true
 po:PySem.W.plainOver K C=true
 sa:PySem.W.findIn K (.ref C) "__setattr__"=some (some (.builtin "object.__setattr__"))
theorem Cls.get {K:Fg}{C:Addr}(c:Cls K C) (f:Str):PySem.W.plainGet K C f=true:=c.pg
def zea (K:Fg) (C:Addr) (f:Str):Prop:=PySem.W.findIn K (.ref C) f=some none
theorem zea.taker {K:Fg}{C:Addr}{f:Str}(n:zea K C f):PySem.W.takerIn K C f=some none:=by
 unfold PySem.W.takerIn
 rw[show PySem.W.findIn K (.ref C) f=some none from n]
 rfl
structure Meth (K:Fg) (C:Addr) (m:Str) (f:Addr):Prop where
 at_:PySem.W.findIn K (.ref C) m=some (some (.ref f))
 fn:PySem.W.isFn K (.ref f)=true
 kp:PySem.W.keepIn K (.ref f)=true
section
variable {X:Cx}{pins:List (Addr × Obj)}{σ:St}{H:Hp}{s:Shared}{a C dx:Addr}{fs:List (Str × V)}{f:Str}{v:V}{A:Around}{E:Value→Shared→Prop}

theorem zle {b:Bool}{Q:Value→Shared→Prop}(I:Inv X pins σ H s) (e:H a=some (.ins C dx fs)) (c:Cls X.K C) (n:zea X.K C f) (l:fs.lookup f=some v)
  (h:∀ u s',Inv X pins σ H s'→RelV v u→Q u s'):wpAny (model X.prog X.w) A (getAttr (.ref a) f b) Q E s:=by
 obtain⟨mA,O,r,_,_,_⟩:=zhU I.hok e
 obtain⟨u,hu,ru⟩:=RelO.some_of (v:=v) (o:=mA f) (by rw[←l];exact r f)
 exact zpe I.kIn O (c.get f) c.hd n hu (zl3 ru) (h u _ (I.tok _) ru)
theorem zhz {m:Str}{g:Addr}{pl:Sem Bool}{Q:Value × List Value→Shared→Prop}(I:Inv X pins σ H s) (e:H a=some (.ins C dx fs)) (c:Cls X.K C) (k:Meth X.K C m g) (l:fs.lookup m=none)
  (h:Q (.ref g,[.ref a]) s):wpAny (model X.prog X.w) A (getMethod (.ref a) m pl) Q E s:=by
 obtain⟨mA,O,r,_,_,_⟩:=zhU I.hok e
 have hn:mA m=none:=RelO.none_of (by rw[←l];exact r m)
 exact znH I.kIn O (c.get m) k.at_ k.fn hn h
theorem zlf {y:V}{u:Value}{Q:Unit→Shared→Prop}(I:Inv X pins σ H s) (e:H a=some (.ins C dx fs)) (c:Cls X.K C) (n:zea X.K C f) (hl:fs.length<1000) (ry:RelV y u)
  (h:∀ s',Inv X pins σ (upd H a (.ins C dx (putF f y fs))) s'→Q () s'):wpAny (model X.prog X.w) A (setAttr (.ref a) f u) Q E s:=by
 obtain⟨mA,O,r,wi,_,ho⟩:=zhU I.hok e
 have hz:(fs.map (·.1)).length≤sizeLine:=by rw[zlm,sizeLine_eq];omega
 refine zpf I.kIn O c.sa c.po n.taker c.hd wi hz λh' O' sb=>h _ ?_
 have hd:∃ o,h'.get? dx=some o:=let ⟨o,_,_,e',_⟩:=O'.ns;⟨o,e'⟩
 refine I.write (x:=a) (e:=dx) (by rw[e];exact True.intro) (.inr ho) (λb q hb z=>(sb.2 b hb).trans z) hd ?_
 refine⟨by rw[zaq O.ne];exact ho,?_,O.ne,O'.obj,_,O'.ns,λg=>?_,λg hg=>?_⟩
 ·have:=zeR f y fs;omega
 ·show RelO ((putF f y fs).lookup g) (if g=f then some u else mA g)
  rw[zaT]
  by_cases q:g=f
  ·rw[if_pos q,if_pos q];exact ry
  ·rw[if_neg q,if_neg q];exact r g
 ·by_cases q:g=f
  ·rw[q];exact (zgo f y fs).1
  ·refine (zgo f y fs).2 g (wi g λz=>hg ?_)
   show (if g=f then some u else mA g)=none
   rw[if_neg q];exact z
theorem Inv.made (I:Inv X pins σ H s):Inv X pins σ (upd (upd H s.heap.objs.size (.own (s.heap.objs.size+1))) (s.heap.objs.size+1) (.ins C s.heap.objs.size []))
  {s with heap:=(s.heap.push PySem.W.emptyDict).push (PySem.W.instObj C s.heap.objs.size)}:=by
 have e1:(s.heap.push PySem.W.emptyDict).get? s.heap.objs.size=some PySem.W.emptyDict:=Heap.get?_push_size s.heap rfl
 have e2:((s.heap.push PySem.W.emptyDict).push (PySem.W.instObj C s.heap.objs.size)).get? (s.heap.objs.size+1)=some (PySem.W.instObj C s.heap.objs.size):=by
  have:=Heap.get?_push_size (s.heap.push PySem.W.emptyDict) (o:=PySem.W.instObj C s.heap.objs.size) rfl
  rwa [Heap.size_push] at this
 have e3:(s.heap.push PySem.W.emptyDict).Ns s.heap.objs.size (λ_=>none):=⟨PySem.W.emptyDict,#[],_,e1,rfl,(λe he=>absurd he (by simp)),λ_=>rfl⟩
 have I1:=I.laid (a:=s.heap.objs.size) (o:=.own (s.heap.objs.size+1)) (h':=s.heap.push PySem.W.emptyDict) (t':=s.toks) (λb u q=>Heap.get?_push_of_some _ q) (Nat.le_refl _) ⟨_,e1⟩
 refine I1.laid (a:=s.heap.objs.size+1) (o:=.ins C s.heap.objs.size []) (t':=s.toks) (λb u q=>Heap.get?_push_of_some _ q) (Nat.le_of_eq (Heap.size_push _ _)) ?_
 have ne:s.heap.objs.size≠s.heap.objs.size+1:=Nat.ne_of_lt (Nat.lt_succ_self _)
 refine⟨by rw[zaq ne,zad],Nat.zero_le _,ne,e2,λ_=>none,(Heap.Ns1.of_empty e3).at λo q=>Heap.get?_push_of_some _ q,λ_=>True.intro,λy hy=>absurd rfl hy⟩
theorem zpg {prog:Program}{w:World}{env:Env}{e:Expr}{f:Str}{pos:Pos}{s:Shared}{Q:Value→Shared→Prop}(hb:attributeBase e f env (eval e env)=eval e env)
  (h:wpAny (model prog w) A (eval e env) (λo s₁=>wpAny (model prog w) A (getAttr o f true) Q E s₁) E s):wpAny (model prog w) A (eval (.Attribute e f pos) env) Q E s:=
 Attribute_any_ h (by rw[arm_eval_Attribute,hb])
end

inductive FldI (K:Fg) (f:Str) (x:V) (H:Hp) (Q:VK):Prop
 | mk (a C dx:Addr) (fs:List (Str × V)) (v:V) (e:x=.ref a) (ea:H a=some (.ins C dx fs)) (c:Cls K C) (n:zea K C f) (l:fs.lookup f=some v) (q:Q v H):FldI K f x H Q
inductive FldS (K:Fg) (f:Str) (y x:V) (H:Hp) (P:Hp→Prop):Prop
 | mk (a C dx:Addr) (fs:List (Str × V)) (e:x=.ref a) (ea:H a=some (.ins C dx fs)) (c:Cls K C) (n:zea K C f) (l:fs.length<1000) (q:P (upd H a (.ins C dx (putF f y fs)))):FldS K f y x H P
def tFld (K:Fg) (ta:TE) (f:Str):TE:=λσ H Q=>ta σ H λx H1=>FldI K f x H1 Q
def sFld (K:Fg) (ta tv:TE) (f:Str):TS:=λD σ H=>tv σ H λy H1=>ta σ H1 λx H2=>FldS K f y x H2 (D.nx σ)
section
variable {X:Cx}{o e value:Expr}{f:Str}{pos pos' tpos:Pos}{ta tv:TE}
theorem zqs (he:PE X e ta) (hb:attributeBase e f X.env (eval e X.env)=eval e X.env):PE X (.Attribute e f pos) (tFld X.K ta f):=by
 intro pins s σ H Q I h
 refine zpg hb (thn (he pins s σ H _ I h) λu s1 ⟨x,H1,I1,rx,a,C,dx,fs,v,ex,ea,c,n,l,q⟩=>?_)
 subst ex
 obtain rfl:u=Value.ref a:=rx
 exact zle I1 ea c n l λu' s2 I2 ru=>⟨v,H1,I2,ru,q⟩
theorem zhA (ha:PE X o ta) (hv:PE X value tv) (hs:swapsWith value (some (.Attribute o f pos')) pos.line X.env=pure false):PS X (.Assign [.Attribute o f pos'] value pos) (sFld X.K ta tv f):=by
 intro pins s σ H D I h
 refine plainObj_wpAny_Assign_Attribute (thn (hv pins s σ H _ I h) λu s1 ⟨y,H1,I1,ry,q⟩=>thn (ha pins s1 σ H1 _ I1 q) λov s2 ⟨x,H2,I2,rx,a,C,dx,fs,ex,ea,c,n,l,q2⟩=>?_) hs
 subst ex
 obtain rfl:ov=Value.ref a:=rx
 exact zlf I2 ea c n l ry λs3 I3=>⟨σ,_,I3,q2⟩
theorem zph {pl:Sem Bool}{m:Str}{apos:Pos}{args:List Expr}{pins:List (Addr × Obj)}{s:Shared}{σ:St}{H:Hp}{Q:Value→Shared→Prop}{te:TE}(he:PE X e te) (I:Inv X pins σ H s)
  (h:te σ H λx H1=>∃ a C dx fs g,x=.ref a∧H1 a=some (.ins C dx fs)∧Cls X.K C∧Meth X.K C m g∧fs.lookup m=none∧
   ∀ s1,Inv X pins σ H1 s1→wpAny (model X.prog X.w) X.A (callWith pos (.ref g) [.ref a] (backTo pos (starEach args X.env)) (backToKw pos (keywordEach [] X.env))) Q X.xe s1)
  (ht:eval (.Call (.Attribute e m apos) args [] pos) X.env=(do
   let ov ←eval e X.env
   standAt apos.atName
   let (f,first) ←holding [ov] (getMethod ov m pl)
   callWith pos f first (backTo pos (starEach args X.env)) (backToKw pos (keywordEach [] X.env)))) :
  wpAny (model X.prog X.w) X.A (eval (.Call (.Attribute e m apos) args [] pos) X.env) Q X.xe s:=by
 refine PySem.W.methodCall_KW (pl:=pl) (thn (he pins s σ H _ I h) λu s1 ⟨x,H1,I1,rx,a,C,dx,fs,g,ex,ea,c,k,l,q⟩=>?_) ht
 subst ex
 obtain rfl:u=Value.ref a:=rx
 exact zhz I1 ea c k l (q s1 I1)
end

section
variable {X:Cx}{pins:List (Addr × Obj)}{σ:St}{H:Hp}{s:Shared}{A:Around}{E:Value→Shared→Prop}{Q:Value→Shared→Prop}{c:Value}{b:Bool}
inductive TyOf (K:Fg) (H:Hp):V→Value→Prop where
 | non:TyOf K H .non (.type "NoneType")
 | bl (x:Bool):TyOf K H (.bl x) (.type "bool")
 | int (i:Int):TyOf K H (.int i) (.type "int")
 | str (x:Str):TyOf K H (.str x) (.type "str")
 | flt (x:UInt64):TyOf K H (.flt x) (.type "float")
 | lst {a:Addr}{xs:List V}(e:H a=some (.lst xs)):TyOf K H (.ref a) (.type "list")
 | frz {a:Addr}{o:Obj}{xs:List V}(e:H a=some (.frz o (.lst xs))):TyOf K H (.ref a) (.type "list")
 | tup {a:Addr}{xs:List V}(e:H a=some (.tup xs)):TyOf K H (.ref a) (.type "tuple")
 | dK {a:Addr}{kvs:List (Key × V)}(e:H a=some (.dK kvs)):TyOf K H (.ref a) (.type "dict")
 | dT {a:Addr}{kvs:List (List Key × V)}(e:H a=some (.dT kvs)):TyOf K H (.ref a) (.type "dict")
 | ins {a C dx:Addr}{fs:List (Str × V)}(e:H a=some (.ins C dx fs)) (cl:Cls K C) (ha:PySem.W.findIn K (.ref C) "__class__"=some (some (.builtin "object.__class__")))
   (hn:PySem.W.specialIn K (.builtin "object.__class__") "__get__"=some (some (.builtin "getset_descriptor.__get__"))) (htk:PySem.W.takesIn K (.builtin "object.__class__")=some true)
   (hm:PySem.W.mroIn K C (.type "object")=some true):TyOf K H (.ref a) (.ref C)
theorem zl4 {x:V}{u t:Value}(I:Inv X pins σ H s) (rx:RelV x u) (ty:TyOf X.K H x t) (e:PySem.W.kitOne X.K t c=some b) (h:∀ tk,Q (.bool b) {s with toks:=tk}) :
  wpAny (model X.prog X.w) A (call (.builtin "isinstance") [u,c]) Q E s:=by
 cases ty with
 | non=>cases (show u=Value.none from rx);exact PySem.W.kia_one PySem.W.kitx_none I.kIn True.intro e (λz=>nomatch z) h
 | bl y=>cases (show u=Value.bool y from rx);exact PySem.W.kia_one PySem.W.kitx_bool I.kIn True.intro e (λz=>nomatch z) h
 | int i=>obtain⟨t,q⟩:=(show ∃ t,u=Value.int i t from rx);cases q;exact PySem.W.kia_one PySem.W.kitx_int I.kIn True.intro e (λz=>nomatch z) h
 | str y=>obtain⟨t,q⟩:=(show ∃ t,u=Value.str y t from rx);cases q;exact PySem.W.kia_one PySem.W.kitx_str I.kIn True.intro e (λz=>nomatch z) h
 | flt y=>obtain⟨t,q⟩:=(show ∃ t,u=Value.float y t from rx);cases q;exact PySem.W.kia_one PySem.W.kitx_float I.kIn True.intro e (λz=>nomatch z) h
 | @lst a xs ea=>
  cases (show u=Value.ref a from rx)
  obtain⟨_,_,n,_,h1⟩:=(show zb5 X.prog X.w H s.heap a (.lst xs) from I.hok a _ ea)
  exact PySem.W.kia_one PySem.W.kitx_list I.kIn ⟨_,h1,rfl⟩ e (λz=>nomatch z) h
 | @frz a ob xs ea=>
  cases (show u=Value.ref a from rx)
  obtain⟨_,_,_,n,_,h1⟩:=(show zb5 X.prog X.w H s.heap a (.frz ob (.lst xs)) from I.hok a _ ea)
  exact PySem.W.kia_one PySem.W.kitx_list I.kIn ⟨_,h1,rfl⟩ e (λz=>nomatch z) h
 | @tup a xs ea=>
  cases (show u=Value.ref a from rx)
  obtain⟨_,_,_,p⟩:=(show zb5 X.prog X.w H s.heap a (.tup xs) from I.hok a _ ea)
  obtain⟨o,h1,h2,_⟩:=p
  exact PySem.W.kia_one PySem.W.kitx_tuple I.kIn ⟨o,h1,h2⟩ e (λz=>nomatch z) h
 | @dK a kvs ea=>
  cases (show u=Value.ref a from rx)
  obtain⟨_,_,vs,_,p⟩:=(show zb5 X.prog X.w H s.heap a (.dK kvs) from I.hok a _ ea)
  obtain⟨o,es,ep,h1,h2,_⟩:=p
  exact PySem.W.kia_one PySem.W.kitx_dict I.kIn ⟨o,h1,h2.1⟩ e (λz=>nomatch z) h
 | @dT a kvs ea=>
  cases (show u=Value.ref a from rx)
  obtain⟨_,_,xs,_,o,es,ep,h1,h2,_⟩:=(show zb5 X.prog X.w H s.heap a (.dT kvs) from I.hok a _ ea)
  exact PySem.W.kia_one PySem.W.kitx_dict I.kIn ⟨o,h1,h2.1⟩ e (λz=>nomatch z) h
 | @ins a C dx fs ea cl ha hn htk hm=>
  cases (show u=Value.ref a from rx)
  obtain⟨mA,O,_⟩:=zhU I.hok ea
  obtain⟨od,J,_⟩:=O.look
  exact PySem.W.kia_one (PySem.W.kitx_own (cl.get _) cl.hd ha hn htk hm) I.kIn J e (λz=>nomatch z) h
end
end L2

namespace L2
open PySem PySem.Spec PyProof.Rows

structure Room (k:Nat) (A:Around):Prop where
 hd:A.handled=none
 dp:A.depth+3 * k+5<recursionLimit
 un:A.units+16 * k+200<cLine
 gd:A.guards=some []
theorem Room.mono {j k:Nat}{A:Around}(r:Room k A) (h:j≤k):Room j A:=⟨r.hd,by have:=r.dp;omega,by have:=r.un;omega,r.gd⟩
theorem Room.deeper {k:Nat}{A:Around}(r:Room (k+1) A) (env:Env):Room k (A.deeper env):=
 ⟨r.hd,by have:=r.dp;show A.depth+1+3 * k+5<_;omega,by have:=r.un;show A.units+3+16 * k+200<_;omega,r.gd⟩
theorem zlg {A:Around}{C:Addr}{us:List Value}{kw:List (Str × Value)} : (A.under (.builtin "type.__call__" ⟨.ref C::us,kw⟩)).depth=A.depth+1:=by
 first | rfl | simp[Around.under,Code.weight,Code.isCreation,Code.isGuard,Code.isCaller,Code.frames,Code.isFrame,guardIds]
theorem zlh {A:Around}{C:Addr}{us:List Value}{kw:List (Str × Value)} : (A.under (.builtin "type.__call__" ⟨.ref C::us,kw⟩)).units=A.units+1:=by
 first | rfl | simp[Around.under,Code.cUnits,Code.frames,Code.isFrame]
theorem zjV {A:Around}{C:Addr}{us:List Value}{kw:List (Str × Value)}(h:A.guards=some []):(A.under (.builtin "type.__call__" ⟨.ref C::us,kw⟩)).guards=some []:=by
 simp[Around.under,Code.guards,Code.isGuard,guardIds,pushGuards,h]
theorem Room.make {k:Nat}{A:Around}(r:Room (k+1) A) (C:Addr) (us:List Value) (kw:List (Str × Value)):Room k (A.under (.builtin "type.__call__" ⟨.ref C::us,kw⟩)):=
 ⟨r.hd,by have:=r.dp;rw[zlg];omega,by have:=r.un;rw[zlh];omega,zjV r.gd⟩
theorem Room.depth {k:Nat}{A:Around}(r:Room k A):A.depth<recursionLimit:=by have:=r.dp;omega
theorem Room.units {k:Nat}{A:Around}(r:Room k A):A.units+64<cLine:=by have:=r.un;omega
def tNil:TA:=λ_ H Q=>Q [] H
def ze6 (ta:TE) (tr:TA):TA:=λσ H Q=>ta σ H λx H1=>tr σ H1 λxs H2=>Q (x::xs) H2
section
variable {X:Cx}{e:Expr}{es:List Expr}{te:TE}{t:TA}{pos:Pos}
theorem zac:PA X [] tNil:=λ_ _ _ _ H Q I h=>Calls.spliced_nil ⟨[],H,I,.nil,h⟩
theorem zbv (ha:PE X e te) (hr:PA X es t) (hs:starEach (e::es) X.env=(false,eval e X.env)::starEach es X.env:=by rfl):PA X (e::es) (ze6 te t):=by
 intro pos pins s σ H Q I h
 rw[hs]
 show wpAny _ _ (spliced ((false,eval e X.env)::backTo pos (starEach es X.env))) _ _ s
 refine Calls.spliced_cons (thn (ha pins s σ H _ I h) λu s1 ⟨x,H1,I1,r1,q1⟩=>?_)
 exact thn (hr pos pins s1 σ H1 _ I1 q1) λus s2 ⟨xs,H2,I2,r2,q2⟩=>⟨x::xs,H2,I2,.cons r1 r2,q2⟩
def tTup (t:TA):TE:=λσ H Q=>t σ H λxs H1=>xs.length≤sizeLine∧∀ p,H1 p=none→Q (.ref p) (upd H1 p (.tup xs))
def tLst (t:TA):TE:=λσ H Q=>t σ H λxs H1=>xs.length≤sizeLine∧∀ p,H1 p=none→Q (.ref p) (upd H1 p (.lst xs))
theorem zbn {x1}(h:PA X es t):PE X (.Tuple es x1 pos) (tTup t):=by
 intro pins s σ H Q I hq
 refine wpAny_Tuple_spliced (thn (h pos pins s σ H _ I hq) λus s1 ⟨xs,H1,I1,r,z,q⟩=>⟨by rw[←r.length];exact z,?_⟩)
 have hf:H1 s1.heap.objs.size=none:=I1.hok.fresh (Nat.le_refl _)
 refine⟨.ref s1.heap.objs.size,upd H1 s1.heap.objs.size (.tup xs),I1.laid (t':=s1.toks) (λb u e=>Heap.get?_push_of_some _ e) (Nat.le_refl _) ?_,rfl,q _ hf⟩
 exact⟨z,us,r,⟨_,Heap.get?_push_size _ rfl,rfl,_,rfl⟩⟩
theorem zaE (h:PA X es t):PE X (.List es pos) (tLst t):=by
 intro pins s σ H Q I hq
 refine wpAny_List_spliced (thn (h pos pins s σ H _ I hq) λus s1 ⟨xs,H1,I1,r,z,q⟩=>⟨by rw[←r.length];exact z,?_⟩)
 have hf:H1 s1.heap.objs.size=none:=I1.hok.fresh (Nat.le_refl _)
 refine⟨.ref s1.heap.objs.size,upd H1 s1.heap.objs.size (.lst xs),I1.laid (t':=s1.toks) (λb u e=>Heap.get?_push_of_some _ e) (Nat.le_refl _) ?_,rfl,q _ hf⟩
 exact⟨z,us,0,r,Heap.get?_push_size _ rfl⟩
end

abbrev Sp:=List V→Hp→VK→XK→Prop
abbrev CXT:=List Env→Hp→Shared→XK→Value→Shared→Prop
structure Env0 (P:Program) (w:World) (K:Fg) (mg:Str→Option Value) (base:Heap) (A:Around) (outer:List Env) (s:Shared) (H:Hp):Prop where
 frames:A.frames=some outer
 mod:Mod K mg base
 bs:∀ b o,base.get? b=some o→s.heap.get? b=some o∧H b=none
 bsz:base.objs.size≤s.heap.objs.size
 funs:s.heap.FunFrames base outer
 frf:∀ b∈frs outer,H b=none
 hok:HOk P w H s.heap
 bare:AllBare s.gens
def CE (outer:List Env) (P:Program) (w:World) (H:Hp) (s:Shared) (Q:VK) (u:Value) (s':Shared):Prop:=
 ∃ v H',s'.os=s.os∧AllBare s'.gens∧Un (frs outer) [] H H' s.heap s'.heap∧HOk P w H' s'.heap∧RelV v u∧Q v H'
def CR (CX:CXT) (outer:List Env) (P:Program) (w:World) (H:Hp) (s:Shared) (Q:VK) (E:XK) (r:Result) (s':Shared):Prop:=
 match r with
 | .ok (.ret u)=>CE outer P w H s Q u s'
 | .ok _=>False
 | .error e=>CX outer H s E e s'
structure FnOk (P:Program) (w:World) (K:Fg) (mg:Str→Option Value) (base:Heap) (CX:CXT) (k:Nat) (f:Addr) (fd:FuncData) (ps:List Str) (sp:Sp):Prop where
 len:∀ vs H Q E,sp vs H Q E→vs.length=ps.length
 run:∀ (A:Around) (outer:List Env) (s:Shared) (H:Hp) (args:Args) (us:List Value) (vs:List V) (Q:VK) (E:XK),Room k A→Env0 P w K mg base A outer s H→BindsTo s fd args (ps.zip us)→Vals vs us→sp vs H Q E→
  codeAny (model P w) A (.call (.ref f) args) (CR CX outer P w H s Q E) s
theorem FnOk.mono {P:Program}{w:World}{K:Fg}{mg:Str→Option Value}{base:Heap}{CX:CXT}{j k:Nat}{f:Addr}{fd:FuncData}{ps:List Str}{sp:Sp}(F:FnOk P w K mg base CX j f fd ps sp) (h:j≤k) :
  FnOk P w K mg base CX k f fd ps sp:=⟨F.len,λA outer s H args us vs Q E hr=>F.run A outer s H args us vs Q E (hr.mono h)⟩
theorem Env0.make {P:Program}{w:World}{K:Fg}{mg:Str→Option Value}{base:Heap}{A:Around}{outer:List Env}{s:Shared}{H:Hp}(e:Env0 P w K mg base A outer s H) (C:Addr) (us:List Value) (kw:List (Str × Value)) :
  Env0 P w K mg base (A.under (.builtin "type.__call__" ⟨.ref C::us,kw⟩)) outer s H:=⟨by first | exact e.frames | (simpa [Around.under,Code.envs,Code.isFrame,pushEnvs] using e.frames),e.mod,e.bs,e.bsz,e.funs,e.frf,e.hok,e.bare⟩
section
variable {X:Cx}{pins:List (Addr × Obj)}{σ:St}{H:Hp}{s s':Shared}
theorem Inv.env0 (I:Inv X pins σ H s):Env0 X.prog X.w X.K X.mg X.base X.A X.stack s H:=
 ⟨I.ok.frames,I.ok.mod,I.bs,Nat.le_trans I.ok.bsz I.sz,I.stack,I.stkFree,I.hok,I.bare⟩
theorem Inv.after {Q:VK}{u:Value}(I:Inv X pins σ H s) (h:CE X.stack X.prog X.w H s Q u s'):EP X pins σ Q u s':=by
 obtain⟨v,H',os,bare,un,hok,r,q⟩:=h
 obtain⟨hh,g,d,t,os'⟩:=s'
 obtain rfl:os'=s.os:=os
 exact⟨v,H',I.call (h':=hh) (g':=g) (d':=d) (t':=t) (ch:=[]) un hok bare (λb z=>absurd z (by simp)),r,q⟩
end

def zl5 (sp:Sp) (dvs:List V) (E:XK) (t:TA):TE:=λσ H Q=>t σ H λvs H1=>sp (vs++dvs) H1 Q E
inductive MethI (C:Addr) (m:Str) (x:V) (H:Hp) (P:Prop):Prop
 | mk (a dx:Addr) (fs:List (Str × V)) (e:x=.ref a) (ea:H a=some (.ins C dx fs)) (l:fs.lookup m=none) (q:P):MethI C m x H P
def zpi (C:Addr) (m:Str) (sp:Sp) (dvs:List V) (E:XK) (ta:TE) (t:TA):TE:=λσ H Q=>ta σ H λx H1=>MethI C m x H1 (t σ H1 λvs H2=>sp (x::(vs++dvs)) H2 Q E)
def zl6 (C:Addr) (sp:Sp) (dvs:List V) (E:XK) (t:TA):TE:=λσ H Q=>t σ H λvs H1=>∀ x dx,H1 x=none→H1 dx=none→dx≠x→
 sp (.ref x::(vs++dvs)) (upd (upd H1 dx (.own x)) x (.ins C dx [])) (λv H2=>v=.non∧Q (.ref x) H2) E
def zfv (K:Fg) (fd:FuncData) (ps:List Str) (ds:List Value):Prop:=
 ∀ (s:Shared) (us:List Value),K.In s.heap→(us++ds).length=ps.length→BindsTo s fd ⟨us,[]⟩ (ps.zip (us++ds))
theorem zfv.all {K:Fg}{fd:FuncData}{ps:List Str}(h:∀ us:List Value,us.length=ps.length→bindArgs fd ⟨us,[]⟩=pure (ps.zip us)):zfv K fd ps []:=λs us _ hl=>by
 rw[List.append_nil] at hl ⊢
 exact .of_eq (h us hl)
def zeh (CX:CXT) (X:Cx) (E:XK):Prop:=∀ (pins:List (Addr × Obj)) (σ:St) (H:Hp) (s:Shared) (e:Value) (s':Shared),Inv X pins σ H s→CX X.stack H s E e s'→X.xe e s'
section
variable {X:Cx}{CX:CXT}{k:Nat}{f C:Addr}{fd:FuncData}{ps:List Str}{sp:Sp}{dvs:List V}{ds:List Value}{E:XK}{x m:Str}{p pos apos:Pos}{e o:Expr}{es:List Expr}{ta:TE}{t:TA}

theorem zoI {pins:List (Addr × Obj)}{σ:St}{H:Hp}{s:Shared}{Q:VK}{us:List Value}{vs:List V}(F:FnOk X.prog X.w X.K X.mg X.base CX k f fd ps sp) (hr:Room k X.A) (hb:zfv X.K fd ps ds) (hd:Vals dvs ds) (hx:zeh CX X E)
  (I:Inv X pins σ H s) (r:Vals vs us) (h:sp (vs++dvs) H Q E):wpAny (model X.prog X.w) X.A (call (.ref f) us) (EP X pins σ Q) X.xe s:=by
 have r2:Vals (vs++dvs) (us++ds):=r.append hd
 have hl:(us++ds).length=ps.length:=by rw[←r2.length];exact F.len _ _ _ _ h
 refine wpAny_call (codeAny_mono (F.run X.A X.stack s H ⟨us,[]⟩ (us++ds) (vs++dvs) Q E hr I.env0 (hb s us I.kIn hl) r2 h) λr s' hq=>?_)
 cases r with
 | error e=>exact hx pins σ H s e s' I hq
 | ok fl=>
  cases fl with
  | ret u=>exact I.after hq
  | next=>exact False.elim hq
  | brk=>exact False.elim hq
  | cont=>exact False.elim hq
theorem zl7 (F:FnOk X.prog X.w X.K X.mg X.base CX k f fd ps sp) (hr:Room k X.A) (hg:Gl X x) (hm:X.mg x=some (.ref f)) (hk:PySem.W.keepIn X.K (.ref f)=true) (hb:zfv X.K fd ps ds) (hd:Vals dvs ds) (hx:zeh CX X E)
  (ha:PA X (e::es) t) (hdb:(x == ("__debug__" : Str))=false:=by decide) (he:starEach (e::es) X.env=(false,eval e X.env)::starEach es X.env:=by rfl) (hpl:(backTo pos (starEach es X.env)).any (·.1)=false:=by rfl) :
  PE X (.Call (.Name x p) (e::es) [] pos) (zl5 sp dvs E t):=by
 intro pins s σ H Q I h
 refine wpAny_Call_Name_kw (zgk I hg hm ?_ hdb)
 refine PySem.W.callWith_K (h₀:=X.base) I.ok.mod.kin hk (thn (ha pos pins s σ H _ I h) λus s1 ⟨vs,H1,I1,r,q⟩=>⟨I1.kIn,?_⟩) he hpl
 exact zoI F hr hb hd hx I1 r q
theorem zpj {pl:Sem Bool}(he:PE X o ta) (c:Cls X.K C) (hm:Meth X.K C m f) (F:FnOk X.prog X.w X.K X.mg X.base CX k f fd ps sp) (hr:Room k X.A) (hb:zfv X.K fd ps ds) (hd:Vals dvs ds) (hx:zeh CX X E) (ha:PA X (e::es) t)
  (hst:starEach (e::es) X.env=(false,eval e X.env)::starEach es X.env:=by rfl) (hpl:(backTo pos (starEach es X.env)).any (·.1)=false:=by rfl)
  (ht:eval (.Call (.Attribute o m apos) (e::es) [] pos) X.env=(do
   let ov ←eval o X.env
   standAt apos.atName
   let (f,first) ←holding [ov] (getMethod ov m pl)
   callWith pos f first (backTo pos (starEach (e::es) X.env)) (backToKw pos (keywordEach [] X.env))):=by rfl) :
  PE X (.Call (.Attribute o m apos) (e::es) [] pos) (zpi C m sp dvs E ta t):=by
 intro pins s σ H Q I h
 refine PySem.W.methodCall_KW (pl:=pl) (thn (he pins s σ H _ I h) λu s1 ⟨x,H1,I1,rx,a,dx,fs,ex,ea,l,q⟩=>?_) ht
 subst ex
 obtain rfl:u=Value.ref a:=rx
 refine zhz I1 ea c hm l ?_
 refine PySem.W.callWith_K (first:=[.ref a]) (h₀:=X.base) I.ok.mod.kin hm.kp (thn (ha pos pins s1 σ H1 _ I1 q) λus s2 ⟨vs,H2,I2,r,q2⟩=>⟨I2.kIn,?_⟩) hst hpl
 exact zoI (us:=.ref a::us) (vs:=.ref a::vs) F hr hb hd hx I2 (.cons rfl r) q2
structure Mk (K:Fg) (C f:Addr):Prop where
 makes:PySem.W.makesIn K C=true
 init:PySem.W.findIn K (.ref C) "__init__"=some (some (.ref f))
 fn:PySem.W.isFn K (.ref f)=true
 kp:PySem.W.keepIn K (.ref C)=true
theorem zkE {pins:List (Addr × Obj)}{σ:St}{H:Hp}{s:Shared}{Q:VK}{us:List Value}{vs:List V}(M:Mk X.K C f) (F:FnOk X.prog X.w X.K X.mg X.base CX k f fd ps sp) (hr:Room (k+1) X.A) (hb:zfv X.K fd ps ds) (hd:Vals dvs ds)
  (hx:zeh CX X E) (I:Inv X pins σ H s) (r:Vals vs us)
  (h:∀ x dx,H x=none→H dx=none→dx≠x→sp (.ref x::(vs++dvs)) (upd (upd H dx (.own x)) x (.ins C dx [])) (λv H2=>v=.non∧Q (.ref x) H2) E) :
  wpAny (model X.prog X.w) X.A (call (.ref C) us) (EP X pins σ Q) X.xe s:=by
 have hq:=h (s.heap.objs.size+1) s.heap.objs.size (I.hok.fresh (Nat.le_succ _)) (I.hok.fresh (Nat.le_refl _)) (Nat.ne_of_lt (Nat.lt_succ_self _))
 have I2:=Inv.made (C:=C) I
 have r2:Vals (V.ref (s.heap.objs.size+1)::(vs++dvs)) (Value.ref (s.heap.objs.size+1)::(us++ds)):=.cons rfl (r.append hd)
 have hl:(Value.ref (s.heap.objs.size+1)::us++ds).length=ps.length:=by
  have e:=r2.length
  rw[F.len _ _ _ _ hq] at e
  exact e.symm
 refine wpAny_call (znI (f:=f) I.kIn M.makes M.init (beq_iff_eq.mp M.fn) (codeAny_mono (F.run _ X.stack _ _ ⟨Value.ref (s.heap.objs.size+1)::us,[]⟩ (Value.ref (s.heap.objs.size+1)::(us++ds)) _ _ E (hr.make C us [])
  (I2.env0.make C us []) (hb _ (Value.ref (s.heap.objs.size+1)::us) I2.kIn hl) r2 hq) λr s' hq'=>?_))
 cases r with
 | error e=>exact hx pins σ _ _ e s' I2 hq'
 | ok fl=>
  cases fl with
  | ret u=>
   obtain⟨v,H',I3,rv,ev,q3⟩:=I2.after hq'
   subst ev
   exact⟨rv,⟨V.ref (s.heap.objs.size+1),H',I3,rfl,q3⟩⟩
  | next=>exact False.elim hq'
  | brk=>exact False.elim hq'
  | cont=>exact False.elim hq'
theorem zpk (M:Mk X.K C f) (F:FnOk X.prog X.w X.K X.mg X.base CX k f fd ps sp) (hr:Room (k+1) X.A) (hg:Gl X x) (hm:X.mg x=some (.ref C)) (hb:zfv X.K fd ps ds) (hd:Vals dvs ds) (hx:zeh CX X E)
  (ha:PA X (e::es) t) (hdb:(x == ("__debug__" : Str))=false:=by decide) (he:starEach (e::es) X.env=(false,eval e X.env)::starEach es X.env:=by rfl) (hpl:(backTo pos (starEach es X.env)).any (·.1)=false:=by rfl) :
  PE X (.Call (.Name x p) (e::es) [] pos) (zl6 C sp dvs E t):=by
 intro pins s σ H Q I h
 refine wpAny_Call_Name_kw (zgk I hg hm ?_ hdb)
 refine PySem.W.callWith_K (h₀:=X.base) I.ok.mod.kin M.kp (thn (ha pos pins s σ H _ I h) λus s1 ⟨vs,H1,I1,r,q⟩=>⟨I1.kIn,?_⟩) he hpl
 exact zkE M F hr hb hd hx I1 r q
theorem znJ (M:Mk X.K C f) (F:FnOk X.prog X.w X.K X.mg X.base CX k f fd ps sp) (hr:Room (k+1) X.A) (hg:Gl X x) (hm:X.mg x=some (.ref C)) (hb:zfv X.K fd ps ds) (hd:Vals dvs ds) (hx:zeh CX X E)
  (hdb:(x == ("__debug__" : Str))=false:=by decide):PE X (.Call (.Name x p) [] [] pos) (zl6 C sp dvs E tNil):=by
 intro pins s σ H Q I h
 refine wpAny_Call_Name_kw (zgk I hg hm ?_ hdb)
 exact PySem.W.callWith_K0 I.kIn M.kp (zkE (us:=[]) M F hr hb hd hx I .nil h)
end

section
variable {X:Cx}{CX:CXT}{k:Nat}{f C:Addr}{fd:FuncData}{ps ks:List Str}{sp:Sp}{E:XK}{x m:Str}{p pos apos kpos:Pos}{e o:Expr}{es:List Expr}{kws:List Keyword}{te ta:TE}{t tk:TA}{nm:Option Str}
variable {g:List Value→List Value→List Value}{gV:List V→List V→List V}
end

structure FSc (N P:List Str) (sc:Scope):Prop where
 kind:sc.kind=.function
 co:sc.isCoroutine=false
 gen:sc.isGenerator=false
 nd:N.Nodup
 pre:N.take P.length=P
 par:∀ x∈P,sc.names.lookup x=some .local∨sc.names.lookup x=some .cell
 nofree:∀ y∈sc.names,y.2≠.free
theorem ziI {kindOf:Str→Option NameKind}{x:Str} : ∀ {binds:List (Str × Value)}{m:Str→Option Value},(∀ v,(x,v)∉binds)→bindL kindOf binds m x=m x
 | [],_,_=>rfl
 | (n,v)::r,m,h=>by
  unfold bindL
  rw[ziI λw hw=>h w (List.mem_cons_of_mem _ hw)]
  split
  ·have:x≠n:=by rintro rfl;exact h v List.mem_cons_self
   simp[this]
  ·rfl
theorem ziJ {kindOf:Str→Option NameKind}{x:Str} : ∀ {binds:List (Str × Value)}{m:Str→Option Value},(∀ v,(x,v)∉binds)→bindC kindOf binds m x=m x
 | [],_,_=>rfl
 | (n,v)::r,m,h=>by
  unfold bindC
  rw[ziJ λw hw=>h w (List.mem_cons_of_mem _ hw)]
  split
  ·rfl
  ·have:x≠n:=by rintro rfl;exact h v List.mem_cons_self
   simp[this]
theorem ziK {kindOf:Str→Option NameKind}{x:Str}{v:Value} : ∀ {P:List Str}{vs:List Value}{i:Nat}{m:Str→Option Value},P.Nodup→P[i]?=some x→vs[i]?=some v→kindOf x=some .local→
  bindL kindOf (P.zip vs) m x=some v
 | [],_,_,_,_,h,_,_=>by simp at h
 | _::_,[],_,_,_,_,h,_=>by simp at h
 | p::P,w::vs,0,m,nd,h1,h2,hk=>by
  simp at h1 h2;subst h1;subst h2
  show bindL kindOf ((p,w)::P.zip vs) m p=_
  unfold bindL
  rw[ziI λv hv=>(List.nodup_cons.mp nd).1 (List.of_mem_zip hv).1,if_pos hk]
  simp
 | p::P,w::vs,i+1,m,nd,h1,h2,hk=>by
  show bindL kindOf ((p,w)::P.zip vs) m x=_
  unfold bindL
  exact ziK (i:=i) (List.nodup_cons.mp nd).2 (by simpa using h1) (by simpa using h2) hk
theorem ziL {kindOf:Str→Option NameKind}{x:Str}{v:Value} : ∀ {P:List Str}{vs:List Value}{i:Nat}{m:Str→Option Value},P.Nodup→P[i]?=some x→vs[i]?=some v→kindOf x≠some .local→
  bindC kindOf (P.zip vs) m x=some v
 | [],_,_,_,_,h,_,_=>by simp at h
 | _::_,[],_,_,_,_,h,_=>by simp at h
 | p::P,w::vs,0,m,nd,h1,h2,hk=>by
  simp at h1 h2;subst h1;subst h2
  show bindC kindOf ((p,w)::P.zip vs) m p=_
  unfold bindC
  rw[ziJ λv hv=>(List.nodup_cons.mp nd).1 (List.of_mem_zip hv).1,if_neg hk]
  simp
 | p::P,w::vs,i+1,m,nd,h1,h2,hk=>by
  show bindC kindOf ((p,w)::P.zip vs) m x=_
  unfold bindC
  exact ziL (i:=i) (List.nodup_cons.mp nd).2 (by simpa using h1) (by simpa using h2) hk
def start (N:List Str) (vs:List V):St:=vs.map some++List.replicate (N.length - vs.length) none
def cxOf (CX:CXT) (P:Program) (w:World) (K:Fg) (mg:Str→Option Value) (base:Heap) (N:List Str) (qual:Str) (scope:Scope) (f:Addr) (cd:Value) (A:Around) (outer:List Env) (s:Shared) (H:Hp) (E:XK):Cx where
 prog:=P
 w:=w
 K:=K
 mg:=mg
 base:=base
 A:=A.deeper (envOfC qual scope s.heap.objs.size f cd)
 N:=N
 s₀:=s
 H₀:=H
 env:=envOfC qual scope s.heap.objs.size f cd
 outer:=outer
 stack:=envOfC qual scope s.heap.objs.size f cd::outer
 ex:=[]
 calm:=true
 fn:=λ_=>true
 pn:=[]
 xe:=λe s'=>wpAny (model P w) (A.deeper (envOfC qual scope s.heap.objs.size f cd)) (leaving (envOfC qual scope s.heap.objs.size f cd) e) (λ_ s''=>CX outer H s E e s'') (λe' s''=>CX outer H s E e' s'') s'
theorem zkF {sc:Scope}{n:Nat}{x:Str}(h:sc.names.lookup x=some .cell):∃ c,(cellsFrom n sc.names []).lookup x=some c:=by
 have q:=PySem.W.cellsFrom_some sc.names n [] (.inl h)
 exact Option.isSome_iff_exists.mp q
theorem zl8 {CX:CXT}{P:Program}{w:World}{K:Fg}{mg:Str→Option Value}{base:Heap}{N ps:List Str}{qual:Str}{scope:Scope}{f:Addr}{cd:Value}{A:Around}{outer:List Env}{s s1:Shared}{H:Hp}{E:XK}{us:List Value}{vs:List V}
  (S:FSc N ps scope) (hd:A.handled=none) (e0:Env0 P w K mg base A outer s H) (hl:vs.length=ps.length) (r:Vals vs us)
  (x:InCallC s s.heap.objs.size (bindL (envOfC qual scope s.heap.objs.size f cd).kindOf (ps.zip us) λ_=>none) (cellsFrom (s.heap.objs.size+1) scope.names []) (bindC (envOfC qual scope s.heap.objs.size f cd).kindOf (ps.zip us) λ_=>none) s1) :
  Inv (cxOf CX P w K mg base N qual scope f cd A outer s H E) [] (start N vs) H s1:=by
 have hpl:ps.length≤N.length:=by have:=congrArg List.length S.pre;rw[List.length_take] at this;omega
 obtain⟨h1,tk,rfl,hk⟩:=x.done
 have noA:∀ b:Addr,b∉(cxOf CX P w K mg base N qual scope f cd A outer s H E).ex:=λb z=>absurd (show b∈([]:List Addr) from z) (by simp)
 refine⟨⟨e0.mod,S.kind,rfl,rfl,Nat.le_refl _,λy z c h1 h2=>?_,λy hy=>?_,λy c _ h=>?_,λ_=>hd,Around.frames_deeper e0.frames,.inr ⟨rfl,rfl⟩,λb z=>absurd z (noA b),e0.bs,e0.bsz,λb _ _=>noA b,λb z=>absurd z (noA b),e0.funs,e0.frf⟩,
  rfl,e0.bare,Un.kept hk,⟨_,x.toInCall.ns,λi y v h1 h2 h3=>?_⟩,λy c h=>⟨_,x.cell y c h⟩,e0.hok.fresh (Nat.le_refl _),λy c h=>?_,λp hp=>absurd (show p∈([]:List (Addr × Obj)) from hp) (by simp),e0.hok.kept hk,?_⟩
 ·exact name_of_addr x.apart (PySem.mem_of_lookup h1) (PySem.mem_of_lookup h2)
 ·have hy:scope.names.lookup y=some .cell∨scope.names.lookup y=some .free:=hy
  rcases hy with hy | hy
  ·exact zkF hy
  ·exact absurd rfl (S.nofree _ (PySem.mem_of_lookup hy))
 ·exact Nat.le_of_lt (x.above y c (PySem.mem_of_lookup h))
 ·have hi:i<vs.length:=by
   unfold start at h2
   by_cases hi:i<vs.length
   ·exact hi
   ·rw[List.getElem?_append_right (by simpa using hi)] at h2
    rw[List.getElem?_replicate] at h2
    split at h2 <;> cases h2
  have ha:vs[i]?=some v:=by
   unfold start at h2
   rw[List.getElem?_append_left (by simpa using hi),zgm] at h2
   cases e:vs[i]? with
   | none=>rw[e] at h2;cases h2
   | some a=>rw[e] at h2;cases h2;rfl
  obtain⟨u,hu,rv⟩:=r.get ha
  have hp:ps[i]?=some y:=by
   rw[←S.pre,List.getElem?_take_of_lt (by omega)];exact h1
  have ndP:ps.Nodup:=by rw[←S.pre];exact S.nd.sublist (List.take_sublist _ _)
  refine⟨u,rv,?_⟩
  rcases S.par y (zmg hp) with k | k
  ·exact .inl ⟨k,ziK ndP hp hu k⟩
  ·obtain⟨c,e⟩:=zkF (n:=s.heap.objs.size+1) k
   refine .inr ⟨.inl k,c,e,?_⟩
   have q:=x.cell y c e
   rw[ziL ndP hp hu (by show scope.names.lookup y≠_;rw[k];decide)] at q
   exact q
 ·exact e0.hok.fresh (Nat.le_of_lt (x.above y c (PySem.mem_of_lookup h)))
 ·unfold start
  show _=N.length
  rw[List.length_append,zlm,List.length_replicate]
  omega
theorem zqt {CX:CXT}{P:Program}{w:World}{K:Fg}{mg:Str→Option Value}{base:Heap}{k:Nat}{f:Addr}{name qual:Str}{params:Arguments}{body:List Stmt}{scope:Scope}{dV kV doc pm cdv ct oc:Value}{an od:Option Addr}
  {osl:Array (Option Value)}{N ps:List Str}{sp:Sp}(lk:K.lookup f=some ⟨oc,od,.func (PySem.W.fnOf name qual params body scope dV kV doc pm an cdv ct),osl⟩) (hcd:PySem.W.codeIn K cdv qual=true) (S:FSc N ps scope)
  (len:∀ vs H Q E,sp vs H Q E→vs.length=ps.length)
  (hbody:∀ (A:Around) (outer:List Env) (s:Shared) (H:Hp) (vs:List V) (Q:VK) (E:XK),Room k (A.deeper (envOfC qual scope s.heap.objs.size f cdv))→sp vs H Q E→
   ∃ t,PSs (cxOf CX P w K mg base N qual scope f cdv A outer s H E) body t∧t {nx:=λ_ H'=>Q .non H',rt:=Q} (start N vs) H) :
  FnOk P w K mg base CX (k+1) f (PySem.W.fnOf name qual params body scope dV kV doc pm an cdv ct) ps sp:=by
 refine⟨len,λA outer s H args us vs Q E hr e0 hb r hsp=>?_⟩
 have hl:=len _ _ _ _ hsp
 have KX:K.In s.heap:=e0.mod.kin.keeps λb o e=>(e0.bs b o e).1
 have lim:s.heap.NoLimit:=e0.mod.nolimit.keeps λb o e=>(e0.bs b o e).1
 have hkind:∀ y∈ps.zip us,scope.names.lookup y.1=some .local∨(scope.names.lookup y.1=some .cell∧((cellsFrom (s.heap.objs.size+1) scope.names []).lookup y.1).isSome=true):=λ⟨n,v⟩ hy=>by
  rcases S.par n (List.of_mem_zip hy).1 with q | q
  ·exact .inl q
  ·exact .inr ⟨q,PySem.W.cellsFrom_some _ _ _ (.inl q)⟩
 refine codeAny_call_function hr.depth (KX _ _ lk) rfl S.co S.gen rfl (PySem.W.codeRec_of KX hcd) (hb _ _ _ _ ?_)
 refine wpAny_newFunctionEnv_cells S.kind hkind λenv he s1 x=>?_
 subst he
 refine⟨lim.keeps x.toInCall.keep,codeAny_func ?_⟩
 obtain⟨t,ht,hq⟩:=hbody A outer s H vs Q E (hr.deeper _) hsp
 have I:Inv (cxOf CX P w K mg base N qual scope f cdv A outer s H E) [] (start N vs) H s1:=zl8 S hr.hd e0 hl r x
 refine wpAny_mono (ht [] s1 (start N vs) H _ I hq) (λfl s' hs=>?_) λe s' hs=>hs
 have fin:∀ {σ':St}{H':Hp}{v:V}{u:Value},Inv (cxOf CX P w K mg base N qual scope f cdv A outer s H E) [] σ' H' s'→RelV v u→Q v H'→CE outer P w H s Q u s':=
  λ{σ' H' v u} J rv q=>⟨v,H',J.os,J.bare,J.base,J.hok,rv,q⟩
 cases fl with
 | ret u=>
  obtain⟨v,σ',H',J,rv,q⟩:=hs
  exact fin J rv q
 | next=>
  obtain⟨σ',H',J,q⟩:=hs
  exact fin (v:=V.non) (u:=Value.none) J rfl q
 | brk=>
  obtain⟨_,_,_,q⟩:=hs
  exact False.elim q
 | cont=>
  obtain⟨_,_,_,q⟩:=hs
  exact False.elim q
end L2

namespace L2
open PySem PySem.Spec PyProof.Rows
section
variable {X:Cx}{x:Str}{p pos:Pos}{e:Expr}{es:List Expr}{t:TA}{id T:String}{r:List V→Hp→VK→Prop}

def tCB (r:List V→Hp→VK→Prop) (t:TA):TE:=λσ H Q=>t σ H λvs H1=>r vs H1 Q
theorem zaz (hc:zcB X (.builtin id) r) (hg:Gl X x) (hm:X.mg x=none) (hv:bootBuiltins x=some (.builtin id)) (ha:PA X (e::es) t) (hn:x≠ "__name__":=by decide) (hdb:(x == ("__debug__" : Str))=false:=by decide)
  (he:starEach (e::es) X.env=(false,eval e X.env)::starEach es X.env:=by rfl) (hpl:(backTo pos (starEach es X.env)).any (·.1)=false:=by rfl):PE X (.Call (.Name x p) (e::es) [] pos) (tCB r t):=by
 intro pins s σ H Q I h
 refine wpAny_Call_Name_kw (zgl I hg hm hv ?_ hn hdb)
 exact PyProof.Rows.callWith_builtin1 (thn (ha pos pins s σ H _ I h) λus s1 ⟨vs,H1,I1,r1,q1⟩=>hc pins s1 σ H1 vs us Q I1 r1 q1) he hpl
theorem zcR (hc:zcB X (.type T) r) (hg:Gl X x) (hm:X.mg x=none) (hv:bootBuiltins x=some (.type T)) (ha:PA X (e::es) t) (hn:x≠ "__name__":=by decide) (hdb:(x == ("__debug__" : Str))=false:=by decide)
  (he:starEach (e::es) X.env=(false,eval e X.env)::starEach es X.env:=by rfl) (hpl:(backTo pos (starEach es X.env)).any (·.1)=false:=by rfl):PE X (.Call (.Name x p) (e::es) [] pos) (tCB r t):=by
 intro pins s σ H Q I h
 refine wpAny_Call_Name_kw (zgl I hg hm hv ?_ hn hdb)
 exact PyProof.Rows.callWith_type1 (thn (ha pos pins s σ H _ I h) λus s1 ⟨vs,H1,I1,r1,q1⟩=>hc pins s1 σ H1 vs us Q I1 r1 q1) he hpl
end
end L2

namespace HT
open PySem PyProof.Rows

section
open PySem.SeqAt
open PySem.AutoSeq1 (wpAny_loadPart')
open PySem.MeetsSeq PySem.MeetsSeq2 PySem.MeetsSeq3

end

section
variable {prog:Program}{w:World}{A:Around}{E:Value→Shared→Prop}{s:Shared}

theorem cat_tup {t b:Addr}{vs ws:List Value}{Q:Value→Shared→Prop}(ht:IsTup s.heap t vs.toArray) (hb:IsTup s.heap b ws.toArray) (hv:vs≠[])
  (h1:ws=[]→Q (.ref t) s) (h2:ws≠[]→Q (.ref s.heap.objs.size) {s with heap:=s.heap.push {cls:=.type "tuple",data:=.seq (vs++ws).toArray}})
  (hsz:vs.length+ws.length≤sizeLine):wpAny (model prog w) A (binaryOp .Add (.ref t) (.ref b)) Q E s:=by
 obtain⟨⟨cls,dd,data,sl⟩,ho,hc,n,hd⟩:=id ht
 obtain⟨⟨cls2,dd2,data2,sl2⟩,ho2,hc2,n2,hd2⟩:=id hb
 simp only at hc hd hc2 hd2
 subst hc hd hc2 hd2
 have e:vs.toArray++ws.toArray=(vs++ws).toArray:=by simp
 by_cases hw:ws=[]
 ·exact concat_meets ⟨_,ho,rfl⟩ ⟨_,ho2,rfl⟩ noFill_tuple_add seq_tuple_add PySem.F.slot_tuple_add PySem.F.entry_tuple_add (PySem.F.args_tuple_add_2 _ _)
   (tuple_addW1 t b vs.toArray ws.toArray n n2 dd dd2 sl sl2 (by simpa using hv) (by simp[hw])) ⟨ho,ho2,h1 hw⟩
 ·refine concat_meets ⟨_,ho,rfl⟩ ⟨_,ho2,rfl⟩ noFill_tuple_add seq_tuple_add PySem.F.slot_tuple_add PySem.F.entry_tuple_add (PySem.F.args_tuple_add_2 _ _)
   (tuple_addW2 t b vs.toArray ws.toArray n n2 dd dd2 sl sl2 (by simpa using hv) (by simpa using hw) (by rw[zst,zst];exact hsz)) ⟨ho,ho2,?_⟩
  rw[e]
  exact h2 hw
def sIx (n d:Nat):Option Int→Nat
 | none=>d
 | some v=>if v<0 then (v+(n:Int)).toNat else min v.toNat n
theorem sIx_none (n d:Nat):sIx n d none=d:=rfl
theorem sIx_nat (n d k:Nat):sIx n d (some (k:Int))=min k n:=by
 show (if (k:Int)<0 then ((k:Int)+(n:Int)).toNat else min (k:Int).toNat n)=min k n
 rw[if_neg (by omega),Int.toNat_natCast]
theorem zqu (n d:Nat) (hd:d≤n) (o:Option Int):sIx n d o≤n:=by
 cases o with
 | none=>exact hd
 | some v=>
  show (if v<0 then (v+(n:Int)).toNat else min v.toNat n)≤n
  by_cases hv:v<0
  ·rw[if_pos hv];omega
  ·rw[if_neg hv];exact Nat.min_le_right _ _
theorem zl9 (v:Int) (n d:Nat):(if v<0 then max (v+(n:Int)) 0 else min v (n:Int))=((sIx n d (some v):Nat):Int):=by
 show (if v<0 then max (v+(n:Int)) 0 else min v (n:Int))=(((if v<0 then (v+(n:Int)).toNat else min v.toNat n):Nat):Int)
 by_cases hv:v<0
 ·simp only[if_pos hv];omega
 ·simp only[if_neg hv];omega
theorem zli (lo hi:Option Int) (n:Nat):Builtin.Slice.sliceAdjust lo hi 1 (n:Int)=(((sIx n 0 lo:Nat):Int),((sIx n n hi:Nat):Int)):=by
 have h1:¬ ((1:Int)<0):=by omega
 unfold Builtin.Slice.sliceAdjust
 simp only[h1,if_false]
 refine Prod.ext ?_ ?_
 ·cases lo with
  | none=>rfl
  | some v=>exact zl9 v n 0
 ·cases hi with
  | none=>rfl
  | some v=>exact zl9 v n n
theorem zlj (i j:Nat):Builtin.Slice.slicePlaces (i:Int) (j:Int) 1=j - i:=by
 unfold Builtin.Slice.slicePlaces
 have h1:(1:Int)>0:=by omega
 simp only[h1,if_true,Int.ediv_one]
 split <;> omega
theorem zhB {v:Value}{o:Option Int}{Q:Option Int→Shared→Prop}(p:IsPart v o) (h:Q o s):wpAny (model prog w) A (Builtin.Slice.slicePartIndex v) Q E s:=by
 cases p with
 | none=>exact slicePart_none h
 | int i t=>exact slicePart_int h
theorem zfU {sl:Addr}{vl vu:Value}{lo hi:Option Int}{n:Nat}{Q:Int × Int × Nat→Shared→Prop}(hs:s.heap.IsSliceOf sl vl vu .none) (pl:IsPart vl lo) (pu:IsPart vu hi)
  (h:Q (((sIx n 0 lo:Nat):Int),1,sIx n n hi - sIx n 0 lo) s):wpAny (model prog w) A (Builtin.Slice.sliceApplied (.ref sl) (pure (n:Int))) Q E s:=by
 obtain⟨os,hos,hcs,hds⟩:=id hs
 unfold Builtin.Slice.sliceApplied Builtin.Slice.sliceFields
 refine wpAny_bind (wpAny_bind (wpAny_field hos hds (x:=vl) rfl (wpAny_bind (wpAny_field hos hds (x:=vu) rfl (wpAny_bind (wpAny_field hos hds (x:=.none) rfl (wpAny_pure ?_)))))))
 refine wpAny_bind (slicePart_none ?_)
 show wpAny _ _ (if ((1:Int) == 0)=true then _ else _) _ _ s
 rw[if_neg (by decide)]
 refine wpAny_bind (zhB pl (wpAny_bind (zhB pu (wpAny_bind (wpAny_pure ?_)))))
 show wpAny _ _ (match Builtin.Slice.sliceAdjust lo hi 1 (n:Int) with | (lo,hi)=>pure (lo,(1:Int),Builtin.Slice.slicePlaces lo hi 1)) _ _ s
 rw[zli lo hi n]
 show wpAny _ _ (pure (((sIx n 0 lo:Nat):Int),(1:Int),Builtin.Slice.slicePlaces ((sIx n 0 lo:Nat):Int) ((sIx n n hi:Nat):Int) 1)) _ _ s
 rw[zlj]
 exact wpAny_pure h
theorem znK (xs:Array Value) (i k:Nat):((List.range k).filterMap λ(m:Nat)=>xs[((i:Int)+(m:Int) * 1).toNat]?).toArray=((xs.toList.drop i).take k).toArray:=by
 have e:(λ(m:Nat)=>xs[((i:Int)+(m:Int) * 1).toNat]?)=λm=>xs[i+m]?:=by
  funext m
  have:((i:Int)+(m:Int) * 1).toNat=i+m:=by omega
  rw[this]
 rw[e]
 have:=pick_run xs i k
 rw[List.filterMap_map] at this
 have e2:((λx=>xs[x]?) ∘ λx=>i+x)=λm=>xs[i+m]?:=rfl
 rw[e2] at this
 rw[this]
theorem getItem_tuple_cut {t sl:Addr}{items:Array Value}{vl vu:Value}{lo hi:Option Int}{Q:Value→Shared→Prop}(ht:IsTup s.heap t items) (hs:s.heap.IsSliceOf sl vl vu .none) (pl:IsPart vl lo) (pu:IsPart vu hi)
  (hw:¬ (sIx items.size 0 lo=0∧sIx items.size items.size hi=items.size))
  (h:Q (.ref s.heap.objs.size) {s with heap:=s.heap.push {cls:=.type "tuple",data:=.seq ((items.toList.drop (sIx items.size 0 lo)).take (sIx items.size items.size hi - sIx items.size 0 lo)).toArray}})
  (hsz:items.size≤sizeLine):wpAny (model prog w) A (getItem (.ref t) (.ref sl)) Q E s:=by
 have htake:sizeOk (.seq ((items.toList.drop (sIx items.size 0 lo)).take (sIx items.size items.size hi - sIx items.size 0 lo)).toArray):=by
  show ((items.toList.drop (sIx items.size 0 lo)).take (sIx items.size items.size hi - sIx items.size 0 lo)).toArray.size≤sizeLine
  rw[zst,List.length_take,List.length_drop,Array.length_toList]
  omega
 have hj:sIx items.size items.size hi≤items.size:=zqu _ _ (Nat.le_refl _) hi
 obtain⟨os,hos,hcs,hds⟩:=id hs
 have hTs:s.TypeIs (.ref sl) "slice":=⟨os,hos,hcs⟩
 unfold getItem
 try with_reducible refine wpAny_holding ?_
 first | refine wpAny_bind (wpAny_pure ?_) | skip
 refine wpAny_bind (wpAny_sequenceKey ht.typeIs (by decide) ?_)
 refine wpAny_bind (wpAny_callSpecial?_slot (name:=Str.ofString "__getitem__") ht.typeIs PyProof.Rows.slot_tuple_getitem
  (wpAny_call_entry PyProof.Rows.slot_tuple_getitem ht.typeIs entry_tuple_getitem ?_ (args_tuple_getitem _ _)))
 show wpAny _ _ (Builtin.Tuple.tupleItemsOf (.ref t) >>= _) _ _ s
 refine wpAny_bind (tupleItemsOf_ ht ?_)
 refine wpAny_bind (wpAny_typeOf hTs ?_)
 rw[if_pos (by decide)]
 refine wpAny_bind (zfU hs pl pu ?_)
 have hno:¬ ((((sIx items.size 0 lo:Nat):Int) == 0 && (1:Int) == 1 && (sIx items.size items.size hi - sIx items.size 0 lo) == items.size)=true):=by
  intro q
  rw[Bool.and_eq_true,Bool.and_eq_true] at q
  have q1:((sIx items.size 0 lo:Nat):Int)=0:=eq_of_beq q.1.1
  have q2:sIx items.size items.size hi - sIx items.size 0 lo=items.size:=eq_of_beq q.2
  exact hw ⟨by omega,by omega⟩
 show wpAny _ _ (if (((sIx items.size 0 lo:Nat):Int) == 0 && (1:Int) == 1 && (sIx items.size items.size hi - sIx items.size 0 lo) == items.size)=true then _ else _) _ _ s
 rw[if_neg hno,znK]
 first
  | exact wpAny_bind (m:=Builtin.Tuple.tupleExact _) (wpAny_newObj_type (wpAny_pure ⟨_,rfl,wpAny_pure h⟩) htake)
  | exact wpAny_bind (m:=Builtin.Tuple.tupleExact _) (wpAny_newObj_type (wpAny_bind (wpAny_pure (wpAny_pure ⟨_,rfl,wpAny_pure h⟩))) htake)
  | exact wpAny_bind (wpAny_bind (m:=Builtin.Tuple.tupleExact _) (wpAny_newObj_type (wpAny_pure (wpAny_pure ⟨_,rfl,wpAny_pure h⟩)) htake))
  | exact wpAny_bind (wpAny_bind (m:=Builtin.Tuple.tupleExact _) (wpAny_newObj_type (wpAny_pure ⟨_,rfl,wpAny_pure h⟩) htake))
end
end HT

namespace L2
open PySem PySem.Spec PyProof.Rows

abbrev TO:=St→Hp→(Option Int→Hp→Prop)→Prop
def PO (X:Cx) (e:Option Expr) (t:TO):Prop:=
 ∀ (pins:List (Addr × Obj)) (s:Shared) (σ:St) (H:Hp) (Q:Option Int→Hp→Prop),Inv X pins σ H s→t σ H Q→
  wpAny (model X.prog X.w) X.A (evalPart e X.env) (λu s'=>∃ o H',Inv X pins σ H' s'∧IsPart u o∧Q o H') X.xe s
def zmb:TO:=λ_ H Q=>Q none H
def zqv (t:TE):TO:=λσ H Q=>t σ H λx H1=>∃ i,x=.int i∧Q (some i) H1
section
variable {X:Cx}{e:Expr}{te:TE}{lo hi:Option Expr}{tl th:TO}{pos p2:Pos}

theorem zhV:PO X none zmb:=by
 intro pins s σ H Q I h
 rw[evalPart_none]
 exact wpAny_pure ⟨none,H,I,.none,h⟩
theorem zhW (h:PE X e te):PO X (some e) (zqv te):=by
 intro pins s σ H Q I hw
 rw[evalPart_some]
 refine thn (h pins s σ H _ I hw) λu s1 ⟨x,H1,I1,r1,q1⟩=>?_
 obtain⟨i,rfl,q⟩:=q1
 obtain⟨t,rfl⟩:=r1
 exact⟨some i,H1,I1,.int i t,q⟩
def SlR (X:Cx) (r:V→Option Int→Option Int→Hp→VK→Prop):Prop:=
 ∀ (pins:List (Addr × Obj)) (s:Shared) (σ:St) (H:Hp) (x:V) (v vl vu:Value) (lo hi:Option Int) (sl:Addr) (Q:VK),Inv X pins σ H s→RelV x v→s.heap.IsSliceOf sl vl vu .none→IsPart vl lo→IsPart vu hi→r x lo hi H Q→
  ∃ T id,typeLookup (.type T) "__getitem__"=pure (some (.builtin id))∧s.TypeIs v T∧wpAny (model X.prog X.w) X.A (getItem v (.ref sl)) (EP X pins σ Q) X.xe s
theorem SlR.or {r r':V→Option Int→Option Int→Hp→VK→Prop}(h:SlR X r) (h':SlR X r'):SlR X (λx lo hi H Q=>r x lo hi H Q∨r' x lo hi H Q):=by
 intro pins s σ H x v vl vu lo hi sl Q I rx hs pl pu q
 rcases q with q | q
 ·exact h pins s σ H x v vl vu lo hi sl Q I rx hs pl pu q
 ·exact h' pins s σ H x v vl vu lo hi sl Q I rx hs pl pu q
def tSl (r:V→Option Int→Option Int→Hp→VK→Prop) (te:TE) (tl th:TO):TE:=λσ H Q=>te σ H λx H1=>tl σ H1 λl H2=>th σ H2 λu H3=>r x l u H3 Q
theorem zf8 {r:V→Option Int→Option Int→Hp→VK→Prop}(hr:SlR X r) (he:PE X e te) (hl:PO X lo tl) (hu:PO X hi th):PE X (.Subscript e (.Slice lo hi none p2) pos) (tSl r te tl th):=by
 intro pins s σ H Q I h
 refine Subscript_ (thn (he pins s σ H _ I h) λv s1 ⟨x,H1,I1,r1,q1⟩=>?_)
 refine wpAny_Slice (thn (hl pins s1 σ H1 _ I1 q1) λvl s2 ⟨l,H2,I2,pl,q2⟩=>thn (hu pins s2 σ H2 _ I2 q2) λvu s3 ⟨u,H3,I3,pu,q3⟩=>?_)
 rw[evalPart_none]
 refine wpAny_pure ?_
 have I4:Inv X pins σ H3 {s3 with heap:=s3.heap.push {cls:=.type "slice",data:=.fields #[vl,vu,.none]}}:=I3.kept (t':=s3.toks) λb ob q=>Heap.get?_push_of_some _ q
 obtain⟨T,id,hT,ht,hg⟩:=hr pins {s3 with heap:=s3.heap.push {cls:=.type "slice",data:=.fields #[vl,vu,.none]}} σ H3 x v vl vu l u s3.heap.objs.size Q I4 r1 (Heap.IsSliceOf.new ..) pl pu q3
 show wpAny (model X.prog X.w) X.A (subscriptTail e (.Slice lo hi none p2) v (.ref s3.heap.objs.size)) (EP X pins σ Q) X.xe {s3 with heap:=s3.heap.push {cls:=.type "slice",data:=.fields #[vl,vu,.none]}}
 exact tail_any (ops:=[.ref s3.heap.objs.size,v]) ht hT hg (by with_unfolding_all rfl)
def cutV (xs:List V) (lo hi:Option Int):List V:=(xs.drop (HT.sIx xs.length 0 lo)).take (HT.sIx xs.length xs.length hi - HT.sIx xs.length 0 lo)
theorem zgp (xs:List V) (lo hi:Option Int):(cutV xs lo hi).length≤xs.length:=by
 unfold cutV
 rw[List.length_take,List.length_drop]
 omega
def rSlT (K:Fg):V→Option Int→Option Int→Hp→VK→Prop:=λx lo hi H Q=>∃ a xs,x=.ref a∧SqT K H a xs∧
 ¬ (HT.sIx xs.length 0 lo=0∧HT.sIx xs.length xs.length hi=xs.length)∧∀ p,H p=none→Q (.ref p) (upd H p (.tup (cutV xs lo hi)))
theorem zqw:SlR X (rSlT X.K):=by
 intro pins s σ H x v vl vu lo hi sl Q I rx hs pl pu h
 obtain⟨a,xs,rfl,hx,hw,q⟩:=h
 cases rx
 obtain⟨its,r,ht,hz⟩:=I.tuple hx
 have hlen:its.toArray.size=xs.length:=by rw[zst];exact r.length.symm
 refine⟨"tuple",_,PyProof.Rows.slot_tuple_getitem.lookup,ht.typeIs,?_⟩
 refine HT.getItem_tuple_cut ht hs pl pu (by rw[hlen];exact hw) ?_ (by rw[hlen];exact hz)
 rw[hlen]
 refine⟨.ref s.heap.objs.size,_,I.laid (t':=s.toks) (o:=.tup (cutV xs lo hi)) (λb ob q=>Heap.get?_push_of_some _ q) (Nat.le_refl _) ?_,rfl,q _ (I.hok.fresh (Nat.le_refl _))⟩
 exact⟨Nat.le_trans (zgp xs lo hi) hz,_,(r.drop (HT.sIx xs.length 0 lo)).take (HT.sIx xs.length xs.length hi - HT.sIx xs.length 0 lo),IsTup.new _ _⟩
def zqx (K:Fg):R2:=λx y H Q=>∃ a b xs ys,x=.ref a∧y=.ref b∧SqT K H a xs∧SqT K H b ys∧xs≠[]∧xs.length+ys.length≤sizeLine∧
 (ys=[]→Q (.ref a) H)∧(ys≠[]→∀ p,H p=none→Q (.ref p) (upd H p (.tup (xs++ys))))
theorem Vals.nil_iff {xs:List V}{us:List Value}(r:Vals xs us):us=[]↔xs=[]:=by
 cases r with
 | nil=>simp
 | cons _ _=>simp
theorem zpl:OpR X (binaryOp .Add) (zqx X.K):=by
 intro pins s σ H x y v u Q I rx ry h
 obtain⟨a,b,xs,ys,rfl,rfl,ha,hb,hx,hz,q1,q2⟩:=h
 cases rx
 cases ry
 obtain⟨its,r1,p1,_⟩:=I.tuple ha
 obtain⟨its2,r2,p2,_⟩:=I.tuple hb
 refine HT.cat_tup p1 p2 (λz=>hx (r1.nil_iff.mp z)) (λz=>⟨.ref a,H,I,rfl,q1 (r2.nil_iff.mp z)⟩) (λz=>?_) (by rw[←r1.length,←r2.length];exact hz)
 refine⟨.ref s.heap.objs.size,_,I.laid (t':=s.toks) (o:=.tup (xs++ys)) (λb ob q=>Heap.get?_push_of_some _ q) (Nat.le_refl _) ?_,rfl,q2 (λw=>z (r2.nil_iff.mpr w)) _ (I.hok.fresh (Nat.le_refl _))⟩
 exact⟨by rw[List.length_append];exact hz,_,r1.append r2,IsTup.new _ _⟩
end
end L2

namespace L2
open PySem PySem.Spec PyProof.Rows

def ixN (n:Nat) (i:Int):Option Nat:=if 0≤i then (if i<n then some i.toNat else none) else if -(n:Int)≤i then some (i+n).toNat else none
def atI {α:Type}(xs:List α) (i:Int):Option α:=(ixN xs.length i).bind λj=>xs[j]?
theorem zmd {n:Nat}{i:Int}{j:Nat}(h:ixN n i=some j):seqIndex? i n=some j∧j<n∧-(n:Int)≤i∧i<n:=by
 unfold ixN at h
 by_cases h0:0≤i
 ·rw[if_pos h0] at h
  by_cases h1:i<n
  ·rw[if_pos h1] at h
   have e:i.toNat=j:=Option.some.inj h
   exact⟨by rw[seqIndex_of h0 h1,e],by omega,by omega,h1⟩
  ·rw[if_neg h1] at h;cases h
 ·rw[if_neg h0] at h
  by_cases h1:-(n:Int)≤i
  ·rw[if_pos h1] at h
   have e:(i+n).toNat=j:=Option.some.inj h
   exact⟨by rw[seqIndex_neg (by omega) h1,e],by omega,h1,by omega⟩
  ·rw[if_neg h1] at h;cases h
theorem zjW {α:Type}{xs:List α}{i:Int}{v:α}(h:atI xs i=some v):∃ j,seqIndex? i xs.length=some j∧xs[j]?=some v∧j<xs.length∧-(xs.length:Int)≤i∧i<xs.length:=by
 unfold atI at h
 cases e:ixN xs.length i with
 | none=>rw[e] at h;cases h
 | some j=>
  rw[e] at h
  obtain⟨h1,h2,h3,h4⟩:=zmd e
  exact⟨j,h1,h,h2,h3,h4⟩
theorem zaN {α:Type}{xs:List α}{j:Nat}{v:α}(h:xs[j]?=some v):atI xs (j:Int)=some v:=by
 have hj:j<xs.length:=(zge.mp h).1
 have e:ixN xs.length (j:Int)=some j:=by
  unfold ixN
  rw[if_pos (by omega),if_pos (by omega)];simp
 unfold atI;rw[e];exact h
def zpm (b:Expr):Prop:=∀ o i,subscripted b false o i=operate [o,i] (getItem o i)
def IxR (X:Cx) (r:R2):Prop:=
 ∀ (value slice:Expr) (pins:List (Addr × Obj)) (s:Shared) (σ:St) (H:Hp) (x y:V) (v u:Value) (Q:VK),Inv X pins σ H s→RelV x v→RelV y u→r x y H Q→
  subscripted slice false v u=operate [v,u] (getItem v u)→wpAny (model X.prog X.w) X.A (subscriptTail value slice v u) (EP X pins σ Q) X.xe s
def MtR (X:Cx) (id:String) (r:V→List V→Hp→VK→Prop):Prop:=
 ∀ (pins:List (Addr × Obj)) (s:Shared) (σ:St) (H:Hp) (x:V) (xs:List V) (v:Value) (us:List Value) (Q:VK),Inv X pins σ H s→RelV x v→Vals xs us→r x xs H Q→
  wpAny (model X.prog X.w) X.A (call (.builtin id) (v::us)) (EP X pins σ Q) X.xe s
section
variable {X:Cx}{a b:Expr}{ta tb:TE}{pos:Pos}
theorem IxR.or {r r':R2}(h:IxR X r) (h':IxR X r'):IxR X (λx y H Q=>r x y H Q∨r' x y H Q):=by
 intro value slice pins s σ H x y v u Q I rx ry q hs
 rcases q with q | q
 ·exact h value slice pins s σ H x y v u Q I rx ry q hs
 ·exact h' value slice pins s σ H x y v u Q I rx ry q hs
theorem zaH {r:R2}(hr:IxR X r) (ha:PE X a ta) (hb:PE X b tb) (hs:zpm b):PE X (.Subscript a b pos) (tOp r ta tb):=by
 intro pins s σ H Q I h
 exact Subscript_ (binT ha hb I h λv u s2 x y H2 I2 rx ry q=>hr a b pins s2 σ H2 x y v u Q I2 rx ry q (hs _ _))
def rIxL (K:Fg):R2:=λx y H Q=>∃ p xs i v,x=.ref p∧y=.int i∧SqL K H p xs∧atI xs i=some v∧Q v H
def rIxT (K:Fg):R2:=λx y H Q=>∃ p xs i v,x=.ref p∧y=.int i∧SqT K H p xs∧atI xs i=some v∧Q v H
def rIxS:R2:=λx y H Q=>∃ z i c,x=.str z∧y=.int i∧z.length≤sizeLine∧atI z.cps.toList i=some c∧Q (.str ⟨#[c]⟩) H
theorem zpn:IxR X (rIxL X.K):=by
 intro value slice pins s σ H x y v u Q I rx ry h hs
 obtain⟨p,xs,i,z,rfl,rfl,hq,he,q⟩:=h
 cases rx
 obtain⟨t,rfl⟩:=ry
 obtain⟨its,r,pl,hz⟩:=I.list hq
 obtain⟨j,h1,h2,h3,h4,h5⟩:=zjW he
 obtain⟨w,ew,rw'⟩:=r.get h2
 have hl:=r.length
 have hn:=ziH
 have fin:EP X pins σ Q w s:=⟨z,H,I,rw',q⟩
 by_cases h0:0≤i
 ·have hj:i.toNat=j:=by
   rw[seqIndex_of h0 h5] at h1
   exact Option.some.inj h1
  exact item_listR pl.isList h0 (by omega) (by rw[hj];simpa using ew) fin hs
 ·have hj:(i+(its.toArray.size:Int)).toNat=j:=by
   rw[seqIndex_neg (by omega) h4] at h1
   rw[zst,←hl]
   exact Option.some.inj h1
  exact subscriptTail_builtinR (x:=w) pl.isList.typeIs slot_list_getitem.lookup
   (wpAny_getItem_list_neg (Q:=λr s'=>r=w∧EP X pins σ Q r s') pl.isList (by omega) (by rw[zst] <;> omega) (by omega) (by rw[hj];simpa using ew) ⟨rfl,fin⟩) hs
theorem zqy:IxR X (rIxT X.K):=by
 intro value slice pins s σ H x y v u Q I rx ry h hs
 obtain⟨p,xs,i,z,rfl,rfl,hq,he,q⟩:=h
 cases rx
 obtain⟨t,rfl⟩:=ry
 obtain⟨its,r,pl,hz⟩:=I.tuple hq
 obtain⟨j,h1,h2,h3,h4,h5⟩:=zjW he
 obtain⟨w,ew,rw'⟩:=r.get h2
 have hl:=r.length
 have hn:=ziH
 have fin:EP X pins σ Q w s:=⟨z,H,I,rw',q⟩
 exact subscriptTail_builtinR (x:=w) pl.typeIs slot_tuple_getitem.lookup
  (getItem_tuple (j:=j) (Q:=λr s'=>r=w∧EP X pins σ Q r s') pl (by omega) (by omega) (by rw[zst,←hl];exact h1) (by simpa using ew) ⟨rfl,fin⟩) hs
theorem zqz:IxR X rIxS:=by
 intro value slice pins s σ H x y v u Q I rx ry h hs
 obtain⟨z,i,c,rfl,rfl,hz,he,q⟩:=h
 obtain⟨t,rfl⟩:=rx
 obtain⟨t',rfl⟩:=ry
 obtain⟨j,h1,h2,h3,h4,h5⟩:=zjW he
 have hl:z.cps.toList.length=z.length:=by simp[Str.length]
 rw[hl] at h1 h4 h5
 have hn:=ziH
 exact tail_any (typeIs_str s z t) slot_str_getitem.lookup (getItem_str (c:=c) (by
  have e1:decide (i < -(2 ^ 63:Int))=false:=decide_eq_false (by omega)
  have e2:decide (i≥2 ^ 63)=false:=decide_eq_false (by omega)
  rw[e1,e2,Bool.or_false]) (by rw[h1];simpa using h2) ⟨.str ⟨#[c]⟩,H,I.tok _,⟨_,rfl⟩,q⟩) hs
def rIx (K:Fg):R2:=λx y H Q=>rIxL K x y H Q∨rIxT K x y H Q∨rIxS x y H Q
theorem zqA:IxR X (rIx X.K):=zpn.or (zqy.or zqz)
theorem zlk (its:List Value) (n j:Nat) (u:Value):Obj.mapSeq (·.setIfInBounds j u) {cls:=.type "list",data:=.seq its.toArray n}={cls:=.type "list",data:=.seq (its.set j u).toArray n}:=by
 simp[Obj.mapSeq]
theorem Inv.lst {pins:List (Addr × Obj)}{σ:St}{H:Hp}{s:Shared}{p:Addr}{xs:List V}(I:Inv X pins σ H s) (h:H p=some (.lst xs)) :
  ∃ (its:List Value) (n:Nat),Vals xs its∧s.heap.get? p=some {cls:=.type "list",data:=.seq its.toArray n}∧xs.length≤sizeLine:=by
 obtain⟨z,its,n,r,e⟩:=I.hok p _ h
 exact⟨its,n,r,e,z⟩
theorem Inv.lstUpd {pins:List (Addr × Obj)}{σ:St}{H:Hp}{s:Shared}{p:Addr}{xs ys:List V}{its its':List Value}{n n':Nat}{f:Obj→Obj}(I:Inv X pins σ H s) (h:H p=some (.lst xs))
  (ho:s.heap.get? p=some {cls:=.type "list",data:=.seq its.toArray n}) (hf:f {cls:=.type "list",data:=.seq its.toArray n}={cls:=.type "list",data:=.seq its'.toArray n'}) (r:Vals ys its') (hz:ys.length≤sizeLine) (t:Nat) :
  Inv X pins σ (upd H p (.lst ys)) {s with heap:=s.heap.update p f,toks:=t}:=by
 have e:(s.heap.update p f).get? p=some {cls:=.type "list",data:=.seq its'.toArray n'}:=by
  rw[Heap.get?_update_self f ho (by rw[hf] <;> rfl),hf]
 refine I.write (x:=p) (e:=p) (by rw[h];trivial) (.inl rfl) (λb u hb q=>(Heap.get?_update_other _ _ (Ne.symm hb)).trans q) ⟨_,e⟩ ?_
 exact⟨hz,its',n',r,e⟩
def zqB:V→V→V→Hp→(Hp→Prop)→Prop:=λo i v H Q=>∃ p xs k j,o=.ref p∧i=.int k∧H p=some (.lst xs)∧ixN xs.length k=some j∧Q (upd H p (.lst (xs.set j v)))
theorem zf9:PSet X zqB:=by
 intro pins s σ H o i v ov iv u Q I ro ri rv h
 obtain⟨p,xs,k,j,rfl,rfl,hp,hj,q⟩:=h
 cases ro
 obtain⟨t,rfl⟩:=ri
 obtain⟨its,n,r,ho,hz⟩:=I.lst hp
 obtain⟨h1,h2,h3,h4⟩:=zmd hj
 have hl:=r.length
 have hn:=ziH
 have I':Inv X pins σ (upd H p (.lst (xs.set j v))) {s with heap:=s.heap.update p (Obj.mapSeq (·.setIfInBounds j u))}:=
  I.lstUpd hp ho (zlk its n j u) (r.set rv j) (by rw[List.length_set];exact hz) s.toks
 by_cases h0:0≤k
 ·have hk:k.toNat=j:=by
   rw[seqIndex_of h0 h4] at h1
   exact Option.some.inj h1
  exact PySem.W.ki_setAt ho h0 (by omega) (by rw[zst,←hl];exact h4) (by rw[hk];exact⟨_,I',q⟩)
 ·have hk:(k+(its.toArray.size:Int)).toNat=j:=by
   rw[seqIndex_neg (by omega) h3] at h1
   rw[zst,←hl]
   exact Option.some.inj h1
  exact PySem.W.ki_setBack ho (by omega) (by rw[zst,←hl];exact h3) (by omega) (by rw[hk];exact⟨_,I',q⟩)
theorem ziM (lo hi:Option Int) (n:Nat):(sliceBounds lo hi none n).1=((HT.sIx n 0 lo:Nat):Int)∧(sliceBounds lo hi none n).2.1=((HT.sIx n n hi:Nat):Int)∧(sliceBounds lo hi none n).2.2=1:=by
 refine⟨?_,?_,rfl⟩
 ·cases lo with
  | none=>simp[sliceBounds,HT.sIx]
  | some i=>
   simp only[sliceBounds,HT.sIx,Option.getD_none,show (1:Int)>0 by decide,if_true]
   by_cases h:i<0
   ·simp only[h,if_true] <;> omega
   ·simp only[h,if_false] <;> omega
 ·cases hi with
  | none=>simp[sliceBounds,HT.sIx]
  | some i=>
   simp only[sliceBounds,HT.sIx,Option.getD_none,show (1:Int)>0 by decide,if_true]
   by_cases h:i<0
   ·simp only[h,if_true] <;> omega
   ·simp only[h,if_false] <;> omega
theorem zhX (its:List Value) (lo hi:Option Int):slicePick its.toArray lo hi none=((its.drop (HT.sIx its.length 0 lo)).take (HT.sIx its.length its.length hi - HT.sIx its.length 0 lo)).toArray:=by
 obtain⟨h1,h2,h3⟩:=ziM lo hi its.toArray.size
 unfold slicePick
 rw[h1,h2,h3]
 simp only[sliceRange_one,pick_run,zst] <;> rfl
def rSlL (K:Fg):V→Option Int→Option Int→Hp→VK→Prop:=λx lo hi H Q=>∃ a xs,x=.ref a∧SqL K H a xs∧∀ p,H p=none→Q (.ref p) (upd H p (.lst (cutV xs lo hi)))
theorem zpo:SlR X (rSlL X.K):=by
 intro pins s σ H x v vl vu lo hi sl Q I rx hs pl pu h
 obtain⟨a,xs,rfl,hx,q⟩:=h
 cases rx
 obtain⟨its,r,ht,hz⟩:=I.list hx
 have hlen:=r.length
 refine⟨"list",_,slot_list_getitem.lookup,ht.isList.typeIs,?_⟩
 refine wpAny_getItem_list_slice ht.isList hs pl pu .none (by simp) ?_ (by rw[zst] <;> omega)
 rw[zhX,←hlen]
 refine⟨.ref s.heap.objs.size,_,I.laid (t':=s.toks) (o:=.lst (cutV xs lo hi)) (λb ob q=>Heap.get?_push_of_some _ q) (Nat.le_refl _) ?_,rfl,q _ (I.hok.fresh (Nat.le_refl _))⟩
 exact⟨Nat.le_trans (zgp xs lo hi) hz,_,0,(r.drop (HT.sIx xs.length 0 lo)).take (HT.sIx xs.length xs.length hi - HT.sIx xs.length 0 lo),Heap.get?_push_size _ rfl⟩
def zeG:V→Bool
 | .non=>true
 | .bl _=>true
 | .int _=>true
 | .str _=>true
 | _=>false
def eqV:V→V→Bool
 | .non,.non=>true
 | .bl a,.bl b=>a == b
 | .bl a,.int b=>(if a then 1 else 0) == b
 | .int a,.bl b=>a == (if b then 1 else 0)
 | .int a,.int b=>a == b
 | .str a,.str b=>a == b
 | _,_=>false
theorem zoJ {A:Around}{s:Shared}{y x:V}{u v:Value}(ry:RelV y u) (rx:RelV x v) (fy:zeG y=true) (fx:zeG x=true):SeqAt.EqAt A s u v (eqV y x):=by
 cases y with
 | non=>
  cases ry
  cases x with
  | non=>cases rx;exact SeqAt.EqAt.same _
  | bl b=>cases rx;exact SeqAt.EqAt.none_bool b
  | int b=>obtain⟨t,rfl⟩:=rx;exact SeqAt.EqAt.none_int b t
  | str b=>obtain⟨t,rfl⟩:=rx;exact SeqAt.EqAt.none_str b t
  | _=>exact absurd (show false=true from fx) Bool.false_ne_true
 | bl a=>
  cases ry
  cases x with
  | non=>cases rx;exact SeqAt.EqAt.bool_none a
  | bl b=>cases rx;exact SeqAt.EqAt.bool_bool a b
  | int b=>obtain⟨t,rfl⟩:=rx;exact SeqAt.EqAt.bool_int a b t
  | str b=>obtain⟨t,rfl⟩:=rx;exact SeqAt.EqAt.bool_str a b t
  | _=>exact absurd (show false=true from fx) Bool.false_ne_true
 | int a=>
  obtain⟨t',rfl⟩:=ry
  cases x with
  | non=>cases rx;exact SeqAt.EqAt.int_none a t'
  | bl b=>cases rx;exact SeqAt.EqAt.int_bool a t' b
  | int b=>obtain⟨t,rfl⟩:=rx;exact SeqAt.EqAt.int_int a t' b t
  | str b=>obtain⟨t,rfl⟩:=rx;exact SeqAt.EqAt.int_str a t' b t
  | _=>exact absurd (show false=true from fx) Bool.false_ne_true
 | str a=>
  obtain⟨t',rfl⟩:=ry
  cases x with
  | non=>cases rx;exact SeqAt.EqAt.str_none a t'
  | bl b=>cases rx;exact SeqAt.EqAt.str_bool a t' b
  | int b=>obtain⟨t,rfl⟩:=rx;exact SeqAt.EqAt.str_int a t' b t
  | str b=>obtain⟨t,rfl⟩:=rx;exact SeqAt.EqAt.str_str a t' b t
  | _=>exact absurd (show false=true from fx) Bool.false_ne_true
 | _=>exact absurd (show false=true from fy) Bool.false_ne_true
def eqU (x:V) (u:Value):Bool:=match u with
 | .none=>eqV .non x
 | .bool b=>eqV (.bl b) x
 | .int i _=>eqV (.int i) x
 | .str z _=>eqV (.str z) x
 | _=>false
theorem zoK {x y:V}{u:Value}(r:RelV y u) (f:zeG y=true):eqU x u=eqV y x:=by
 cases y with
 | non=>cases r;rfl
 | bl b=>cases r;rfl
 | int i=>obtain⟨t,rfl⟩:=r;rfl
 | str z=>obtain⟨t,rfl⟩:=r;rfl
 | _=>exact absurd (show false=true from f) Bool.false_ne_true
theorem zjX {x:V} : ∀ {xs:List V}{us:List Value},Vals xs us→xs.all zeG=true→us.any (eqU x)=xs.any λy=>eqV y x
 | _,_,.nil,_=>rfl
 | y::xs,u::us,.cons r t,f=>by
  rw[List.all_cons,Bool.and_eq_true] at f
  rw[List.any_cons,List.any_cons,zoK r f.1,zjX t f.2]
theorem zhY {A:Around}{s:Shared}{x:V}{v:Value}(rx:RelV x v) (fx:zeG x=true):∀ {xs:List V}{us:List Value},Vals xs us→xs.all zeG=true→∀ u∈us,SeqAt.EqAt A s u v (eqU x u)
 | _,_,.nil,_=>λu hu=>by cases hu
 | y::xs,u::us,.cons r t,f=>λu' hu=>by
  rw[List.all_cons,Bool.and_eq_true] at f
  rcases List.mem_cons.mp hu with rfl | hu
  ·rw[zoK r f.1];exact zoJ r rx f.1 fx
  ·exact zhY rx fx t f.2 u' hu
def inV (x:V) (xs:List V):Bool:=xs.any λy=>eqV y x
def rIn (K:Fg) (neg:Bool):R2:=λx y H Q=>∃ p xs,y=.ref p∧(SqL K H p xs∨SqT K H p xs)∧zeG x=true∧xs.all zeG=true∧Q (.bl (if neg then !inV x xs else inV x xs)) H
theorem zmf:OpR X (compareOp .In) (rIn X.K false):=by
 intro pins s σ H x y v u Q I rx ry h
 obtain⟨p,xs,rfl,hq,fx,fs,q⟩:=h
 cases ry
 rcases hq with hq | hq
 ·obtain⟨its,r,pl,hz⟩:=I.list hq
  refine SeqAt.in_listAt (eqU x) pl.isList (λw hw=>zhY rx fx r fs w (by simpa using hw)) ⟨.bl _,H,I,rfl,?_⟩
  rw[show its.toArray.any (eqU x)=its.any (eqU x) by simp,zjX r fs]
  exact q
 ·obtain⟨its,r,pl,hz⟩:=I.tuple hq
  refine SeqAt.in_tupleAt (eqU x) pl (λw hw=>zhY rx fx r fs w (by simpa using hw)) ⟨.bl _,H,I,rfl,?_⟩
  rw[show its.toArray.any (eqU x)=its.any (eqU x) by simp,zjX r fs]
  exact q
theorem ziN:zcB X (.builtin "len") (λxs H Q=>∃ p ys,xs=[.ref p]∧(SqL X.K H p ys∨SqT X.K H p ys)∧Q (.int ys.length) H):=by
 intro pins s σ H xs us Q I r h
 obtain⟨p,ys,rfl,hq,q⟩:=h
 obtain⟨u,rfl,rx⟩:=zhT r
 cases rx
 have hn:=ziH
 rcases hq with hq | hq
 ·obtain⟨its,r',pl,hz⟩:=I.list hq
  have hlen:=r'.length
  exact Calls.call_len_list pl.isList (by simp only[zst] <;> omega) ⟨.int ys.length,H,I.tok _,⟨s.toks+1,by rw[zst,hlen]⟩,q⟩
 ·obtain⟨its,r',pl,hz⟩:=I.tuple hq
  have hlen:=r'.length
  exact len_tuple pl (by simp only[zst] <;> omega) ⟨.int ys.length,H,I.tok _,⟨s.toks+1,by rw[zst,hlen]⟩,q⟩
theorem ziO:zcB X (.type "list") (λxs H Q=>∃ p ys,xs=[.ref p]∧(SqL X.K H p ys∨SqT X.K H p ys)∧∀ l,H l=none→Q (.ref l) (upd H l (.lst ys))):=by
 intro pins s σ H xs us Q I r h
 obtain⟨p,ys,rfl,hq,q⟩:=h
 obtain⟨u,rfl,rx⟩:=zhT r
 cases rx
 have fin:∀ (its:List Value),Vals ys its→ys.length≤sizeLine→∀ (h':Heap) (c':Nat),(∀ b o',s.heap.get? b=some o'→h'.get? b=some o')→
   h'.get? s.heap.objs.size=some {cls:=.type "list",dict:=none,data:=.seq its.toArray c',slots:=#[]}→EP X pins σ Q (.ref s.heap.objs.size) {s with heap:=h'}:=λits r' hz h' c' kp e=>
  ⟨.ref s.heap.objs.size,_,I.laid (t':=s.toks) kp (Nat.le_refl _) (show zb5 X.prog X.w _ h' _ (.lst ys) from ⟨hz,its,c',r',e⟩),rfl,q _ (I.hok.fresh (Nat.le_refl _))⟩
 rcases hq with hq | hq
 ·obtain⟨its,r',pl,hz⟩:=I.list hq
  have hlen:=r'.length
  obtain⟨o,ho,hc,n,hd⟩:=pl.isList
  exact call_list_seq p (.inl rfl) ho hc hd (λh' c' kp e=>fin its r' hz h' c' kp e) (by simp only[zst] <;> omega)
 ·obtain⟨its,r',pl,hz⟩:=I.tuple hq
  have hlen:=r'.length
  obtain⟨o,ho,hc,n,hd⟩:=pl
  exact call_list_seq p (.inr rfl) ho hc hd (λh' c' kp e=>fin its r' hz h' c' kp e) (by simp only[zst] <;> omega)
theorem zhZ:zcB X (.type "tuple") (λxs H Q=>∃ p ys,xs=[.ref p]∧((SqL X.K H p ys∧∀ l,H l=none→Q (.ref l) (upd H l (.tup ys)))∨(SqT X.K H p ys∧Q (.ref p) H))):=by
 intro pins s σ H xs us Q I r h
 obtain⟨p,ys,rfl,h⟩:=h
 obtain⟨u,rfl,rx⟩:=zhT r
 cases rx
 rcases h with ⟨hq,q⟩ | ⟨hq,q⟩
 ·obtain⟨its,r',pl,hz⟩:=I.list hq
  have hlen:=r'.length
  refine call_tuple_list pl.isList (λh' kp=>?_) (by simp only[zst] <;> omega)
  have I1:Inv X pins σ H {s with heap:=h'}:=I.kept (t':=s.toks) kp
  have I2:Inv X pins σ (upd H h'.objs.size (.tup ys)) {s with heap:=h'.push {cls:=.type "tuple",data:=.seq its.toArray}}:=
   I1.laid (t':=s.toks) (λb o e=>Heap.get?_push_of_some _ e) (Nat.le_refl _) (show zb5 X.prog X.w _ _ _ (.tup ys) from ⟨hz,its,r',IsTup.new _ _⟩)
  exact⟨.ref h'.objs.size,_,I2,rfl,q _ (I1.hok.fresh (Nat.le_refl _))⟩
 ·obtain⟨its,r',pl,hz⟩:=I.tuple hq
  exact call_tuple_same pl ⟨.ref p,H,I,rfl,q⟩
def tyV (K:Fg) (T:String) (x:V) (H:Hp):Prop:=match x with
 | .str _=>T ="str"
 | .int _=>T ="int"
 | .ref p=>(T ="list" ∧∃ xs,SqL K H p xs)∨(T ="tuple" ∧∃ o,K.lookup p=some o∧o.cls=.type "tuple" ∧o.dict=none)∨
   (T ="dict" ∧((∃ kvs,H p=some (.dK kvs))∨∃ kvs,H p=some (.dT kvs)))∨(T ="set" ∧∃ S n,H p=some (.set S n))
 | _=>False
theorem zoL {pins:List (Addr × Obj)}{σ:St}{H:Hp}{s:Shared}{T:String}{x:V}{v:Value}(I:Inv X pins σ H s) (r:RelV x v) (ty:tyV X.K T x H) :
  s.TypeIs v T∧∀ a,v=.ref a→∃ ob,s.heap.get? a=some ob∧ob.dict=none:=by
 cases x with
 | str z=>
  obtain⟨t,rfl⟩:=r
  cases (show T ="str" from ty)
  exact⟨typeIs_str s z t,λ_ e=>nomatch e⟩
 | int i=>
  obtain⟨t,rfl⟩:=r
  cases (show T ="int" from ty)
  exact⟨typeIs_int s i t,λ_ e=>nomatch e⟩
 | ref p=>
  cases r
  rcases ty with ⟨rfl,xs,hq⟩ | ⟨rfl,o,hk,hc,hd⟩ | ⟨rfl,hk⟩ | ⟨rfl,S,n,hk⟩
  ·obtain⟨its,_,pl,_⟩:=I.list hq
   refine⟨pl.isList.typeIs,λa e=>?_⟩
   cases e
   obtain⟨o,n,e,c,hd,_⟩:=pl
   exact⟨o,e,hd⟩
  ·refine⟨⟨o,I.kIn p o hk,hc⟩,λa e=>?_⟩
   cases e
   exact⟨o,I.kIn _ o hk,hd⟩
  ·have z:∃ o,s.heap.get? p=some o∧o.ExactDict:=by
    rcases hk with ⟨kvs,hk⟩ | ⟨kvs,hk⟩
    ·obtain⟨_,_,_,_,o,_,_,e,ex,_⟩:=I.hok p _ hk
     exact⟨o,e,ex⟩
    ·obtain⟨_,_,_,_,o,_,_,e,ex,_⟩:=I.hok p _ hk
     exact⟨o,e,ex⟩
   obtain⟨o,e,ex⟩:=z
   refine⟨⟨o,e,ex.1⟩,λa e2=>?_⟩
   cases e2
   exact⟨o,e,ex.2.1⟩
  ·obtain⟨o,_,_,_,e,ex,_⟩:=I.hok p _ hk
   refine⟨⟨o,e,ex.1⟩,λa e2=>?_⟩
   cases e2
   exact⟨o,e,ex.2.1⟩
 | _=>exact False.elim ty
def tBM0 (K:Fg) (T:String) (r:V→List V→Hp→VK→Prop) (to:TE):TE:=λσ H Q=>to σ H λx H1=>tyV K T x H1∧r x [] H1 Q
def tBM (K:Fg) (T:String) (r:V→List V→Hp→VK→Prop) (to:TE) (t:TA):TE:=λσ H Q=>to σ H λx H1=>tyV K T x H1∧t σ H1 λxs H2=>r x xs H2 Q
variable {o e:Expr}{es:List Expr}{to:TE}{t:TA}{name:Str}{apos cpos:Pos}{T id:String}{r:V→List V→Hp→VK→Prop}
theorem zqC (pa:PlainAttrs T) (slot:Slot T name id) (hty:typeOf (.builtin id)=pure (.type "method_descriptor")) (hm:MtR X id r) (ho:PE X o to)
  (hbase:attributeBase o name X.env (eval o X.env)=eval o X.env:=by rfl) (hline:(apos.endLine == cpos.line)=true:=by rfl):PE X (.Call (.Attribute o name apos) [] [] cpos) (tBM0 X.K T r to):=by
 intro pins s σ H Q I h
 refine wpAny_Call_method0_late hbase hline (thn (ho pins s σ H _ I h) λv s1 ⟨x,H1,I1,r1,ty,q1⟩=>?_)
 obtain⟨h1,h2⟩:=zoL I1 r1 ty
 exact⟨T,id,pa,slot,hty,h1,h2,Calls.callWith_builtin rfl (PySem.evalArgs_none (hm pins s1 σ H1 x [] v [] Q I1 r1 .nil q1))⟩
theorem znL (pa:PlainAttrs T) (slot:Slot T name id) (hty:typeOf (.builtin id)=pure (.type "method_descriptor")) (hm:MtR X id r) (ho:PE X o to) (ha:PA X (e::es) t)
  (hbase:attributeBase o name X.env (eval o X.env)=eval o X.env:=by rfl)
  (hfew:((backTo cpos (starEach (e::es) X.env)).all (λx=>!x.1) && (backToKw cpos (keywordEach [] X.env)).all (λx=>x.1.isSome)
   && decide ((e::es).length+([]:List Keyword).length+(if ([]:List Keyword).isEmpty then 0 else 1)<30))=true:=by rfl)
  (hline:(apos.endLine == cpos.line)=true:=by rfl) (hs:starEach (e::es) X.env=(false,eval e X.env)::starEach es X.env:=by rfl) (hplain:(backTo cpos (starEach es X.env)).any (·.1)=false:=by rfl) :
  PE X (.Call (.Attribute o name apos) (e::es) [] cpos) (tBM X.K T r to t):=by
 intro pins s σ H Q I h
 refine wpAny_Call_method_late hbase hfew hline rfl (thn (ho pins s σ H _ I h) λv s1 ⟨x,H1,I1,r1,ty,q1⟩=>?_)
 obtain⟨h1,h2⟩:=zoL I1 r1 ty
 refine⟨T,id,pa,slot,hty,h1,h2,?_⟩
 have hA:=ha cpos pins s1 σ H1 _ I1 q1
 rw[hs] at hA ⊢
 refine Calls.callWith_builtin (by show (false || (backTo cpos (starEach es X.env)).any (·.1))=false;rw[hplain] <;> rfl) (Calls.evalArgs_plain ?_)
 exact thn hA λus s2 ⟨vs,H2,I2,r2,q2⟩=>hm pins s2 σ H2 x vs v us Q I2 r1 r2 q2
/- xs.append(e),list.index on a module's tuple .. are MtR facts of 06m -/
end
end L2

namespace L2
open PySem PySem.Spec PyProof.Rows

def MtM (X:Cx) (id:String) (r:V→List V→Hp→VK→Prop):Prop:=
 ∀ (pins:List (Addr × Obj)) (s:Shared) (σ:St) (H:Hp) (x:V) (xs:List V) (v:Value) (us:List Value) (Q:VK),Inv X pins σ H s→RelV x v→Vals xs us→r x xs H Q→
  wpAny (model X.prog X.w) X.A (call (.builtin id) (v::us)) (EP X pins σ Q) X.xe s
theorem Vals.one:∀ {x:V}{us:List Value},Vals [x] us→∃ u,us=[u]∧RelV x u
 | _,_,.cons r .nil=>⟨_,rfl,r⟩
theorem Vals.two:∀ {x y:V}{us:List Value},Vals [x,y] us→∃ u v,us=[u,v]∧RelV x u∧RelV y v
 | _,_,_,.cons r (.cons q .nil)=>⟨_,_,rfl,r,q⟩
theorem Vals.zero:∀ {us:List Value},Vals [] us→us=[]
 | _,.nil=>rfl
theorem Vals.dropLast {xs:List V}{us:List Value}(h:Vals xs us):Vals xs.dropLast us.dropLast:=by
 induction h with
 | nil=>exact .nil
 | cons r t ih=>
  cases t with
  | nil=>exact .nil
  | cons q t'=>exact .cons r ih
theorem Vals.eraseIdx:∀ {xs:List V}{us:List Value}(i:Nat),Vals xs us→Vals (xs.eraseIdx i) (us.eraseIdx i)
 | _,_,_,.nil=>.nil
 | _,_,0,.cons _ t=>t
 | _,_,i+1,.cons r t=>.cons r (Vals.eraseIdx i t)
theorem Vals.rep {xs:List V}{us:List Value}(h:Vals xs us):∀ k:Nat,Vals (List.replicate k xs).flatten (List.replicate k us).flatten
 | 0=>.nil
 | k+1=>by
  rw[List.replicate_succ,List.replicate_succ,List.flatten_cons,List.flatten_cons]
  exact Vals.append h (Vals.rep h k)
theorem zll {α:Type}(l:List α):l.eraseIdx (l.length - 1)=l.dropLast:=by
 induction l with
 | nil=>rfl
 | cons a r ih=>
  cases r with
  | nil=>rfl
  | cons b r=>
   have e:(a::b::r).length - 1=((b::r).length - 1)+1:=by
    have h1:(a::b::r).length=r.length+2:=rfl
    have h2:(b::r).length=r.length+1:=rfl
    omega
   rw[e,List.eraseIdx_cons_succ,ih]
   all_goals rfl
theorem ziP {α:Type} : ∀ (l:List α) (i:Nat),(l.eraseIdx i).length≤l.length
 | [],_=>Nat.le_refl _
 | _::_,0=>Nat.le_succ _
 | _::r,i+1=>Nat.succ_le_succ (ziP r i)
theorem ziQ (its:List Value):∀ (k:Nat) (acc:List Value),
  List.foldl (λx1 x2=>x1++x2) acc.toArray (List.replicate k its.toArray)=(acc++(List.replicate k its).flatten).toArray
 | 0,acc=>by simp
 | k+1,acc=>by
  have e:acc.toArray++its.toArray=(acc++its).toArray:=by simp
  have e2:(acc++its)++(List.replicate k its).flatten=acc++(List.replicate (k+1) its).flatten:=by
   rw[List.replicate_succ,List.flatten_cons,List.append_assoc]
  rw[←e2,←ziQ its k (acc++its),←e,List.replicate_succ,List.foldl_cons]
section
variable {X:Cx}{pins:List (Addr × Obj)}{σ:St}{H:Hp}{s:Shared}{l b:Addr}{xs ys zs:List V}

theorem Inv.lset {its its':List Value}{n:Nat}{f:Array Value→Array Value}{t':Nat}(I:Inv X pins σ H s) (hH:H l=some (.lst xs))
  (e:s.heap.get? l=some {cls:=.type "list",data:=.seq its.toArray n}) (hf:f its.toArray=its'.toArray) (hv:Vals ys its') (hz:ys.length≤sizeLine) :
  Inv X pins σ (upd H l (.lst ys)) {s with heap:=s.heap.update l (Obj.mapSeq f),toks:=t'}:=by
 have q:=PySem.IsL.update e f
 rw[hf] at q
 refine I.write (x:=l) (e:=l) (by rw[hH];exact trivial) (.inl rfl) (λb' u hb hu=>(Heap.get?_update_other s.heap (Obj.mapSeq f) (Ne.symm hb)).trans hu) ⟨_,q⟩ ?_
 exact⟨hz,its',_,hv,q⟩
theorem Inv.lnew {its:List Value}{t':Nat}(I:Inv X pins σ H s) (hv:Vals ys its) (hz:ys.length≤sizeLine) :
  Inv X pins σ (upd H s.heap.objs.size (.lst ys)) {s with heap:=s.heap.push {cls:=.type "list",data:=.seq its.toArray},toks:=t'}:=
 I.laid (λ_ _ q=>Heap.get?_push_of_some _ q) (Nat.le_refl _) ⟨hz,its,0,hv,Heap.get?_push_size _ rfl⟩
theorem Inv.fresh (I:Inv X pins σ H s):H s.heap.objs.size=none:=I.hok.fresh (Nat.le_refl _)
theorem Inv.lstM (I:Inv X pins σ H s) (hH:H l=some (.lst xs)):xs.length≤sizeLine∧∃ (its:List Value) (n:Nat),Vals xs its∧xs.length=its.length∧s.heap.get? l=some {cls:=.type "list",data:=.seq its.toArray n}:=by
 obtain⟨z,its,n,r,e⟩:=I.hok l _ hH
 exact⟨z,its,n,r,r.length,e⟩
theorem zkG {n:Nat}(h:n≤sizeLine):Builtin.List.listTooLong n=false:=by
 unfold Builtin.List.listTooLong
 exact decide_eq_false (by omega)
end

section
variable {X:Cx}

def zmh:V→List V→Hp→VK→Prop:=λx vs H Q=>∃ l xs y,x=.ref l∧vs=[y]∧H l=some (.lst xs)∧xs.length<sizeLine∧Q .non (upd H l (.lst (xs++[y])))
theorem zgq:MtM X "list.append" zmh:=by
 intro pins s σ H x vs v us Q I rx rv h
 obtain⟨l,xs,y,rfl,rfl,hH,hz,q⟩:=h
 cases rx
 obtain⟨u,rfl,ru⟩:=rv.one
 obtain⟨z,its,n,r,hl,e⟩:=I.lstM hH
 refine call_meets F.slot_list_append ⟨_,e,rfl⟩ F.entry_list_append (F.args_list_append_2 _ _) (PySem.list_append l its.toArray n u (by rw[zst];omega)) ⟨e,?_⟩
 refine⟨.non,_,I.lset (its':=its++[u]) hH e (by simp) (r.append (.cons ru .nil)) ?_,rfl,q⟩
 rw[List.length_append,List.length_singleton]
 omega
def zpp:V→List V→Hp→VK→Prop:=λx vs H Q=>∃ l b xs zs,x=.ref l∧vs=[.ref b]∧H l=some (.lst xs)∧H b=some (.lst zs)∧xs.length+zs.length≤sizeLine∧Q .non (upd H l (.lst (xs++zs)))
theorem zmi:MtM X "list.extend" zpp:=by
 intro pins s σ H x vs v us Q I rx rv h
 obtain⟨l,b,xs,zs,rfl,rfl,hH,hB,hz,q⟩:=h
 cases rx
 obtain⟨u,rfl,ru⟩:=rv.one
 cases ru
 obtain⟨z,its,n,r,hl,e⟩:=I.lstM hH
 obtain⟨z2,its2,n2,r2,hl2,e2⟩:=I.lstM hB
 have hsz:its.toArray.size+its2.toArray.size≤sizeLine:=by rw[zst,zst];omega
 have hlong:¬ (!its.toArray.isEmpty && Builtin.List.listTooLong (its.toArray.size+its2.toArray.size))=true:=by
  rw[zkG hsz,Bool.and_false]
  exact Bool.false_ne_true
 refine call_meets F.slot_list_extend ⟨_,e,rfl⟩ F.entry_list_extend (F.args_list_extend_2 _ _)
  (AutoSeq1.list_extend_list_list_0 l its.toArray n b its2.toArray n2 hlong (by rw[zst];omega) (by omega)) ⟨e,e2,?_⟩
 refine⟨.non,_,I.lset (its':=its++its2) hH e (by simp) (r.append r2) ?_,rfl,q⟩
 rw[List.length_append]
 omega
def rPop:V→List V→Hp→VK→Prop:=λx vs H Q=>∃ l xs y,x=.ref l∧vs=[]∧H l=some (.lst xs)∧xs[xs.length - 1]?=some y∧Q y (upd H l (.lst xs.dropLast))
theorem zqD:MtM X "list.pop" rPop:=by
 intro pins s σ H x vs v us Q I rx rv h
 obtain⟨l,xs,y,rfl,rfl,hH,hy,q⟩:=h
 cases rx
 have hus:=rv.zero
 subst hus
 obtain⟨z,its,n,r,hl,e⟩:=I.lstM hH
 obtain⟨u,hu,ru⟩:=r.get hy
 have hy':its.toArray[its.toArray.size - 1]?=some u:=by
  show its.toArray[its.length - 1]?=some u
  rw[←Array.getElem?_toList,←hl]
  exact hu
 refine call_meets F.slot_list_pop ⟨_,e,rfl⟩ F.entry_list_pop (F.args_list_pop_1 _) (MeetsSeq.list_pop_last l its.toArray n u hy' (by rw[zst];omega)) ⟨e,?_⟩
 refine⟨y,_,I.lset (its':=its.dropLast) hH e ?_ r.dropLast ?_,ru,q⟩
 ·show its.toArray.eraseIdxIfInBounds (its.toArray.size - 1)=its.dropLast.toArray
  rw[zst,List.eraseIdxIfInBounds_toArray,zll]
 ·rw[List.length_dropLast]
  omega
def zqE:V→List V→Hp→VK→Prop:=λx vs H Q=>∃ l xs i k y,x=.ref l∧vs=[.int i]∧H l=some (.lst xs)∧-(2 ^ 63)≤i∧i<2 ^ 63∧seqIndex? i xs.length=some k∧xs[k]?=some y∧Q y (upd H l (.lst (xs.eraseIdx k)))
theorem znM:MtM X "list.pop" zqE:=by
 intro pins s σ H x vs v us Q I rx rv h
 obtain⟨l,xs,i,k,y,rfl,rfl,hH,h1,h2,hk,hy,q⟩:=h
 cases rx
 obtain⟨u,rfl,ru⟩:=rv.one
 obtain⟨t,rfl⟩:=ru
 obtain⟨z,its,n,r,hl,e⟩:=I.lstM hH
 obtain⟨w,hw,rw'⟩:=r.get hy
 refine call_meets F.slot_list_pop ⟨_,e,rfl⟩ F.entry_list_pop (F.args_list_pop_2 _ _)
  (MeetsSeq.list_pop_at l its.toArray n i t k w (fitsIndex_both h1 h2) (by rw[zst,←hl];exact hk) (by rw[←Array.getElem?_toList];exact hw) (by rw[zst];omega)) ⟨e,?_⟩
 refine⟨y,_,I.lset (its':=its.eraseIdx k) hH e ?_ (r.eraseIdx k) ?_,rw',q⟩
 ·show its.toArray.eraseIdxIfInBounds k=(its.eraseIdx k).toArray
  rw[List.eraseIdxIfInBounds_toArray]
 ·have:=ziP xs k
  omega
def rCat:R2:=λx y H Q=>∃ l b xs zs,x=.ref l∧y=.ref b∧H l=some (.lst xs)∧H b=some (.lst zs)∧xs.length+zs.length≤sizeLine∧∀ p,H p=none→Q (.ref p) (upd H p (.lst (xs++zs)))
theorem zqF:OpR X (binaryOp .Add) rCat:=by
 intro pins s σ H x y v u Q I rx ry h
 obtain⟨l,b,xs,zs,rfl,rfl,hH,hB,hz,q⟩:=h
 cases rx
 cases ry
 obtain⟨z,its,n,r,hl,e⟩:=I.lstM hH
 obtain⟨z2,its2,n2,r2,hl2,e2⟩:=I.lstM hB
 refine PySem.P.add_list e e2 ?_ (by rw[zst,zst];omega)
 have ea:its.toArray++its2.toArray=(its++its2).toArray:=by simp
 rw[ea]
 exact⟨.ref _,_,I.lnew (t':=s.toks) (r.append r2) (by rw[List.length_append];omega),rfl,q _ I.fresh⟩
def rRep:R2:=λx y H Q=>∃ l k xs,x=.ref l∧y=.int k∧H l=some (.lst xs)∧-(2 ^ 63)≤k∧k<2 ^ 63∧xs.length * k.toNat≤sizeLine∧
 ∀ p,H p=none→Q (.ref p) (upd H p (.lst (List.replicate k.toNat xs).flatten))
theorem zpq {α:Type}(xs:List α) (k:Nat):(List.replicate k xs).flatten.length=k * xs.length:=by
 induction k with
 | zero=>simp
 | succ k ih=>rw[List.replicate_succ,List.flatten_cons,List.length_append,ih,Nat.succ_mul,Nat.add_comm]
theorem zqG:OpR X (binaryOp .Mult) rRep:=by
 intro pins s σ H x y v u Q I rx ry h
 obtain⟨l,k,xs,rfl,rfl,hH,h1,h2,hz,q⟩:=h
 cases rx
 obtain⟨t,rfl⟩:=ry
 obtain⟨z,its,n,r,hl,e⟩:=I.lstM hH
 have hlen:its.toArray.size * k.toNat≤sizeLine:=by rw[zst,←hl];exact hz
 have hcap:¬ its.toArray.size * k.toNat>(2 ^ 63 - 1) / 8:=by
  have:(sizeLine:Nat)≤(2 ^ 63 - 1) / 8:=by decide
  omega
 have hfit:¬ (!Builtin.List.listFitsIndex k)=true:=by
  rw[fitsIndex_both h1 h2]
  exact Bool.false_ne_true
 have hlong:¬ Builtin.List.listTooLong (its.toArray.size * k.toNat)=true:=by
  rw[zkG hlen]
  exact Bool.false_ne_true
 have hnew:List.foldl (λx1 x2=>x1++x2) #[] (List.replicate (if its.toArray.isEmpty=true then 0 else k.toNat) its.toArray)=(List.replicate k.toNat its).flatten.toArray:=by
  have f0:∀ m:Nat,List.foldl (λx1 x2=>x1++x2) #[] (List.replicate m its.toArray)=(List.replicate m its).flatten.toArray:=λm=>by
   have:=ziQ its m []
   rw[List.nil_append] at this
   exact this
  rw[f0]
  cases its with
  | nil=>simp
  | cons a r'=>rw[if_neg (by simp)]
 refine wpAny_binaryOp_repeat_ref (T:="list") (U:="int") (by decide) ⟨_,e,rfl⟩ (λs'=>typeIs_int s' k t) noFill_list_mul F.fills_int_mul F.slot_int_rmul repeat_list F.slot_int_index.lookup
  (call_meets F.slot_int_rmul (typeIs_int s k t) F.entry_int_rmul (F.args_int_rmul_2 _ _) (int___rmul___int_list k t l its.toArray n)
   ⟨e,rfl,⟨_,e,rfl⟩,call_meets F.slot_list_mul ⟨_,e,rfl⟩ F.entry_list_mul (F.args_list_mul_2 _ _) (AutoListH.list___mul___list_int_3 l its.toArray n k t hfit hcap hlong) ⟨e,?_⟩⟩)
 rw[hnew]
 exact⟨.ref _,_,I.lnew (t':=s.toks) (r.rep k.toNat) (by rw[zpq,Nat.mul_comm];exact hz),rfl,q _ I.fresh⟩
end

section
variable {prog:Program}{w:World}{A:Around}{E:Value→Shared→Prop}{s:Shared}
set_option maxRecDepth 100000 in
end

section
variable {X:Cx}
end
end L2
namespace L2
open PySem PySem.Spec PyProof.Rows

section
variable {κ:Type} [DecidableEq κ]
def valV (kvs:List (κ × V)) (k:κ):Option V:=(kvs.find? λkv=>decide (kv.1=k)).map (·.2)
def putK (kvs:List (κ × V)) (k:κ) (v:V):List (κ × V):=
 if (kvs.any λkv=>decide (kv.1=k))=true then kvs.map (λkv=>if kv.1=k then (kv.1,v) else kv) else kvs++[(k,v)]
def zdm (kvs:List (κ × V)) (k:κ):List (κ × V):=kvs.filter λkv=>decide (kv.1≠k)
theorem zbY {p:κ × V}{r:List (κ × V)}{k:κ}(e:p.1=k):valV (p::r) k=some p.2:=by simp[valV,List.find?_cons,e]
theorem zbS {p:κ × V}{r:List (κ × V)}{k:κ}(e:¬ p.1=k):valV (p::r) k=valV r k:=by simp[valV,List.find?_cons,e]
theorem zdt (k:κ):∀ kvs:List (κ × V),(kvs.any λkv=>decide (kv.1=k))=(valV kvs k).isSome
 | []=>rfl
 | p::r=>by
  rw[List.any_cons]
  by_cases e:p.1=k
  ·simp only[zbY e,decide_eq_true e,Bool.true_or,Option.isSome_some]
  ·rw[zbS e,decide_eq_false e,Bool.false_or];exact zdt k r
theorem zkH (k j:κ) (y:V):∀ kvs:List (κ × V),valV (kvs.map λkv=>if kv.1=k then (kv.1,y) else kv) j=(valV kvs j).map λx=>if j=k then y else x
 | []=>rfl
 | p::r=>by
  have ih:=zkH k j y r
  rw[zmc]
  by_cases h:p.1=k
  ·rw[if_pos h]
   by_cases e:p.1=j
   ·rw[zbY (p:=(p.1,y)) e,zbY e,Option.map_some,if_pos (e.symm.trans h)]
   ·rw[zbS (p:=(p.1,y)) e,zbS e,ih]
  ·rw[if_neg h]
   by_cases e:p.1=j
   ·rw[zbY (p:=p) e,zbY e,Option.map_some,if_neg (λz=>h (e.trans z))]
   ·rw[zbS (p:=p) e,zbS e,ih]
theorem ziR (k j:κ) (y:V):∀ kvs:List (κ × V),valV kvs k=none→valV (kvs++[(k,y)]) j=if j=k then some y else valV kvs j
 | [],_=>by
  by_cases e:k=j
  ·rw[if_pos e.symm];exact zbY (p:=(k,y)) e
  ·rw[if_neg (λz=>e z.symm)];exact zbS (p:=(k,y)) e
 | p::r,hn=>by
  rw[List.cons_append]
  have hk:¬ p.1=k:=λz=>by rw[zbY z] at hn;cases hn
  rw[zbS hk] at hn
  have ih:=ziR k j y r hn
  by_cases e:p.1=j
  ·rw[zbY e,zbY e,if_neg (λz=>hk (e.trans z))]
  ·rw[zbS e,zbS e,ih]
theorem zdu (kvs:List (κ × V)) (k j:κ) (y:V):valV (putK kvs k y) j=if j=k then some y else valV kvs j:=by
 unfold putK
 by_cases a:(kvs.any λkv=>decide (kv.1=k))=true
 ·rw[if_pos a,zkH]
  rw[zdt] at a
  by_cases e:j=k
  ·obtain⟨x,hx⟩:=Option.isSome_iff_exists.mp a
   rw[if_pos e,e,hx,Option.map_some,if_pos rfl]
  ·rw[if_neg e]
   cases valV kvs j with
   | none=>rfl
   | some x=>rw[Option.map_some,if_neg e]
 ·rw[if_neg a]
  refine ziR k j y kvs ?_
  rw[zdt] at a
  cases q:valV kvs k with
  | none=>rfl
  | some x=>rw[q] at a;exact (a rfl).elim
theorem zeS (kvs:List (κ × V)) (k:κ) (v:V):(putK kvs k v).length≤kvs.length+1:=by
 unfold putK
 split
 ·rw[zlm];omega
 ·rw[List.length_append,List.length_cons,List.length_nil];omega
theorem znN {kvs:List (κ × V)}{k:κ}(v:V) (h:valV kvs k=none):putK kvs k v=kvs++[(k,v)]:=by
 unfold putK
 rw[zdt,h]
 exact if_neg (by decide)
theorem RelO.isSome_eq {o:Option V}{u:Option Value}(r:RelO o u):o.isSome=u.isSome:=by
 cases o with
 | none=>cases u with
  | none=>rfl
  | some _=>exact (show False from r).elim
 | some _=>cases u with
  | none=>exact (show False from r).elim
  | some _=>rfl
theorem RelO.getD {o:Option V}{u:Option Value}{d:V}{d':Value}(r:RelO o u) (rd:RelV d d'):RelV (o.getD d) (u.getD d'):=by
 cases o with
 | none=>cases u with
  | none=>exact rd
  | some _=>exact (show False from r).elim
 | some _=>cases u with
  | none=>exact (show False from r).elim
  | some _=>exact r
theorem KV.val {kvs:List (κ × V)}{vs:List (κ × Value)}(r:KV kvs vs) (k:κ):RelO (valV kvs k) (valueAt vs k):=by
 unfold KV at r
 induction r with
 | nil=>exact True.intro
 | @cons p q ps qs h t ih=>
  obtain⟨h1,h2⟩:=h
  by_cases e:p.1=k
  ·have e':q.1=k:=h1.symm.trans e
   have b:valueAt (q::qs) k=some q.2:=by simp[valueAt,List.find?_cons,e']
   rw[zbY e,b];exact h2
  ·have e':¬ q.1=k:=λz=>e (h1.trans z)
   have b:valueAt (q::qs) k=valueAt qs k:=by simp[valueAt,List.find?_cons,e']
   rw[zbS e,b];exact ih
theorem KV.any {kvs:List (κ × V)}{vs:List (κ × Value)}(r:KV kvs vs) (k:κ):(kvs.any λkv=>decide (kv.1=k))=vs.any λkv=>decide (kv.1=k):=by
 unfold KV at r
 induction r with
 | nil=>rfl
 | cons h t ih=>rw[List.any_cons,List.any_cons,ih,h.1]
theorem KV.repl {kvs:List (κ × V)}{vs:List (κ × Value)}(r:KV kvs vs) (k:κ) {y:V}{u:Value}(ry:RelV y u) :
  KV (kvs.map λkv=>if kv.1=k then (kv.1,y) else kv) (vs.map λkv=>if kv.1=k then (kv.1,u) else kv):=by
 unfold KV at r ⊢
 induction r with
 | nil=>exact .nil
 | @cons p q ps qs h t ih=>
  rw[zmc,zmc]
  refine .cons ?_ ih
  obtain⟨h1,h2⟩:=h
  by_cases e:p.1=k
  ·rw[if_pos e,if_pos (h1.symm.trans e)];exact⟨h1,ry⟩
  ·rw[if_neg e,if_neg (λz=>e (h1.trans z))];exact⟨h1,h2⟩
theorem KV.put {kvs:List (κ × V)}{vs:List (κ × Value)}(r:KV kvs vs) (k:κ) {y:V}{u:Value}(ry:RelV y u):KV (putK kvs k y) (stored vs k u):=by
 unfold putK stored
 rw[r.any k]
 by_cases e:(vs.any λkv=>decide (kv.1=k))=true
 ·rw[if_pos e,if_pos e];exact r.repl k ry
 ·rw[if_neg e,if_neg e];exact Paired.snoc r ⟨rfl,ry⟩
theorem KV.drop {kvs:List (κ × V)}{vs:List (κ × Value)}(r:KV kvs vs) (k:κ):KV (zdm kvs k) (without vs k):=by
 unfold KV at r ⊢
 unfold zdm without
 induction r with
 | nil=>exact .nil
 | @cons p q ps qs h t ih=>
  obtain⟨h1,h2⟩:=h
  rw[List.filter_cons,List.filter_cons]
  by_cases e:p.1=k
  ·have a:¬ decide (p.1≠k)=true:=by simp[e]
   have b:¬ decide (q.1≠k)=true:=by simp[h1.symm.trans e]
   rw[if_neg a,if_neg b];exact ih
  ·have e':¬ q.1=k:=λz=>e (h1.trans z)
   have a:decide (p.1≠k)=true:=by simp[e]
   have b:decide (q.1≠k)=true:=by simp[e']
   rw[if_pos a,if_pos b];exact .cons ⟨h1,h2⟩ ih
theorem KV.keys {kvs:List (κ × V)}{vs:List (κ × Value)}(r:KV kvs vs):kvs.map (·.1)=vs.map (·.1):=by
 unfold KV at r
 induction r with
 | nil=>rfl
 | cons h t ih=>rw[zmc,zmc,ih,h.1]
theorem KV.length {kvs:List (κ × V)}{vs:List (κ × Value)}(r:KV kvs vs):kvs.length=vs.length:=Paired.length r
theorem zkI (kvs:List (κ × V)) (k:κ):(zdm kvs k).length≤kvs.length:=List.length_filter_le _ _
end


theorem zhh {P:Program}{w:World}{k:Key}{u:Value}(r:RelV (kV k) u):(zbu P w).is k u=true:=by
 cases k with
 | inl i=>obtain⟨t,e⟩:=(show ∃ t,u=Value.int i t from r);subst e;exact zjS P w i t
 | inr x=>obtain⟨t,e⟩:=(show ∃ t,u=Value.str x t from r);subst e;exact zjT P w x t
theorem ziS {P:Program}{w:World} : ∀ {ks:List Key}{us:List Value},Vals (ks.map kV) us→ItemsAre (zbu P w) ks us
 | [],_,r=>by rw[List.map_nil] at r;cases r;exact .nil
 | k::ks,_,r=>by
  rw[zmc] at r
  cases r with
  | cons h t=>exact .cons (zhh h) (ziS t)
abbrev KT (H:Hp):List (List Key × V)→List (List Key × Addr × Value)→Prop:=Paired λp q=>p.1=q.1∧H q.2.1=some (.tup (p.1.map kV))∧RelV p.2 q.2.2
theorem KT.val {H:Hp}{kvs:List (List Key × V)}{xs:List (List Key × Addr × Value)}(r:KT H kvs xs) (k:List Key):RelO (valV kvs k) ((atKey xs k).map (·.2)):=by
 induction r with
 | nil=>exact True.intro
 | @cons p q ps qs h t ih=>
  obtain⟨h1,_,h2⟩:=h
  by_cases e:p.1=k
  ·have e':q.1=k:=h1.symm.trans e
   have b:atKey (q::qs) k=some q.2:=by simp[atKey,List.find?_cons,e']
   rw[zbY e,b];exact h2
  ·have e':¬ q.1=k:=λz=>e (h1.trans z)
   have b:atKey (q::qs) k=atKey qs k:=by simp[atKey,List.find?_cons,e']
   rw[zbS e,b];exact ih
theorem KT.repl {H:Hp}{kvs:List (List Key × V)}{xs:List (List Key × Addr × Value)}(r:KT H kvs xs) (k:List Key) {y:V}{u:Value}(ry:RelV y u) :
  KT H (kvs.map λkv=>if kv.1=k then (kv.1,y) else kv) (xs.map (putAt k u)):=by
 induction r with
 | nil=>exact .nil
 | @cons p q ps qs h t ih=>
  rw[zmc,zmc]
  refine .cons ?_ ih
  obtain⟨h1,h2,h3⟩:=h
  unfold putAt
  by_cases e:p.1=k
  ·rw[if_pos e,if_pos (h1.symm.trans e)];exact⟨h1,h2,ry⟩
  ·rw[if_neg e,if_neg (λz=>e (h1.trans z))];exact⟨h1,h2,h3⟩
theorem KT.put {H:Hp}{kvs:List (List Key × V)}{xs:List (List Key × Addr × Value)}(r:KT H kvs xs) (k:List Key) {b:Addr}{y:V}{u:Value}(hb:H b=some (.tup (k.map kV))) (ry:RelV y u) :
  KT H (putK kvs k y) (storedH xs k b u):=by
 have e:(kvs.any λkv=>decide (kv.1=k))=(atKey xs k).isSome:=by
  rw[zdt,(r.val k).isSome_eq,Option.isSome_map]
 unfold putK storedH
 rw[e]
 by_cases q:(atKey xs k).isSome=true
 ·rw[if_pos q,if_pos q];exact r.repl k ry
 ·rw[if_neg q,if_neg q];exact Paired.snoc r ⟨rfl,hb,ry⟩
theorem KT.keeps {H H':Hp}{kvs:List (List Key × V)}{xs:List (List Key × Addr × Value)}(r:KT H kvs xs) (ht:∀ b ys,H b=some (.tup ys)→H' b=some (.tup ys)):KT H' kvs xs:=
 Paired.mapP r λ_ _ z=>⟨z.1,ht _ _ z.2.1,z.2.2⟩
section
variable {P:Program}{w:World}{H:Hp}{h:Heap}{a:Addr}
theorem zqH {u:HO}(ok:HOk P w H h) (e:Rd H a u):zb5 P w H h a u:=e.ok ok
theorem zjY {kvs:List (Key × V)}(ok:HOk P w H h) (e:Rd H a (.dK kvs)):kvs.length≤sizeLine∧(a == sysModules)=false∧∃ vs,KV kvs vs∧h.DictOf (zbu P w) a vs:=
 show zb5 P w H h a (.dK kvs) from zqH ok e
theorem zln {kvs:List (Key × V)}(ok:HOk P w H h) (e:H a=some (.dK kvs)):kvs.length≤sizeLine∧(a == sysModules)=false∧∃ vs,KV kvs vs∧h.DictOf (zbu P w) a vs:=zjY ok (.inl e)
theorem zhC {ks:List Key}(ok:HOk P w H h) (e:H a=some (.tup (ks.map kV))):(tupleKind (zbu P w)).is h ks a:=by
 obtain⟨_,its,r,o,h1,h2,n,h3⟩:=(show zb5 P w H h a (.tup (ks.map kV)) from ok a _ e)
 exact⟨o,its.toArray,n,h1,h2,h3,by simpa using ziS r⟩
theorem zjZ {kvs:List (List Key × V)}(ok:HOk P w H h) (e:Rd H a (.dT kvs)):kvs.length≤sizeLine∧(a == sysModules)=false∧
  ∃ xs,KT H kvs xs∧h.DictOfH (tupleKind (zbu P w)) a xs:=by
 obtain⟨z,y,xs,r,o,es,ep,h1,h2,h3,h4,h5⟩:=(show zb5 P w H h a (.dT kvs) from zqH ok e)
 refine⟨z,y,xs,r,o,es,ep,h1,h2,h3,h4,λx hx=>?_,h5⟩
 have all:∀ {l:List (List Key × V)}{m:List (List Key × Addr × Value)},KT H l m→∀ x∈m,(tupleKind (zbu P w)).is h x.1 x.2.1:=by
  intro l m q
  induction q with
  | nil=>intro x hx;exact nomatch hx
  | @cons p q ps qs hq t ih=>
   intro x hx
   rcases List.mem_cons.mp hx with e | hx
   ·subst e
    exact zhC ok (by rw[←hq.1];exact hq.2.1)
   ·exact ih x hx
 exact all r x hx
theorem dt_of {kvs:List (List Key × V)}(ok:HOk P w H h) (e:H a=some (.dT kvs)):kvs.length≤sizeLine∧(a == sysModules)=false∧
  ∃ xs,KT H kvs xs∧h.DictOfH (tupleKind (zbu P w)) a xs:=zjZ ok (.inl e)
end

def DGet (H:Hp) (a:Addr) (y:V) (r:Option V):Prop:=
 (∃ kvs k,Rd H a (.dK kvs)∧y=kV k∧r=valV kvs k)∨∃ kvs k b,Rd H a (.dT kvs)∧y=.ref b∧H b=some (.tup (k.map kV))∧r=valV kvs k
def DPut (H:Hp) (a:Addr) (y v:V) (H':Hp):Prop:=
 (∃ kvs k,H a=some (.dK kvs)∧y=kV k∧kvs.length<sizeLine∧H'=upd H a (.dK (putK kvs k v)))∨
 ∃ kvs k b,H a=some (.dT kvs)∧y=.ref b∧H b=some (.tup (k.map kV))∧kvs.length<sizeLine∧H'=upd H a (.dT (putK kvs k v))
theorem DGet.k {H:Hp}{a:Addr}{kvs:List (Key × V)}{k:Key}(e:H a=some (.dK kvs)):DGet H a (kV k) (valV kvs k):=.inl ⟨kvs,k,.inl e,rfl,rfl⟩
theorem DPut.k {H:Hp}{a:Addr}{kvs:List (Key × V)}{k:Key}{v:V}(e:H a=some (.dK kvs)) (hl:kvs.length<sizeLine):DPut H a (kV k) v (upd H a (.dK (putK kvs k v))):=.inl ⟨kvs,k,e,rfl,hl,rfl⟩
section
variable {X:Cx}{pins:List (Addr × Obj)}{σ:St}{H:Hp}{s:Shared}{a:Addr}{y v:V}{u r:Value}{o:Option V}{A:Around}{E:Value→Shared→Prop}

theorem Inv.big (I:Inv X pins σ H s):sysModules<s.heap.objs.size:=by
 have h:mainGlobals<s.heap.objs.size:=(I.mod.glob.keeps I.bk).lt
 exact Nat.lt_trans (by decide) h
theorem zmj {Q:Value→Shared→Prop}(hu:A.units+1<cLine) (I:Inv X pins σ H s) (g:DGet H a y (some v)) (ry:RelV y u) (h:∀ w' s',Inv X pins σ H s'→RelV v w'→Q w' s') :
  wpAny (model X.prog X.w) A (getItem (.ref a) u) Q E s:=by
 rcases g with ⟨kvs,k,e,ey,l⟩ | ⟨kvs,k,b,e,ey,eb,l⟩
 ·subst ey
  obtain⟨z,hd,vs,rel,dd⟩:=zjY I.hok e
  obtain⟨w',hw,rw'⟩:=RelO.some_of (v:=v) (o:=valueAt vs k) (by rw[l];exact rel.val k)
  exact wpAny_getItem_of (zhh ry) dd.mapOf hw (h w' _ (I.tok _) rw')
 ·subst ey
  cases (show u=Value.ref b from ry)
  obtain⟨z,hd,xs,rel,dd⟩:=zjZ I.hok e
  obtain⟨w',hw,rw'⟩:=RelO.some_of (v:=v) (o:=(atKey xs k).map (·.2)) (by rw[l];exact rel.val k)
  obtain⟨p,hp,hp2⟩:=zme.mp hw
  refine wpAny_getItem_heap (tupleKind_room_in1 hu) (zhC I.hok eb) dd hp ?_
  rw[hp2]
  exact h w' _ (I.tok _) rw'
theorem d_in {Q:Value→Shared→Prop}(hu:A.units+1<cLine) (I:Inv X pins σ H s) (g:DGet H a y o) (ry:RelV y u) (h:∀ s',Inv X pins σ H s'→Q (.bool o.isSome) s') :
  wpAny (model X.prog X.w) A (compareOp .In u (.ref a)) Q E s:=by
 rcases g with ⟨kvs,k,e,ey,l⟩ | ⟨kvs,k,b,e,ey,eb,l⟩
 ·subst ey
  obtain⟨z,hd,vs,rel,dd⟩:=zjY I.hok e
  refine wpAny_in_of (zhh ry) hd dd.mapOf ?_
  rw[←(rel.val k).isSome_eq,←l]
  exact h _ (I.tok _)
 ·subst ey
  cases (show u=Value.ref b from ry)
  obtain⟨z,hd,xs,rel,dd⟩:=zjZ I.hok e
  refine wpAny_in_heap (tupleKind_room_in1 hu) (zhC I.hok eb) hd dd ?_
  have q:=(rel.val k).isSome_eq
  rw[Option.isSome_map] at q
  rw[←q,←l]
  exact h _ (I.tok _)
theorem zpr {Q:Value→Shared→Prop}(hu:A.units+1<cLine) (I:Inv X pins σ H s) (g:DGet H a y o) (ry:RelV y u) (h:∀ s',Inv X pins σ H s'→Q (.bool (!o.isSome)) s') :
  wpAny (model X.prog X.w) A (compareOp .NotIn u (.ref a)) Q E s:=by
 rcases g with ⟨kvs,k,e,ey,l⟩ | ⟨kvs,k,b,e,ey,eb,l⟩
 ·subst ey
  obtain⟨z,hd,vs,rel,dd⟩:=zjY I.hok e
  refine wpAny_notIn_of (zhh ry) hd dd.mapOf ?_
  rw[←(rel.val k).isSome_eq,←l]
  exact h _ (I.tok _)
 ·subst ey
  cases (show u=Value.ref b from ry)
  obtain⟨z,hd,xs,rel,dd⟩:=zjZ I.hok e
  refine wpAny_notIn_heap (tupleKind_room_in1 hu) (zhC I.hok eb) hd dd ?_
  have q:=(rel.val k).isSome_eq
  rw[Option.isSome_map] at q
  rw[←q,←l]
  exact h _ (I.tok _)
theorem zgr {h':Heap}{t':Nat}{ob:HO}(I:Inv X pins σ H s) (mu:Mut (H a)) (hs:Heap.SameBut a s.heap h') (he:∃ q,h'.get? a=some q) (new:zb5 X.prog X.w (upd H a ob) h' a ob) :
  Inv X pins σ (upd H a ob) {s with heap:=h',toks:=t'}:=
 I.write (x:=a) (e:=a) mu (.inl rfl) (λb q hb z=>(hs.2 b hb).trans z) he new
theorem zkJ {P:Program}{w:World}{H':Hp}{h':Heap}{kvs:List (Key × V)}{vs:List (Key × Value)}(z:kvs.length≤sizeLine) (hd:(a == sysModules)=false) (rel:KV kvs vs) (dd:h'.DictOf (zbu P w) a vs) :
  zb5 P w H' h' a (.dK kvs):=⟨z,hd,vs,rel,dd⟩
theorem zmk {H':Hp}{Q:Unit→Shared→Prop}(hu:A.units+1<cLine) (I:Inv X pins σ H s) (g:DPut H a y v H') (ry:RelV y u) (rv:RelV v r) (h:∀ s',Inv X pins σ H' s'→Q () s') :
  wpAny (model X.prog X.w) A (setItem (.ref a) u r) Q E s:=by
 rcases g with ⟨kvs,k,e,ey,l,eH⟩ | ⟨kvs,k,b,e,ey,eb,l,eH⟩
 ·subst ey eH
  obtain⟨z,hd,vs,rel,dd⟩:=zln I.hok e
  have hz:vs.length≤sizeLine:=by rw[←rel.length];exact z
  have hl:(putK kvs k v).length≤sizeLine:=by have:=zeS kvs k v;omega
  refine wpAny_setItem_pairs (hsz:=hz) (zhh ry) dd λh' dd' hs=>h _ ?_
  have he:∃ q,h'.get? a=some q:=let ⟨q,_,_,hq,_⟩:=dd';⟨q,hq⟩
  exact zgr I (by rw[e];exact True.intro) hs he (zkJ hl hd (rel.put k rv) dd')
 ·subst ey eH
  cases (show u=Value.ref b from ry)
  obtain⟨z,hd,xs,rel,dd⟩:=dt_of I.hok e
  have hz:xs.length≤sizeLine:=by rw[←Paired.length rel];exact z
  have hl:(putK kvs k v).length≤sizeLine:=by have:=zeS kvs k v;omega
  refine wpAny_setItem_heap (hsz:=hz) (tupleKind_room_in1 hu) (zhC I.hok eb) dd λh' dd' hs=>h _ ?_
  obtain⟨q,es,ep,hq,h2,h3,h4,_,h5⟩:=dd'
  refine zgr I (by rw[e];exact True.intro) hs ⟨q,hq⟩ ⟨hl,hd,_,(rel.put k eb rv).keeps λc ys ec=>?_,q,es,ep,hq,h2,h3,h4,h5⟩
  rw[zaq (znz ec e (λz=>nomatch z))]
  exact ec
end

section
variable {X:Cx}{pins:List (Addr × Obj)}{σ:St}{H:Hp}{s:Shared}{a:Addr}{kvs:List (Key × V)}{k:Key}{u:Value}{A:Around}{E:Value→Shared→Prop}
theorem zqI {Q:Unit→Shared→Prop}(I:Inv X pins σ H s) (e:H a=some (.dK kvs)) (ry:RelV (kV k) u) (l:(valV kvs k).isSome=true) (h:∀ s',Inv X pins σ (upd H a (.dK (zdm kvs k))) s'→Q () s') :
  wpAny (model X.prog X.w) A (delItem (.ref a) u) Q E s:=by
 obtain⟨z,hd,vs,rel,dd⟩:=zln I.hok e
 refine wpAny_delItem_slot dd.typeIs (by decide) PySem.F.slot_dict_delitem
  (call_meetsIn PySem.F.slot_dict_delitem dd.typeIs PySem.F.entry_dict_delitem (PySem.F.args_dict_delitem_2 _ _) (meets_dict_delitem_pairs (zbu X.prog X.w) a (zhh ry)) ⟨vs,dd,by rw[←rel.length];exact z,by rw[←(rel.val k).isSome_eq];exact l,λh' dd' hs=>h _ ?_⟩)
 have he:∃ q,h'.get? a=some q:=let ⟨q,_,_,hq,_⟩:=dd';⟨q,hq⟩
 exact zgr I (by rw[e];exact True.intro) hs he (zkJ (Nat.le_trans (zkI kvs k) z) hd (rel.drop k) dd')
theorem zqJ {v:V}{more:List Value}{Q:Value→Shared→Prop}(I:Inv X pins σ H s) (e:H a=some (.dK kvs)) (ry:RelV (kV k) u) (l:valV kvs k=some v) (hm:more=[]∨∃ x,more=[x])
  (h:∀ w' s',Inv X pins σ (upd H a (.dK (zdm kvs k))) s'→RelV v w'→Q w' s'):wpAny (model X.prog X.w) A (call (.builtin "dict.pop") (.ref a::u::more)) Q E s:=by
 obtain⟨z,hd,vs,rel,dd⟩:=zln I.hok e
 obtain⟨w',hw,rw'⟩:=RelO.some_of (v:=v) (o:=valueAt vs k) (by rw[←l];exact rel.val k)
 have hp:(keyPart u).isSome=true:=by
  cases k with
  | inl i=>obtain⟨t,q⟩:=(show ∃ t,u=Value.int i t from ry);subst q;rfl
  | inr x=>obtain⟨t,q⟩:=(show ∃ t,u=Value.str x t from ry);subst q;rfl
 have ha:argsOk "dict.pop" ⟨.ref a::u::more,[]⟩:=by
  rcases hm with q | ⟨x,q⟩
  ·subst q;exact PySem.F.args_dict_pop_2 _ _
  ·subst q;exact PySem.F.args_dict_pop_3 _ _ _
 refine call_meetsIn PySem.F.slot_dict_pop dd.typeIs PySem.F.entry_dict_pop ha (meets_dict_pop_there (zbu X.prog X.w) a (zhh ry) more hm hp)
  ⟨vs,w',dd,by rw[←rel.length];exact z,hw,λh' dd' hs=>h w' _ ?_ rw'⟩
 have he:∃ q,h'.get? a=some q:=let ⟨q,_,_,hq,_⟩:=dd';⟨q,hq⟩
 exact zgr I (by rw[e];exact True.intro) hs he (zkJ (Nat.le_trans (zkI kvs k) z) hd (rel.drop k) dd')
theorem zqK {r:Value}{Q:Value→Shared→Prop}(I:Inv X pins σ H s) (e:H a=some (.dK kvs)) (ry:RelV (kV k) u) (l:valV kvs k=none) (h:∀ s',Inv X pins σ H s'→Q r s') :
  wpAny (model X.prog X.w) A (call (.builtin "dict.pop") [.ref a,u,r]) Q E s:=by
 obtain⟨z,hd,vs,rel,dd⟩:=zln I.hok e
 have hn:valueAt vs k=none:=RelO.none_of (by rw[←l];exact rel.val k)
 have hp:(keyPart u).isSome=true:=by
  cases k with
  | inl i=>obtain⟨t,q⟩:=(show ∃ t,u=Value.int i t from ry);subst q;rfl
  | inr x=>obtain⟨t,q⟩:=(show ∃ t,u=Value.str x t from ry);subst q;rfl
 exact call_meetsIn PySem.F.slot_dict_pop dd.typeIs PySem.F.entry_dict_pop (PySem.F.args_dict_pop_3 _ _ _) (meets_dict_pop_default (zbu X.prog X.w) a (zhh ry) hd hp r) ⟨vs,dd,hn,h _ (I.tok _)⟩
end


def NoSl (i:Expr):Prop:=∀ ov iv,subscripted i false ov iv=operate [ov,iv] (getItem ov iv)
theorem zps {prog:Program}{w:World}{A:Around}{E:Value→Shared→Prop}{s:Shared}{env:Env}{value slice:Expr}{pos:Pos}{T id:String}{Q:Value→Shared→Prop}
  (hl:typeLookup (.type T) "__getitem__"=pure (some (.builtin id))) (hs:NoSl slice)
  (h:wpAny (model prog w) A (eval value env) (λo s₁=>wpAny (model prog w) A (eval slice env) (λi s₂=>s₂.TypeIs o T∧wpAny (model prog w) A (getItem o i) Q E s₂) E s₁) E s) :
  wpAny (model prog w) A (eval (.Subscript value slice pos) env) Q E s:=by
 refine Subscript_ (wpAny_mono h (λo s₁ h₁=>wpAny_mono h₁ (λi s₂ h₂=>?_) λ_ _ x=>x) λ_ _ x=>x)
 obtain⟨hT,h₂⟩:=h₂
 unfold subscriptTail
 refine wpAny_bind ?_
 rw[getitemInPython_of_ne hT.not_modules]
 refine wpAny_bind (wpAny_specialOf hT hl ?_)
 have fin:wpAny (model prog w) A (subscripted slice false o i) (λr s₃=>wpAny (model prog w) A (letTemporaryGo value o r >>= λ_=>pure r) Q E s₃) E s₂:=by
  rw[hs o i]
  exact wpAny_operating (wpAny_mono h₂ (λr s₃ h₃=>wpAny_bind (wpAny_letTemporaryGo (wpAny_pure h₃))) λ_ _ x=>x)
 first
  | exact wpAny_pure (wpAny_bind fin)
  | exact wpAny_bind (wpAny_pure (wpAny_bind fin))
  | exact wpAny_bind fin
theorem zj0 {X:Cx}{pins:List (Addr × Obj)}{σ:St}{H:Hp}{s:Shared}{a:Addr}{y:V}{o:Option V}(I:Inv X pins σ H s) (g:DGet H a y o):s.TypeIs (.ref a) "dict":=by
 rcases g with ⟨kvs,k,e,_,_⟩ | ⟨kvs,k,b,e,_,_,_⟩
 ·obtain⟨_,_,vs,_,dd⟩:=zjY I.hok e
  exact dd.typeIs
 ·obtain⟨_,_,xs,_,dd⟩:=zjZ I.hok e
  exact dd.typeIs
def zqL (td ty:TE):TE:=λσ H Q=>td σ H λx H1=>ty σ H1 λy H2=>∃ a v,x=.ref a∧DGet H2 a y (some v)∧Q v H2
def tDIn (ty td:TE):TE:=λσ H Q=>ty σ H λy H1=>td σ H1 λx H2=>∃ a o,x=.ref a∧DGet H2 a y o∧Q (.bl o.isSome) H2
def zml (ty td:TE):TE:=λσ H Q=>ty σ H λy H1=>td σ H1 λx H2=>∃ a o,x=.ref a∧DGet H2 a y o∧Q (.bl (!o.isSome)) H2
def zqM (td ty tv:TE):TS:=λD σ H=>tv σ H λv H1=>td σ H1 λx H2=>ty σ H2 λy H3=>∃ a H4,x=.ref a∧DPut H3 a y v H4∧D.nx σ H4
section
variable {X:Cx}{o i e value:Expr}{pos pos' tpos:Pos}{td ty tv:TE}
theorem zei (hu:X.A.units+1<cLine) (ho:PE X o td) (hi:PE X i ty) (hs:NoSl i):PE X (.Subscript o i pos) (zqL td ty):=by
 intro pins s σ H Q I h
 refine zps PySem.F.slot_dict_getitem.lookup hs (thn (ho pins s σ H _ I h) λu s1 ⟨x,H1,I1,rx,q1⟩=>thn (hi pins s1 σ H1 _ I1 q1) λiv s2 ⟨y,H2,I2,ry,a,v,ex,g,q2⟩=>?_)
 subst ex
 obtain rfl:u=Value.ref a:=rx
 exact⟨zj0 I2 g,zmj hu I2 g ry λw' s3 I3 rw'=>⟨v,H2,I3,rw',q2⟩⟩
theorem zmn (hu:X.A.units+1<cLine) (hi:PE X i ty) (ho:PE X o td):PC X .In i o (tDIn ty td):=by
 intro pins s σ H Q I h
 refine thn (hi pins s σ H _ I h) λiv s1 ⟨y,H1,I1,ry,q1⟩=>thn (ho pins s1 σ H1 _ I1 q1) λu s2 ⟨x,H2,I2,rx,a,ov,ex,g,q2⟩=>?_
 subst ex
 obtain rfl:u=Value.ref a:=rx
 exact d_in hu I2 g ry λs3 I3=>⟨.bl ov.isSome,H2,I3,rfl,q2⟩
theorem zgs (hu:X.A.units+1<cLine) (hi:PE X i ty) (ho:PE X o td):PC X .NotIn i o (zml ty td):=by
 intro pins s σ H Q I h
 refine thn (hi pins s σ H _ I h) λiv s1 ⟨y,H1,I1,ry,q1⟩=>thn (ho pins s1 σ H1 _ I1 q1) λu s2 ⟨x,H2,I2,rx,a,ov,ex,g,q2⟩=>?_
 subst ex
 obtain rfl:u=Value.ref a:=rx
 exact zpr hu I2 g ry λs3 I3=>⟨.bl (!ov.isSome),H2,I3,rfl,q2⟩
theorem zdE (hu:X.A.units+1<cLine) (ho:PE X o td) (hi:PE X i ty) (hv:PE X value tv) (hs:swapsWith value (some (.Subscript o i pos')) pos.line X.env=pure false) :
  PS X (.Assign [.Subscript o i pos'] value pos) (zqM td ty tv):=by
 intro pins s σ H D I h
 refine wpAny_Assign_Subscript (thn (hv pins s σ H _ I h) λr s1 ⟨v,H1,I1,rv,q1⟩=>thn (ho pins s1 σ H1 _ I1 q1) λu s2 ⟨x,H2,I2,rx,q2⟩=>thn (hi pins s2 σ H2 _ I2 q2) λiv s3 ⟨y,H3,I3,ry,a,H4,ex,g,q3⟩=>?_) hs
 subst ex
 obtain rfl:u=Value.ref a:=rx
 exact zmk hu I3 g ry rv λs4 I4=>⟨σ,H4,I4,q3⟩
end


theorem zkK {P:Program}{w:World}{H:Hp}(h:Heap) (hb:sysModules<h.objs.size):zb5 P w H (h.push {cls:=.type "dict",data:=.dict #[]}) h.objs.size (.dK []):=
 ⟨Nat.zero_le _,beq_eq_false_iff_ne.mpr (Ne.symm (Nat.ne_of_lt hb)),[],.nil,Heap.DictOf.new h⟩
def zoM:TE:=λ_ H Q=>∀ p,H p=none→Q (.ref p) (upd H p (.dK []))
section
variable {X:Cx}{pos:Pos}
theorem zh0:PE X (.Dict [] [] pos) zoM:=λpins s σ H Q I h=>
 wpAny_Dict_empty ⟨.ref s.heap.objs.size,_,I.laid (a:=s.heap.objs.size) (o:=.dK []) (t':=s.toks) (λ_ _ q=>Heap.get?_push_of_some _ q) (Nat.le_refl _) (zkK s.heap I.big),rfl,h _ (I.hok.fresh (Nat.le_refl _))⟩
end

def zgt:List (TE × TE)→St→Hp→(List (V × V)→Hp→Prop)→Prop
 | [],_,H,Q=>Q [] H
 | (tk,tv)::r,σ,H,Q=>tk σ H λx H1=>tv σ H1 λy H2=>zgt r σ H2 λps H3=>Q ((x,y)::ps) H3
abbrev VV:List (V × V)→List (Value × Value)→Prop:=Paired λp q=>RelV p.1 q.1∧RelV p.2 q.2
def PPs (X:Cx) (pos:Pos) (keys:List (Option Expr)) (values:List Expr) (trs:List (TE × TE)):Prop:=
 ∀ (pins:List (Addr × Obj)) (s:Shared) (σ:St) (H:Hp) (Q:List (V × V)→Hp→Prop),Inv X pins σ H s→zgt trs σ H Q→
  wpAny (model X.prog X.w) X.A (evalPairs (pairTrees keys values X.env pos)) (λvs s'=>∃ ps H',Inv X pins σ H' s'∧VV ps vs∧Q ps H') X.xe s
theorem zfw {X:Cx}{pos:Pos} : PPs X pos [] [] []:=λpins s σ H Q I h=>pairTrees_nil_walk ⟨[],H,I,.nil,h⟩
theorem zcq {X:Cx}{pos:Pos}{k v:Expr}{ks:List (Option Expr)}{vs:List Expr}{tk tv:TE}{trs:List (TE × TE)}(hk:PE X k tk) (hv:PE X v tv) (hr:PPs X pos ks vs trs) :
  PPs X pos (some k::ks) (v::vs) ((tk,tv)::trs):=λpins s σ H Q I h=>
 pairTrees_cons_walk (thn (hk pins s σ H _ I h) λu s1 ⟨x,H1,I1,rx,q1⟩=>thn (hv pins s1 σ H1 _ I1 q1) λw2 s2 ⟨y,H2,I2,ry,q2⟩=>
  thn (hr pins s2 σ H2 _ I2 q2) λws s3 ⟨ps,H3,I3,rel,q3⟩=>⟨(x,y)::ps,H3,I3,.cons ⟨rx,ry⟩ rel,q3⟩)
def zb1 (kvs more:List (Key × V)):List (Key × V):=more.foldl (λacc kv=>putK acc kv.1 kv.2) kvs
theorem KV.merge:∀ {more:List (Key × V)}{rs:List (Key × Value)}{kvs:List (Key × V)}{vs:List (Key × Value)},KV more rs→KV kvs vs→KV (zb1 kvs more) (merged vs rs):=by
 intro more rs kvs vs r
 unfold KV at r
 induction r generalizing kvs vs with
 | nil=>intro q;exact q
 | @cons p q ps qs h t ih=>
  intro r0
  have e:KV (putK kvs p.1 p.2) (stored vs q.1 q.2):=by
   have:=r0.put p.1 h.2
   rw[←h.1];exact this
  exact ih e
theorem ze7:∀ (more kvs:List (Key × V)),(zb1 kvs more).length≤kvs.length+more.length
 | [],kvs=>by show kvs.length≤kvs.length+0;omega
 | p::r,kvs=>by
  have h1:=ze7 r (putK kvs p.1 p.2)
  have h2:=zeS kvs p.1 p.2
  show (zb1 (putK kvs p.1 p.2) r).length≤_
  rw[List.length_cons];omega
theorem zhD {P:Program}{w:World} : ∀ {kvs:List (Key × V)}{ws:List (Value × Value)},VV (kvs.map λkv=>(kV kv.1,kv.2)) ws→∃ rs,Carries (zbu P w) ws rs∧KV kvs rs
 | [],_,r=>by rw[List.map_nil] at r;cases r;exact⟨[],True.intro,.nil⟩
 | p::kvs,_,r=>by
  rw[zmc] at r
  cases r with
  | @cons a b as bs h t=>
   obtain⟨rs,c,q⟩:=zhD (P:=P) (w:=w) t
   obtain⟨b1,b2⟩:=b
   exact⟨(p.1,b2)::rs,⟨zhh h.1,rfl,c⟩,.cons ⟨rfl,h.2⟩ q⟩
def zqN (trs:List (TE × TE)):TE:=λσ H Q=>∀ p,H p=none→zgt trs σ (upd H p (.dK [])) λps H2=>H2 p=some (.dK [])∧∃ kvs:List (Key × V),ps=kvs.map (λkv=>(kV kv.1,kv.2))∧kvs.length≤15∧Q (.ref p) (upd H2 p (.dK (zb1 [] kvs)))
theorem zfx {X:Cx}{pos:Pos}{keys:List (Option Expr)}{values:List Expr}{trs:List (TE × TE)}(h:PPs X pos keys values trs) (hall:keys.all (·.isSome)=true) (hl:keys.length=values.length) (h0:keys≠[])
  (h15:keys.length≤15):PE X (.Dict keys values pos) (zqN trs):=by
 intro pins s σ H Q I q
 have hn:=I.hok.fresh (Nat.le_refl s.heap.objs.size)
 have I1:=I.laid (a:=s.heap.objs.size) (o:=.dK []) (h':=s.heap.push {cls:=.type "dict",data:=.dict #[]}) (t':=s.toks) (λ_ _ q=>Heap.get?_push_of_some _ q) (Nat.le_refl _) (zkK s.heap I.big)
 refine wpAny_Dict_walk (knd:=zbu X.prog X.w) hall hl h0 h15 (thn (h pins _ σ _ _ I1 (q _ hn)) λws s2 ⟨ps,H2,I2,rel,e,kvs,ep,lk,q2⟩=>?_)
 subst ep
 obtain⟨rs,c,rk⟩:=zhD (P:=X.prog) (w:=X.w) rel
 obtain⟨z,hd,vs0,r0,dd⟩:=zln I2.hok e
 cases r0
 refine⟨rs,c,dd,λh' dd' hs=>⟨.ref s.heap.objs.size,_,?_,rfl,q2⟩⟩
 have hz:(zb1 [] kvs).length≤sizeLine:=by
  have h1:=ze7 kvs []
  rw[List.length_nil] at h1
  rw[sizeLine_eq];omega
 have he:∃ q,h'.get? s.heap.objs.size=some q:=let ⟨q,_,_,hq,_⟩:=dd';⟨q,hq⟩
 exact zgr I2 (by rw[e];exact True.intro) hs he (zkJ hz hd (rk.merge .nil) dd')
structure M1 (X:Cx) (o:Expr) (m:Str) (apos:Pos) (e:Expr) (cpos:Pos):Prop where
 base:attributeBase o m X.env (eval o X.env)=eval o X.env
 few:((backTo cpos (starEach [e] X.env)).all (λx=>!x.1) && (backToKw cpos (keywordEach [] X.env)).all (λx=>x.1.isSome)
  && decide (([e]:List Expr).length+([]:List Keyword).length+(if ([]:List Keyword).isEmpty then 0 else 1)<30))=true
 line:(apos.endLine == cpos.line)=true
 trees:backTo cpos (starEach [e] X.env)=[(false,eval e X.env)]
structure M2 (X:Cx) (o:Expr) (m:Str) (apos:Pos) (e f:Expr) (cpos:Pos):Prop where
 base:attributeBase o m X.env (eval o X.env)=eval o X.env
 few:((backTo cpos (starEach [e,f] X.env)).all (λx=>!x.1) && (backToKw cpos (keywordEach [] X.env)).all (λx=>x.1.isSome)
  && decide (([e,f]:List Expr).length+([]:List Keyword).length+(if ([]:List Keyword).isEmpty then 0 else 1)<30))=true
 line:(apos.endLine == cpos.line)=true
 trees:backTo cpos (starEach [e,f] X.env)=[(false,eval e X.env),(false,eval f X.env)]
def IsD (H:Hp) (a:Addr):Prop:=(∃ kvs,Rd H a (.dK kvs))∨∃ kvs,Rd H a (.dT kvs)
theorem zmo {X:Cx}{pins:List (Addr × Obj)}{σ:St}{H:Hp}{s:Shared}{a:Addr}(I:Inv X pins σ H s) (d:IsD H a) :
  s.TypeIs (.ref a) "dict" ∧(∀ b,Value.ref a=.ref b→∃ ob,s.heap.get? b=some ob∧ob.dict=none)∧(a == sysModules)=false:=by
 rcases d with ⟨kvs,e⟩ | ⟨kvs,e⟩
 ·obtain⟨_,hd,vs,_,dd⟩:=zjY I.hok e
  refine⟨dd.typeIs,λb q=>?_,hd⟩
  cases q
  obtain⟨ob,_,_,h1,h2,_⟩:=dd
  exact⟨ob,h1,h2.2.1⟩
 ·obtain⟨_,hd,xs,_,dd⟩:=zjZ I.hok e
  refine⟨dd.typeIs,λb q=>?_,hd⟩
  cases q
  obtain⟨ob,_,_,h1,h2,_⟩:=dd
  exact⟨ob,h1,h2.2.1⟩
section
variable {X:Cx}{pins:List (Addr × Obj)}{σ:St}{H:Hp}{s:Shared}{a:Addr}{y d:V}{u r:Value}{o:Option V}{A:Around}{E:Value→Shared→Prop}
theorem zqO {Q:Value→Shared→Prop}(hu:A.units+1<cLine) (I:Inv X pins σ H s) (g:DGet H a y o) (ry:RelV y u) (rd:RelV d r) (h:∀ w' s',Inv X pins σ H s'→RelV (o.getD d) w'→Q w' s') :
  wpAny (model X.prog X.w) A (call (.builtin "dict.get") [.ref a,u,r]) Q E s:=by
 rcases g with ⟨kvs,k,e,ey,l⟩ | ⟨kvs,k,b,e,ey,eb,l⟩
 ·subst ey
  obtain⟨z,hd,vs,rel,dd⟩:=zjY I.hok e
  refine call_meetsIn PySem.F.slot_dict_get dd.typeIs PySem.F.entry_dict_get (PySem.F.args_dict_get_3 _ _ _) (meets_dict_get_default (zbu X.prog X.w) a (zhh ry) hd r) ⟨_,dd.mapOf,h _ _ (I.tok _) ?_⟩
  rw[l]
  exact (rel.val k).getD rd
 ·subst ey
  cases (show u=Value.ref b from ry)
  obtain⟨z,hd,xs,rel,dd⟩:=zjZ I.hok e
  refine call_meetsIn PySem.F.slot_dict_get dd.typeIs PySem.F.entry_dict_get (PySem.F.args_dict_get_3 _ _ _) (meetsH_dict_get_default (tupleKind (zbu X.prog X.w)) a b hd r) ⟨tupleKind_room_in1 hu,k,xs,zhC I.hok eb,dd,h _ _ (I.tok _) ?_⟩
  rw[l]
  exact (rel.val k).getD rd
end

def zoN (td ty tx:TE):TE:=λσ H Q=>td σ H λx H1=>∃ a,x=.ref a∧IsD H1 a∧ty σ H1 λy H2=>tx σ H2 λz H3=>∃ o,DGet H3 a y o∧Q (o.getD z) H3
def zoO (td ty:TE):TE:=λσ H Q=>td σ H λx H1=>∃ a,x=.ref a∧IsD H1 a∧ty σ H1 λy H2=>∃ kvs k v,H2 a=some (.dK kvs)∧y=kV k∧valV kvs k=some v∧Q v (upd H2 a (.dK (zdm kvs k)))
def zoP (td ty tx:TE):TE:=λσ H Q=>td σ H λx H1=>∃ a,x=.ref a∧IsD H1 a∧ty σ H1 λy H2=>tx σ H2 λz H3=>∃ kvs k,H3 a=some (.dK kvs)∧y=kV k∧
 (∀ v,valV kvs k=some v→Q v (upd H3 a (.dK (zdm kvs k))))∧(valV kvs k=none→Q z H3)
section
variable {X:Cx}{o e f:Expr}{apos cpos:Pos}{td ty tx:TE}
theorem znO (hu:X.A.units+1<cLine) (ho:PE X o td) (he:PE X e ty) (hf:PE X f tx) (m:M2 X o "get" apos e f cpos):PE X (.Call (.Attribute o "get" apos) [e,f] [] cpos) (zoN td ty tx):=by
 intro pins s σ H Q I h
 refine wpAny_Call_method m.base m.few m.line PySem.F.plainAttrs_dict PySem.F.slot_dict_get PySem.F.type_dict_get (thn (ho pins s σ H _ I h) λu s1 ⟨x,H1,I1,rx,a,ex,d,q1⟩=>?_)
 subst ex
 obtain rfl:u=Value.ref a:=rx
 obtain⟨t1,t2,_⟩:=zmo I1 d
 refine⟨t1,t2,?_⟩
 rw[m.trees]
 refine Calls.callWith_builtin rfl (Calls.evalArgs_plain (Calls.spliced_cons (thn (he pins s1 σ H1 _ I1 q1) λiv s2 ⟨y,H2,I2,ry,q2⟩=>
  Calls.spliced_cons (thn (hf pins s2 σ H2 _ I2 q2) λfv s3 ⟨z,H3,I3,rz,ov,g,q3⟩=>Calls.spliced_nil ?_))))
 exact zqO hu I3 g ry rz λw' s4 I4 rw'=>⟨_,H3,I4,rw',q3⟩
theorem znP (ho:PE X o td) (he:PE X e ty) (m:M1 X o "pop" apos e cpos):PE X (.Call (.Attribute o "pop" apos) [e] [] cpos) (zoO td ty):=by
 intro pins s σ H Q I h
 refine wpAny_Call_method m.base m.few m.line PySem.F.plainAttrs_dict PySem.F.slot_dict_pop PySem.F.type_dict_pop (thn (ho pins s σ H _ I h) λu s1 ⟨x,H1,I1,rx,a,ex,d,q1⟩=>?_)
 subst ex
 obtain rfl:u=Value.ref a:=rx
 obtain⟨t1,t2,_⟩:=zmo I1 d
 refine⟨t1,t2,?_⟩
 rw[m.trees]
 refine Calls.callWith_builtin rfl (Calls.evalArgs_plain (Calls.spliced_cons (thn (he pins s1 σ H1 _ I1 q1) λiv s2 ⟨y,H2,I2,ry,kvs,k,v,ea,ey,l,q2⟩=>Calls.spliced_nil ?_)))
 subst ey
 exact zqJ I2 ea ry l (.inl rfl) λw' s3 I3 rw'=>⟨v,_,I3,rw',q2⟩
theorem znQ (ho:PE X o td) (he:PE X e ty) (hf:PE X f tx) (m:M2 X o "pop" apos e f cpos):PE X (.Call (.Attribute o "pop" apos) [e,f] [] cpos) (zoP td ty tx):=by
 intro pins s σ H Q I h
 refine wpAny_Call_method m.base m.few m.line PySem.F.plainAttrs_dict PySem.F.slot_dict_pop PySem.F.type_dict_pop (thn (ho pins s σ H _ I h) λu s1 ⟨x,H1,I1,rx,a,ex,d,q1⟩=>?_)
 subst ex
 obtain rfl:u=Value.ref a:=rx
 obtain⟨t1,t2,_⟩:=zmo I1 d
 refine⟨t1,t2,?_⟩
 rw[m.trees]
 refine Calls.callWith_builtin rfl (Calls.evalArgs_plain (Calls.spliced_cons (thn (he pins s1 σ H1 _ I1 q1) λiv s2 ⟨y,H2,I2,ry,q2⟩=>
  Calls.spliced_cons (thn (hf pins s2 σ H2 _ I2 q2) λfv s3 ⟨z,H3,I3,rz,kvs,k,ea,ey,q3,q4⟩=>Calls.spliced_nil ?_))))
 subst ey
 cases l:valV kvs k with
 | some v=>exact zqJ I3 ea ry l (.inr ⟨fv,rfl⟩) λw' s4 I4 rw'=>⟨v,_,I4,rw',q3 v l⟩
 | none=>exact zqK I3 ea ry l λs4 I4=>⟨z,H3,I4,rz,q4 l⟩
end

section
variable {X:Cx}{pins:List (Addr × Obj)}{σ:St}{H:Hp}{s:Shared}{a:Addr}{kvs:List (Key × V)}{A:Around}{E:Value→Shared→Prop}
end


section
variable {X:Cx}{pins:List (Addr × Obj)}{σ:St}{H:Hp}{s:Shared}{a:Addr}{y:V}{u:Value}{A:Around}{E:Value→Shared→Prop}
end
end L2

namespace Att
open PySem PySem.W PySem.Calls PyProof.Rows

theorem zgu {P:Params}{h:Heap} : ∀ (ns:List Int) (vs:List Value),WellAll P h vs (ns.map WData.int)→IntsAre vs ns:=by
 intro ns
 induction ns with
 | nil=>
  intro vs w
  rw[List.map_nil] at w
  cases w
  exact .nil
 | cons n ns ih=>
  intro vs w
  rw[zmc] at w
  cases w with
  | cons a b=>
   cases a
   exact .cons _ _ (ih _ b)
theorem zmp {l:OpenLaw}{n:Nat}(hn:l.most=some n) {P:Params}{h:Heap}{args:List WData}{vals:List Value}
  (hpre:l.row.toRowW.claim.pre args=true) (hwl:WellAll P h vals args) :
  ∃ a vs ns,vals=[Value.ref a]∧args=[WData.list (ns.map WData.int)]∧h.get? a=some {cls:=.type "list",data:=.seq vs.toArray}∧IntsAre vs ns∧ns.length≤n:=by
 have hsh:WShape.hasAll [] args [.list .int]=true:=(pre_splitW hpre).1
 have hc:l.pre.holds [] {args:=args}=true:=(pre_splitW hpre).2
 obtain⟨d,r,rfl,h1,h2⟩:=hasAllW_cons hsh
 obtain rfl:=hasAllW_nil h2
 obtain⟨xs,rfl,h3⟩:=hasW_list h1
 obtain⟨ns,rfl⟩:=items_int h3
 have hlen:ns.length≤n:=by
  unfold OpenLaw.pre at hc
  have h4:(WTm.not (.lt (.lit (.int (n:Int))) (.len (.arg 0)))).holds [] {args:=[.list (ns.map .int)]}=true:=by
   have h4:=(holds_andW hc).1
   rw[hn] at h4
   exact h4
  have h5:=condW_of h4 (w_not (w_lt w_lit (w_len_list (w_arg rfl))))
  rw[zlm] at h5
  refine Nat.le_of_not_lt λq=>?_
  have q':(n:Int)<((ns.length:Nat):Int):=by omega
  first
   | (rw[decide_eq_true q'] at h5;exact absurd h5 (by decide))
   | (simp at h5;omega)
 cases hwl with
 | cons w1 w2=>
  cases w2
  cases w1 with
  | list ho hall=>exact⟨_,_,ns,rfl,rfl,ho,zgu ns _ hall,hlen⟩
theorem zmq (l:OpenLaw) (args:List WData):l.row.toRowW.claim.post args (.bool true) args=true:=
 postW_of (r:=l.row.toRowW) (X:=(true == true))
  (show WShape.has [] (.bool true) .bool=true by first | rfl | decide | simp[WShape.has,WShape.arms,WShape.armsAll])
  (show (WTm.eq .res (.lit (.bool true))).value [] {args:=args,res:=some (.bool true),after:=args}=some (.bool (true == true)) from w_eq_bool (w_res rfl) w_lit) rfl
theorem attach_call {l:OpenLaw}{n:Nat}{q:Program}{loose:List Str}{XP:(Str→Option Value)→Heap→Prop}{YP:World→Heap→Prop}{d:DefRec}
  (hn:l.most=some n) (hdf:d.params.defaults=[])
  (call:∀ (w:World) (s₀ s₁:Shared) (mg mb:Str→Option Value) (fa:Addr) (o:Obj) (pm cd doc:Value) (a:Addr) (vs:List Value) (ns:List Int),
   Ground q loose [] XP w s₀ mg mb s₁.heap→YP w s₁.heap→
   s₁.heap.get? fa=some o→o.data=.func (docDef d.name d.params d.body d.scope pm cd doc)→s₁.heap.CodeRec cd d.name→mg d.name=some (.ref fa)→
   s₁.heap.get? a=some {cls:=.type "list",data:=.seq vs.toArray}→IntsAre vs ns→ns.length≤n→s₁.gens=#[]→
   codeAny (model l.prog w) callerA (.call (.ref fa) ⟨[.ref a],[]⟩) (λr s'=>r=.ok (.ret (.bool true))∧OldK s₁.heap s'.heap∧s'.os=s₁.os∧AllBare s'.gens) s₁) :
  WalkO q loose XP YP l.row.toRowW d [] (λf vs=>PySem.call f vs):=by
 intro w s₀ s₁ mg mb G Y fa o pm cd doc dV kV ho hd hcd hD hmg hg args vals as hpre hlay hrd hwl hlo
 obtain rfl:dV=.none:=Dflts.none hD hdf
 obtain rfl:kV=.none:=Dflts.noKw hD
 obtain⟨a,vs,ns,rfl,rfl,hobj,hints,hlen⟩:=zmp hn hpre hwl
 refine enter_call (codeAny_mono (call w s₀ s₁ mg mb fa o pm cd doc a vs ns G Y ho (fd_plain hd) hcd hmg hobj hints hlen hg) λr s' hq=>?_)
 obtain⟨rfl,h2,h3,h4⟩:=hq
 exact⟨.inl ⟨.bool true,.bool true,[],rfl,λ_=>rfl,.bool true,zmq l _,λ_=>⟨List.Pairwise.nil,λ_ hm=>(nomatch hm)⟩⟩,h2,h3,h4⟩
section
variable {prog:Program}{w:World}{A:Around}{E:Value→Shared→Prop}{s:Shared}{K:Frag}

end
end Att

namespace L2
open PySem PySem.Spec PyProof.Rows

theorem ziT:∀ {vs:List Value}{ns:List Int},IntsAre vs ns→Vals (ns.map V.int) vs
 | _,_,.nil=>.nil
 | _,_,.cons n t h=>.cons ⟨t,rfl⟩ (ziT h)
def Only (H:Hp):Prop:=∀ b,H b=none∨∃ o xs,H b=some (.frz o (.lst xs))
theorem znR {P:Program}{w:World}{K:Fg}{mg mb:Str→Option Value}{CX:CXT}{k:Nat}{fa a:Addr}{fd:FuncData}{x:Str}{sp:Sp}{s₁:Shared}{vs:List Value}{ns:List Int}
  (KX:K.In s₁.heap) (hns:s₁.heap.Ns mainGlobals mg) (hb:s₁.heap.Ns builtinsNs mb) (hbb:∀ x:Str,x≠ "__name__" →mb x=bootBuiltins x) (hlim:s₁.heap.NoLimit) (hg:s₁.gens=#[])
  (ha:s₁.heap.get? a=some {cls:=.type "list",data:=.seq vs.toArray}) (hi:IntsAre vs ns) (hl:ns.length≤sizeLine) (hr:Room k callerA)
  (F:∀ base:Heap,K.In base→base.Ns mainGlobals mg→FnOk P w K mg base CX k fa fd [x] sp) (hbind:∀ (s:Shared) (u:Value),BindsTo s fd ⟨[u],[]⟩ [(x,u)])
  (hsp:∀ H:Hp,Only H→SqL K H a (ns.map V.int)→sp [.ref a] H (λv _=>v=.bl true) λ_ _ _=>False)
  (hCX:∀ H e s',CX [] H s₁ (λ_ _ _=>False) e s'→False) :
  codeAny (model P w) callerA (.call (.ref fa) ⟨[.ref a],[]⟩) (λr s'=>r=.ok (.ret (.bool true))∧OldK s₁.heap s'.heap∧s'.os=s₁.os∧AllBare s'.gens) s₁:=by
 have rv:=ziT hi
 have lenV:=hi.length
 -- from an abstract heap in which nothing but the script may be tracked
 have core:∀ H:Hp,Only H→SqL K H a (ns.map V.int)→HOk P w H s₁.heap→(∀ b,H b≠none→b=a)→(H a≠none→K.lookup a=none)→
   codeAny (model P w) callerA (.call (.ref fa) ⟨[.ref a],[]⟩) (λr s'=>r=.ok (.ret (.bool true))∧OldK s₁.heap s'.heap∧s'.os=s₁.os∧AllBare s'.gens) s₁:=by
  intro H hO hS hok hA hK
  have base_of:∀ {b:Addr}{o:Obj},s₁.heap.get? b=some o→H b=none→(hidT s₁.heap H).get? b=some o:=λe n=>znA e n
  have noA:∀ {b:Addr}{o:Obj}{es:Array DictEntry}{ep:Nat},s₁.heap.get? b=some o→o.data=.dict es ep→H b=none:=λ{b o es ep} e d=>by
   cases q:H b with
   | none=>rfl
   | some u=>
    have e':b=a:=hA b (by rw[q];simp)
    subst e'
    rw[ha] at e;cases e
    have d':Data.seq vs.toArray _=Data.dict es ep:=d
    cases d'
  have nsK:∀ {b:Addr}{m:Str→Option Value},s₁.heap.Ns b m→(hidT s₁.heap H).Ns b m:=λ{b m} ⟨o,es,ep,e,d,r⟩=>⟨o,es,ep,base_of e (noA e d),d,r⟩
  have hKb:K.In (hidT s₁.heap H):=λb o e=>base_of (KX b o e) (by
   cases q:H b with
   | none=>rfl
   | some u=>
    have e':b=a:=hA b (by rw[q];simp)
    subst e'
    rw[hK (by rw[q];simp)] at e;cases e)
  have hM:Mod K mg (hidT s₁.heap H):=⟨hKb,nsK hns,⟨mb,nsK hb,hbb⟩,let ⟨mc,h1,h2⟩:=hlim;⟨mc,nsK h1,h2⟩⟩
  have e0:Env0 P w K mg (hidT s₁.heap H) callerA [] s₁ H:=⟨rfl,hM,λb o e=>zo8 e,Nat.le_of_eq (zlN _ _),trivial,λb hb=>absurd (show b∈([]:List Addr) from hb) (by simp),hok,.of_eq hg⟩
  refine codeAny_mono ((F _ hKb (nsK hns)).run callerA [] s₁ H ⟨[.ref a],[]⟩ [.ref a] [.ref a] _ _ hr e0 (hbind s₁ (.ref a)) (.cons rfl .nil) (hsp H hO hS)) λr s' h=>?_
  cases r with
  | error e=>exact (hCX H e s' h).elim
  | ok fl=>
   cases fl with
   | next=>exact False.elim h
   | brk=>exact False.elim h
   | cont=>exact False.elim h
   | ret u=>
    obtain⟨v,H',os,bare,un,hok',r',q⟩:=h
    have q':v=.bl true:=q
    subst q'
    obtain rfl:u=Value.bool true:=r'
    refine⟨rfl,OldK.of_keep λb o e=>?_,os,bare⟩
    cases q:H b with
    | none=>exact un.keep b o e q (by intro z;exact absurd (show b∈([]:List Addr) from z) (by simp)) (by simp)
    | some u=>
     rcases hO b with z | ⟨ob,xs,z⟩
     ·rw[q] at z;cases z
     ·have z2:=un.frzs b ob _ z
      obtain⟨e1,_⟩:=hok b _ z
      obtain⟨e2,_⟩:=hok' b _ z2
      rw[e] at e1;cases e1
      exact e2
 cases hk:K.lookup a with
 | some o=>
  -- the script is one of the module's own objects
  have e:=KX a o hk
  rw[ha] at e
  cases e
  refine core (λ_=>none) (λ_=>.inl rfl) (.inr ⟨_,vs.toArray,_,hk,rfl,rfl,rfl,by rw[zst,lenV];exact hl,by simpa using rv⟩) (λb u z=>by have z':(none:Option HO)=some u:=z;cases z') (λb z=>absurd rfl z) λz=>absurd rfl z
 | none=>
  refine core (λb=>if b=a then some (.frz {cls:=.type "list",data:=.seq vs.toArray} (.lst (ns.map V.int))) else none) (λb=>?_) (.inl (.inr ⟨{cls:=.type "list",data:=.seq vs.toArray},if_pos rfl⟩)) (λb u z=>?_) (λb z=>?_) λ_=>hk
  ·by_cases hb:b=a
   ·exact .inr ⟨_,_,if_pos hb⟩
   ·exact .inl (if_neg hb)
  ·by_cases hb:b=a
   ·have z':=(if_pos hb).symm.trans z
    cases z'
    subst hb
    exact⟨ha,by rw[zlm];exact hl,vs,_,rv,ha⟩
   ·have z':=(if_neg hb).symm.trans z
    cases z'
  ·by_cases hb:b=a
   ·exact hb
   ·exact absurd (if_neg hb) z
end L2

namespace L2
open PySem PySem.Spec PyProof.Rows

end L2



namespace L2
open PySem PySem.Spec PyProof.Rows


abbrev CX0:CXT:=λ_ _ _ _ _ _=>False
abbrev E0:XK:=λ_ _ _=>False
theorem zfV {X:Cx} : zeh CX0 X E0:=λ_ _ _ _ _ _ _ h=>h.elim
structure Fun (K:Fg) (x qual:Str) (st:Stmt) (f:Addr) (fd:FuncData):Prop where
 ex:∃ (oc:Value) (od:Option Addr) (kV doc pm:Value) (an:Option Addr) (cdv ct:Value) (osl:Array (Option Value)),
  fd=PySem.W.fnOf x qual (zdU st) (zcY st) (zai st) .none kV doc pm an cdv ct∧K.lookup f=some ⟨oc,od,.func fd,osl⟩∧PySem.W.codeIn K cdv qual=true
 kp:PySem.W.keepIn K (.ref f)=true
section
variable {P:Program}{w:World}{K:Fg}{mg:Str→Option Value}{base:Heap}
theorem Fun.ok {x qual:Str}{st:Stmt}{f:Addr}{fd:FuncData}{N ps:List Str}{k:Nat}{sp:Sp}(F:Fun K x qual st f fd) (S:FSc N ps (zai st)) (len:∀ vs H Q E,sp vs H Q E→vs.length=ps.length)
  (hbody:∀ (cdv:Value) (A:Around) (outer:List Env) (s:Shared) (H:Hp) (vs:List V) (Q:VK) (E:XK),Room k (A.deeper (envOfC qual (zai st) s.heap.objs.size f cdv))→sp vs H Q E→
   ∃ t,PSs (cxOf CX0 P w K mg base N qual (zai st) f cdv A outer s H E).nox (zcY st) t∧t {nx:=λ_ H'=>Q .non H',rt:=Q} (start N vs) H):FnOk P w K mg base CX0 (k+1) f fd ps sp:=by
 obtain⟨oc,od,kV,doc,pm,an,cdv,ct,osl,rfl,lk,hcd⟩:=F.ex
 refine zqt lk hcd S len λA outer s H vs Q E hr hsp=>?_
 obtain⟨t,h,q⟩:=hbody cdv A outer s H vs Q E hr hsp
 exact⟨t,h.nox,q⟩
theorem Fun.binds {x qual:Str}{st:Stmt}{f:Addr}{fd:FuncData}{ps:List Str}(F:Fun K x qual st f fd)
  (h:∀ (kV doc pm:Value) (an:Option Addr) (cdv ct:Value) (us:List Value),us.length=ps.length→bindArgs (PySem.W.fnOf x qual (zdU st) (zcY st) (zai st) .none kV doc pm an cdv ct) ⟨us,[]⟩=pure (ps.zip us)):zfv K fd ps []:=by
 obtain⟨oc,od,kV,doc,pm,an,cdv,ct,osl,rfl,lk,hcd⟩:=F.ex
 exact .all (h kV doc pm an cdv ct)
theorem zoQ {x qual:Str}{st:Stmt}{f:Addr}{oc:Value}{od an:Option Addr}{osl:Array (Option Value)}{kV doc pm cdv ct:Value}(l:K.lookup f=some ⟨oc,od,.func (PySem.W.fnOf x qual (zdU st) (zcY st) (zai st) .none kV doc pm an cdv ct),osl⟩)
  (c:PySem.W.codeIn K cdv qual=true) (k:PySem.W.keepIn K (.ref f)=true):Fun K x qual st f (PySem.W.fnOf x qual (zdU st) (zcY st) (zai st) .none kV doc pm an cdv ct):=⟨⟨oc,od,kV,doc,pm,an,cdv,ct,osl,rfl,l,c⟩,k⟩
end
theorem zbs {n:Nat}(h:n≤1000):n<sizeLine:=Nat.lt_of_le_of_lt h (by decide)
section
variable {X:Cx}
theorem pv (i:Nat) {x:Str}{pos:Pos}(hN:X.N[i]?=some x:=by rfl) (hv:Vis X.env.scope x:=by first | exact Or.inl rfl | exact Or.inr (Or.inl rfl) | exact Or.inr (Or.inr rfl)) (hd:(x == ("__debug__" : Str))=false:=by decide)
  (hcd:(x == ("__classdict__" : Str))=false:=by decide):PE X (.Name x pos) (tVar i):=zqg hN hv hd hcd
end

theorem iteF {A B:Prop}(h:B):if false=true then A else B:=by
 rw[if_neg Bool.false_ne_true]
 exact h
theorem iteT {A B:Prop}(h:A):if true=true then A else B:=by
 rw[if_pos rfl]
 exact h
theorem ite2 {c A B:Prop} [Decidable c] (h1:c→A) (h2:¬ c→B):if c then A else B:=by
 by_cases h:c
 ·rw[if_pos h]
  exact h1 h
 ·rw[if_neg h]
  exact h2 h
def Same (H H':Hp):Prop:=∀ b o,H b=some o→H' b=some o
theorem Same.refl (H:Hp):Same H H:=λ_ _ h=>h
theorem Same.trans {H H1 H2:Hp}(a:Same H H1) (b:Same H1 H2):Same H H2:=λc o h=>b c o (a c o h)
theorem Same.free {H H':Hp}(e:Same H H') {l:Addr}(h:H' l=Option.none):H l=Option.none:=by
 cases q:H l with
 | none=>rfl
 | some o=>
  rw[e l o q] at h
  cases h
theorem Same.seq {K:Fg}{H H':Hp}{a:Addr}{xs:List V}(e:Same H H') (h:SqL K H a xs):SqL K H' a xs:=by
 rcases h with (h | ⟨o,h⟩) | h
 ·exact .inl (.inl (e _ _ h))
 ·exact .inl (.inr ⟨o,e _ _ h⟩)
 ·exact .inr h
section
variable {κ:Type} [DecidableEq κ]
theorem znS {kvs:List (κ × V)}{k:κ}(h:valV kvs k=none):¬ k∈kvs.map (·.1):=by
 intro m
 obtain⟨p,hp,e⟩:=zmm.mp m
 have q:(kvs.any λkv=>decide (kv.1=k))=true:=List.any_eq_true.mpr ⟨p,hp,decide_eq_true e⟩
 rw[zdt,h] at q
 exact absurd q (by simp)
theorem zmr {kvs:List (κ × V)}{k:κ}{v:V}(h:valV kvs k=some v):k∈kvs.map (·.1):=by
 have q:(kvs.any λkv=>decide (kv.1=k))=true:=by
  rw[zdt,h]
  all_goals rfl
 obtain⟨p,hp,e⟩:=List.any_eq_true.mp q
 exact zmm.mpr ⟨p,hp,of_decide_eq_true e⟩
theorem zj1:∀ {l:List κ}{k:κ},l.Nodup→¬ k∈l→(l++[k]).Nodup
 | [],k,_,_=>by simp
 | a::r,k,h,hk=>by
  obtain⟨h1,h2⟩:=List.nodup_cons.mp h
  show (a::(r++[k])).Nodup
  refine List.nodup_cons.mpr ⟨λm=>?_,zj1 h2 λm=>hk (List.mem_cons.mpr (Or.inr m))⟩
  rcases zma.mp m with q | q
  ·exact h1 q
  ·exact hk (List.mem_cons.mpr (Or.inl (zms.mp q).symm))
theorem zmt {p:κ × V}{r:List (κ × V)}{k:κ}(e:p.1=k):zdm (p::r) k=zdm r k:=by
 unfold zdm
 rw[List.filter_cons,if_neg (by simp[e])]
theorem zmu {p:κ × V}{r:List (κ × V)}{k:κ}(e:¬ p.1=k):zdm (p::r) k=p::zdm r k:=by
 unfold zdm
 rw[List.filter_cons,if_pos (by simp[e])]
end
end L2

namespace L2
open PySem PySem.Spec PyProof.Rows

def zdK:List Bool→St→St
 | [],_=>[]
 | _::ms,[]=>none::zdK ms []
 | b::ms,v::σ=>(if b=true then none else v)::zdK ms σ
theorem zdv:∀ (ms:List Bool) (σ:St),(zdK ms σ).length=ms.length
 | [],_=>rfl
 | _::ms,[]=>by simp[zdK,zdv ms []]
 | _::ms,_::σ=>by simp[zdK,zdv ms σ]
theorem zgv:∀ {ms:List Bool}{σ:St}{i:Nat}{v:V},(zdK ms σ)[i]?=some (some v)→ms[i]?=some false∧σ[i]?=some (some v)
 | [],_,_,_,h=>by simp[zdK] at h
 | b::ms,[],0,v,h=>by simp[zdK] at h
 | b::ms,[],i+1,v,h=>by
  have q:=zgv (ms:=ms) (σ:=[]) (i:=i) (v:=v) (by simpa [zdK] using h)
  simp at q
 | b::ms,u::σ,0,v,h=>by
  cases b with
  | true=>simp[zdK] at h
  | false=>simp[zdK] at h;simp[h]
 | b::ms,u::σ,i+1,v,h=>by
  have q:=zgv (ms:=ms) (σ:=σ) (i:=i) (v:=v) (by simpa [zdK] using h)
  simpa using q
def zdf (env:Env):List (Str × NameKind)→List (Str × Addr)→List (Str × Addr)
 | [],cs=>cs
 | (n,k)::r,cs=>zdf env r (if k=.free then (match env.cells.lookup n with | some c=>(n,c)::cs | none=>cs) else cs)
theorem ziU {env:Env} : ∀ (names:List (Str × NameKind)) (cs:List (Str × Addr)),(∀ x c,cs.lookup x=some c→env.cells.lookup x=some c)→
  ∀ x c,(zdf env names cs).lookup x=some c→env.cells.lookup x=some c
 | [],cs,h,x,c,e=>h x c e
 | (n,k)::r,cs,h,x,c,e=>by
  refine ziU r _ (λy d q=>?_) x c e
  by_cases hk:k=.free
  ·rw[if_pos hk] at q
   cases hn:env.cells.lookup n with
   | none=>rw[hn] at q;exact h y d q
   | some a=>
    rw[hn] at q
    simp only[List.lookup_cons] at q
    cases hy:y == n with
    | true=>
     rw[hy] at q
     have:y=n:=by simpa using hy
     subst this
     rw[hn];exact q
    | false=>rw[hy] at q;exact h y d q
  ·rw[if_neg hk] at q;exact h y d q
theorem zgw {env:Env} : ∀ (names:List (Str × NameKind)) (cs:List (Str × Addr)) (x:Str),(∀ p∈names,p.2=.free→∃ c,env.cells.lookup p.1=some c)→
  ((x,NameKind.free)∈names∨∃ c,cs.lookup x=some c)→∃ c,(zdf env names cs).lookup x=some c
 | [],cs,x,_,h=>by
  rcases h with h | h
  ·cases h
  ·exact h
 | (n,k)::r,cs,x,hf,h=>by
  refine zgw r _ x (λp hp=>hf p (List.mem_cons_of_mem _ hp)) ?_
  by_cases hk:k=.free
  ·obtain⟨c,hc⟩:=hf (n,k) List.mem_cons_self hk
   simp only at hc
   rw[if_pos hk,hc]
   rcases h with h | ⟨d,hd⟩
   ·rcases List.mem_cons.mp h with e | e
    ·cases e
     exact .inr ⟨c,by simp⟩
    ·exact .inl e
   ·refine .inr ?_
    simp only[List.lookup_cons]
    cases hy:x == n with
    | true=>exact⟨c,rfl⟩
    | false=>exact⟨d,hd⟩
  ·rw[if_neg hk]
   rcases h with h | h
   ·rcases List.mem_cons.mp h with e | e
    ·cases e;exact absurd rfl hk
    ·exact .inl e
   ·exact .inr h
theorem zgx {env:Env}{f:Str × NameKind→List (Str × Addr)→Sem (ForInStep (List (Str × Addr)))}(h1:∀ n c cs,env.cells.lookup n=some c→f (n,.free) cs=pure (.yield ((n,c)::cs)))
  (h2:∀ n k cs,k≠NameKind.free→f (n,k) cs=pure (.yield cs)) :
  ∀ (names:List (Str × NameKind)) (cs:List (Str × Addr)),(∀ p∈names,p.2=.free→∃ c,env.cells.lookup p.1=some c)→forIn names cs f=pure (zdf env names cs)
 | [],cs,_=>rfl
 | (n,k)::r,cs,hf=>by
  rw[List.forIn_cons]
  by_cases hk:k=.free
  ·subst hk
   obtain⟨c,hc⟩:=hf (n,.free) List.mem_cons_self rfl
   simp only at hc
   rw[h1 n c cs hc]
   show forIn r ((n,c)::cs) f=_
   rw[zgx h1 h2 r _ λp hp=>hf p (List.mem_cons_of_mem _ hp)]
   simp[zdf,hc]
  ·rw[h2 n k cs hk]
   show forIn r cs f=_
   rw[zgx h1 h2 r _ λp hp=>hf p (List.mem_cons_of_mem _ hp)]
   simp[zdf,hk]
theorem zmv {scope:Scope}{env:Env}(hf:∀ p∈scope.names,p.2=.free→∃ c,env.cells.lookup p.1=some c):closureFor scope env=pure (zdf env scope.names []):=by
 simp only[closureFor]
 rw[zgx (env:=env) (λn c cs hc=>?_) (λn k cs hk=>?_) scope.names [] hf]
 ·rfl
 ·simp[cellOf,hc]
 ·have:(k == NameKind.free)=false:=by simpa using hk
  simp[this]
theorem zfL (env:Env) (x:Str):∀ (names:List (Str × NameKind)),(names.map λ(p:Str × NameKind)=>match p with
   | (n,k)=>if (k == NameKind.free && env.scope.kind == .function && env.kindOf n == some .cell)=true then (n,NameKind.cell) else (n,k)).lookup x =
  (names.lookup x).map λk=>if (k == NameKind.free && env.scope.kind == .function && env.kindOf x == some .cell)=true then NameKind.cell else k
 | []=>rfl
 | (n,k)::r=>by
  have ih:=zfL env x r
  rw[zmc]
  by_cases hc:(k == NameKind.free && env.scope.kind == .function && env.kindOf n == some .cell)=true
  ·simp only[if_pos hc,List.lookup_cons]
   cases hx:x == n with
   | true=>
    have:x=n:=by simpa using hx
    subst this
    exact (congrArg some (if_pos hc)).symm
   | false=>exact ih
  ·simp only[if_neg hc,List.lookup_cons]
   cases hx:x == n with
   | true=>
    have:x=n:=by simpa using hx
    subst this
    exact (congrArg some (if_neg hc)).symm
   | false=>exact ih
theorem zeJ (scope:Scope) (env:Env) (x:Str):(relabel scope env).names.lookup x =
  (scope.names.lookup x).map λk=>if (k == NameKind.free && env.scope.kind == .function && env.kindOf x == some .cell)=true then NameKind.cell else k:=zfL env x scope.names
structure COk (sc0:Scope) (N:List Str) (scope:Scope) (N':List Str) (ms:List Bool):Prop where
 kind:scope.kind=.function
 nocell:∀ y∈scope.names,y.2≠.cell
 nm:∀ y∈scope.names,y.2=.local→scope.names.lookup y.1=some .local
 fr:∀ y∈scope.names,y.2=.free→sc0.names.lookup y.1=some .cell∨sc0.names.lookup y.1=some .free
 len:ms.length=N'.length
 own:∀ (i:Nat) (x:Str),N'[i]?=some x→ms[i]?=some false→scope.names.lookup x≠some .local
 out:∀ (i:Nat) (x:Str),N'[i]?=some x→ms[i]?=some false→scope.names.lookup x=some .free→N[i]?=some x
def zgy (N:List Str) (scope:Scope):List Str→List Bool→List (Option Str)→Bool
 | x::N',false::ms,o=>(scope.names.lookup x != some .local) && (scope.names.lookup x != some .free || o.head? == some (some x)) && zgy N scope N' ms o.tail
 | _::N',true::ms,o=>zgy N scope N' ms o.tail
 | _,_,_=>true
theorem zeD {N:List Str}{scope:Scope} : ∀ (N':List Str) (ms:List Bool) (o:List (Option Str)),zgy N scope N' ms o=true→∀ (i:Nat) (x:Str),N'[i]?=some x→ms[i]?=some false→
  scope.names.lookup x≠some .local∧(scope.names.lookup x=some .free→o[i]?=some (some x))
 | [],_,_,_,i,x,e,_=>by simp at e
 | _::_,[],_,_,i,x,_,e=>by simp at e
 | y::N',false::ms,o,h,i,x,e1,e2=>by
  simp only[zgy,Bool.and_eq_true,bne_iff_ne,ne_eq,Bool.or_eq_true,beq_iff_eq] at h
  cases i with
  | zero=>
   simp at e1;subst e1
   refine⟨h.1.1,λq=>?_⟩
   rcases h.1.2 with z | z
   ·exact absurd q z
   ·cases o with
    | nil=>simp at z
    | cons a r=>simpa using z
  | succ i=>
   have q:=zeD N' ms o.tail h.2 i x (by simpa using e1) (by simpa using e2)
   refine⟨q.1,λz=>?_⟩
   have:=q.2 z
   cases o with
   | nil=>simp at this
   | cons a r=>simpa using this
 | y::N',true::ms,o,h,i,x,e1,e2=>by
  simp only[zgy] at h
  cases i with
  | zero=>simp at e2
  | succ i=>
   have q:=zeD N' ms o.tail h i x (by simpa using e1) (by simpa using e2)
   refine⟨q.1,λz=>?_⟩
   have:=q.2 z
   cases o with
   | nil=>simp at this
   | cons a r=>simpa using this
theorem COk.mk' {sc0:Scope}{N:List Str}{scope:Scope}{N':List Str}{ms:List Bool}(kind:scope.kind=.function) (nocell:∀ y∈scope.names,y.2≠.cell)
  (nm:∀ y∈scope.names,y.2=.local→scope.names.lookup y.1=some .local) (fr:∀ y∈scope.names,y.2=.free→sc0.names.lookup y.1=some .cell∨sc0.names.lookup y.1=some .free)
  (len:ms.length=N'.length) (sl:zgy N scope N' ms (N.map some)=true):COk sc0 N scope N' ms:=
 ⟨kind,nocell,nm,fr,len,λi x e1 e2=>(zeD N' ms _ sl i x e1 e2).1,λi x e1 e2 e3=>by
  have q:=(zeD N' ms _ sl i x e1 e2).2 e3
  rw[zgm] at q
  cases h:N[i]? with
  | none=>rw[h] at q;cases q
  | some a=>rw[h] at q;simpa using q⟩
def zb2 (X:Cx) (N':List Str) (scope:Scope) (cl:List (Str × Addr)) (C:Addr) (fp:List Addr) (s3:Shared) (H3:Hp):Cx where
 prog:=X.prog
 w:=X.w
 K:=X.K
 mg:=X.mg
 base:=X.base
 A:=X.A
 N:=N'
 s₀:=s3
 H₀:=H3
 env:=compEnvC scope cl C X.env
 outer:=X.stack
 stack:=X.stack
 ex:=fp
 fn:=λ_=>false
 calm:=X.calm
 pn:=[]
 xe:=λ_ _=>False
section
variable {X:Cx}{pins:List (Addr × Obj)}{σ:St}{H:Hp}{N':List Str}{scope:Scope}{ms:List Bool}{fp:List Addr}

theorem COk.cells (ok:COk X.env.scope X.N scope N' ms) (k:X.Ok):∀ p∈scope.names,p.2=.free→∃ c,X.env.cells.lookup p.1=some c:=λp hp e=>k.has p.1 (ok.fr p hp e)
theorem zhE {x:Str}{c:Addr}(e:(zdf X.env scope.names []).lookup x=some c):X.env.cells.lookup x=some c:=ziU _ [] (λ_ _ q=>by cases q) x c e
theorem COk.kinds (ok:COk X.env.scope X.N scope N' ms) {x:Str}(h:(relabel scope X.env).names.lookup x=some .cell∨(relabel scope X.env).names.lookup x=some .free):scope.names.lookup x=some .free:=by
 rw[zeJ] at h
 cases e:scope.names.lookup x with
 | none=>rw[e] at h;rcases h with h | h <;> cases h
 | some k=>
  rw[e] at h
  simp only[Option.map_some,Option.some.injEq] at h
  by_cases hk:k=.free
  ·rw[hk]
  ·have hb:(k == NameKind.free)=false:=by simpa using hk
   simp only[hb,Bool.false_and,Bool.false_eq_true,if_false] at h
   rcases h with h | h
   ·exact absurd h (ok.nocell _ (PySem.mem_of_lookup e))
   ·exact absurd h hk
theorem COk.locals (ok:COk X.env.scope X.N scope N' ms) {x:Str}(h:(relabel scope X.env).names.lookup x=some .local):scope.names.lookup x=some .local:=by
 rw[zeJ] at h
 cases e:scope.names.lookup x with
 | none=>rw[e] at h;cases h
 | some k=>
  rw[e] at h
  simp only[Option.map_some,Option.some.injEq] at h
  split at h
  ·cases h
  ·rw[h]
theorem zpt {s3:Shared}(ok:COk X.env.scope X.N scope N' ms) (I:Inv X pins σ H s3) (hf:∀ b∈fp,FpOk X pins H b∧b<s3.heap.objs.size) :
  (zb2 X N' scope (zdf X.env scope.names []) s3.heap.objs.size fp s3 H).Ok where
 mod:=I.ok.mod
 kind:=ok.kind
 glob:=I.ok.glob
 blt:=I.ok.blt
 above:=Nat.le_refl _
 inj:=λx y c h1 h2=>I.ok.inj x y c (zhE h1) (zhE h2)
 has:=λx hx=>by
  have q:=ok.kinds hx
  exact zgw _ [] x (ok.cells I.ok) (.inl (PySem.mem_of_lookup q))
 cab:=λx c h=>by cases h
 hd:=I.ok.hd
 frames:=I.ok.frames
 stk:=.inl rfl
 exf:=λb hb=>⟨Nat.ne_of_lt (hf b hb).2,λx c e=>(hf b hb).1.2.2.2.2.1 x c (zhE e)⟩
 bs:=λb o e=>I.bs b o e
 bsz:=Nat.le_trans I.ok.bsz I.sz
 noex:=λb o e hb=>by
  rcases (hf b hb).1.2.2.2.1 with z | z
  ·exact I.ok.noex b o e z
  ·exact absurd (Nat.lt_of_lt_of_le (Nat.lt_of_lt_of_le (Heap.lt_size e) I.ok.bsz) z) (Nat.lt_irrefl _)
 exfs:=λb hb z=>by
  rcases List.mem_cons.mp (I.stkSub b z) with e | e
  ·exact (hf b hb).1.2.1 e
  ·exact (hf b hb).1.2.2.1 e
 funs:=I.stack
 frf:=I.stkFree
theorem zkL {h':Heap}{s5:Shared}{C:Addr}{m:Str→Option Value}(ok:COk X.env.scope X.N scope N' ms) (I:Inv X pins σ H s5) (hk:∀ b o,s5.heap.get? b=some o→h'.get? b=some o) :
  ∀ (i:Nat) (x:Str) (v:V),N'[i]?=some x→(zdK ms σ)[i]?=some (some v)→Vis (relabel scope X.env) x→∃ u,RelV v u∧Look (compEnvC scope (zdf X.env scope.names []) C X.env) h' m x u:=by
 intro i x v e1 e2 e3
 obtain⟨em,ev⟩:=zgv e2
 rcases e3 with e3 | e3
 ·exact absurd (ok.locals e3) (ok.own i x e1 em)
 ·have q:=ok.kinds e3
  have en:=ok.out i x e1 em q
  have fr:=ok.fr _ (PySem.mem_of_lookup q) rfl
  obtain⟨m0,_,hl⟩:=I.loc
  obtain⟨u,r,l⟩:=hl i x v en ev (.inr fr)
  refine⟨u,r,?_⟩
  rcases l with ⟨k,_⟩ | ⟨k,c,e,o,ho,hd⟩
  ·have k':X.env.scope.names.lookup x=some .local:=k
   rcases fr with fr | fr
   ·have fr':X.env.scope.names.lookup x=some .cell:=fr
    rw[fr'] at k';cases k'
   ·have fr':X.env.scope.names.lookup x=some .free:=fr
    rw[fr'] at k';cases k'
  ·obtain⟨c',hc'⟩:=zgw _ [] x (ok.cells I.ok) (.inl (PySem.mem_of_lookup q))
   have z:=zhE hc'
   rw[e] at z;cases z
   exact .inr ⟨e3,c,hc',o,hk c o ho,hd⟩
theorem zlo {s3:Shared}{h4:Heap}{tk:Nat}{m:Str→Option Value}(ok:COk X.env.scope X.N scope N' ms) (I:Inv X pins σ H s3) (hf:∀ b∈fp,FpOk X pins H b∧b<s3.heap.objs.size)
  (hn:h4.Ns s3.heap.objs.size m) (hk:∀ b o,s3.heap.get? b=some o→h4.get? b=some o) :
  Inv (zb2 X N' scope (zdf X.env scope.names []) s3.heap.objs.size fp s3 H) [] (zdK ms σ) H {s3 with heap:=h4,toks:=tk} where
 ok:=zpt ok I hf
 os:=rfl
 bare:=I.bare
 base:=Un.kept hk
 loc:=⟨m,hn,zkL ok I hk⟩
 cell:=λx c e=>by
  obtain⟨v,o,ho,hd⟩:=I.cell x c (zhE e)
  exact⟨v,o,hk c o ho,hd⟩
 free:=I.hok.fresh (Nat.le_refl _)
 freeC:=λx c e=>I.freeC x c (zhE e)
 pin:=λp hp=>absurd (show p∈([]:List (Addr × Obj)) from hp) (by simp)
 hok:=I.hok.kept hk
 len:=by rw[zdv,ok.len];rfl
theorem ziV {pins':List (Addr × Obj)}{σ':St}{H':Hp}{s3 s':Shared}{cl:List (Str × Addr)}{C:Addr}(I:Inv X pins σ H s3) (hf:∀ b∈fp,FpOk X pins H b∧b<s3.heap.objs.size)
  (J:Inv (zb2 X N' scope cl C fp s3 H) pins' σ' H' s'):Inv X pins σ H' s':=
 I.call' J.os J.base J.hok J.bare λb hb=>by
  obtain⟨_,f1,_,f3,f4,f5⟩:=(hf b hb).1
  exact⟨f3,f1,f4,f5⟩
theorem zlp {pins':List (Addr × Obj)}{σ':St}{H':Hp}{s3 s':Shared}(ok:COk X.env.scope X.N scope N' ms) (I:Inv X pins σ H s3) (hf:∀ b∈fp,FpOk X pins H b∧b<s3.heap.objs.size)
  (J:Inv (zb2 X N' scope (zdf X.env scope.names []) s3.heap.objs.size fp s3 H) pins' σ' H' s'):Inv (zb2 X N' scope (zdf X.env scope.names []) s3.heap.objs.size fp s3 H) [] (zdK ms σ) H' s' where
 ok:=J.ok
 os:=J.os
 bare:=J.bare
 base:=J.base
 loc:=by
  obtain⟨m,hn,_⟩:=J.loc
  exact⟨m,hn,zkL ok (ziV I hf J) λ_ _ e=>e⟩
 cell:=J.cell
 free:=J.free
 freeC:=J.freeC
 pin:=λp hp=>absurd (show p∈([]:List (Addr × Obj)) from hp) (by simp)
 hok:=J.hok
 len:=by rw[zdv,ok.len];rfl
end

def PIfs (X:Cx) (ifs:List Expr) (t:TT):Prop:=
 ∀ (pins:List (Addr × Obj)) (s:Shared) (σ:St) (H:Hp) (Q:Bool→Hp→Prop),Inv X pins σ H s→t σ H Q→
  wpAny (model X.prog X.w) X.A (forIn ifs true λc r=>if r=true then do let ok ←isTrue c X.env (eval c X.env);pure (ForInStep.yield ok) else pure (ForInStep.yield r)) (TP X pins σ Q) X.xe s
def zpu:TT:=λ_ H Q=>Q true H
theorem zaG {X:Cx} : PIfs X [] zpu:=λ_ _ _ H _ I h=>wpAny_tests_nil ⟨H,I,h⟩
theorem zkM {X:Cx}{c:Expr}{t:TT}(h:PT X c t):PIfs X [c] t:=λpins s σ H Q I q=>wpAny_tests_one (h pins s σ H Q I q)
theorem zmw {prog:Program}{w:World}{A:Around}{R:Result→Shared→Prop}{s:Shared}{elt target iter:Expr}{ifs:List Expr}{scope:Scope}{pos:Pos}{it acc:Value}{env:Env}(I:Nat→Shared→Prop)
  (turn:∀ n s (E:Value→Shared→Prop),I n s→wpAny (model prog w) A (pyNext it) (λr s1=>match r with
   | none=>R (.ok .next) s1
   | some v=>wpAny (model prog w) A (letOwnedTupleGo target it v) (λ_ s2=>wpAny (model prog w) A (assign target env v) (λ_ s3=>
     wpAny (model prog w) A (forIn ifs true λc r=>if r=true then do let ok ←isTrue c env (eval c env);pure (ForInStep.yield ok) else pure (ForInStep.yield r)) (λok s4=>
      if ok=true then wpAny (model prog w) A (eval elt env) (λx s5=>wpAny (model prog w) A (call (.builtin "list.append") [acc,x]) (λ_ s6=>∃ m,m<n∧I m s6) E s5) E s4
      else ∃ m,m<n∧I m s4) E s3) E s2) E s1) E s)
  (n:Nat) (h:I n s):codeAny (model prog w) A (.compLoop (.ListComp elt [⟨target,iter,ifs,0⟩] scope pos) 0 it acc env) R s:=by
 refine codeAny_loop rfl I (λn s hI=>?_) n h
 refine wpAny_noted (env:=env) ?_
 rw[compTurn_list]
 refine wpAny_bind (wpAny_standAt (wpAny_bind ?_))
 refine wpAny_mono (turn n s _ hI) (λr s1 h1=>?_) λ_ _ e=>e
 cases r with
 | none=>exact wpAny_pure h1
 | some v=>
  refine wpAny_bind (wpAny_mono h1 (λ_ s2 h2=>?_) λ_ _ e=>e)
  refine wpAny_bind (wpAny_mono h2 (λ_ s3 h3=>?_) λ_ _ e=>e)
  refine wpAny_bind (wpAny_mono h3 (λok s4 h4=>?_) λ_ _ e=>e)
  cases ok with
  | false=>exact wpAny_pure ⟨rfl,h4⟩
  | true=>
   refine wpAny_bind (wpAny_bind (wpAny_mono h4 (λx s5 h5=>?_) λ_ _ e=>e))
   exact wpAny_bind (wpAny_mono h5 (λ_ s6 h6=>wpAny_pure (wpAny_pure ⟨rfl,h6⟩)) λ_ _ e=>e)
def znT (ms:List Bool) (wi:TI) (g:TG) (tt:TT) (te:TE):TE:=λσ H Q=>wi σ H λJ H1=>∀ D,H1 D=none→
 ∃ W:Nat→Nat→List V→Hp→Prop,(∃ m,W 0 m [] (upd H1 D (.lst [])))∧∀ i m ys H,W i m ys H→H D=some (.lst ys)∧
  ((J.stop i H∧Q (.ref D) H)∨(J.go i H∧ys.length<sizeLine∧∃ N:List V→Hp→Prop,(∀ ys' H',N ys' H'→∃ m',m'<m∧W (i+1) m' ys' H')∧
   ∀ x H',J.yld i H x H'→g x (zdK ms σ) H' λσ2 H2=>tt σ2 H2 λb H3=>if b=true then te σ2 H3 λy H4=>H4 D=some (.lst ys)∧N (ys++[y]) (upd H4 D (.lst (ys++[y]))) else N ys H3))
section
variable {X:Cx}{tg iter elt:Expr}{ifs:List Expr}{scope:Scope}{pos:Pos}{N':List Str}{ms:List Bool}{wi:TI}{g:TG}{tt:TT}{te:TE}

set_option maxHeartbeats 4000000 in
theorem ziW {pins:List (Addr × Obj)}{s:Shared}{σ:St}{H:Hp}{Q:VK}{RR:Value→Addr→Result→Shared→Prop}(hc:X.calm=true) (ok:COk X.env.scope X.N scope N' ms) (hi:PI X tg iter wi)
  (hg:∀ cl C fp s3 H3,PG (zb2 X N' scope cl C fp s3 H3) tg g) (ht:∀ cl C fp s3 H3,PIfs (zb2 X N' scope cl C fp s3 H3) ifs tt) (he:∀ cl C fp s3 H3,PE (zb2 X N' scope cl C fp s3 H3) elt te)
  (I:Inv X pins σ H s) (h:znT ms wi g tt te σ H Q)
  (hRR:∀ D C H' s' m,s'.heap.Ns C m→Inv X pins σ H' s'→FpOk X pins H' C→Q (.ref D) H'→RR (.ref D) C (.ok .next) s') :
  wpAny (model X.prog X.w) X.A (eval iter X.env) (λx s1=>wpAny (model X.prog X.w) X.A (pyIter x) (λit s2=>wpAny (model X.prog X.w) X.A (newList []) (λacc s3=>
   wpAny (model X.prog X.w) X.A (newFunctionEnv scope X.env.globals (zdf X.env scope.names []) [] X.env.qual none .none (some X.env)) (λcenv s4=>
    codeAny (model X.prog X.w) X.A (.compStart (.ListComp elt [⟨tg,iter,ifs,0⟩] scope pos) 0 it acc {cenv with scope:=relabel scope X.env}) (RR acc cenv.locals) s4) X.xe s3) X.xe s2) X.xe s1) X.xe s:=by
 refine thn (hi pins s σ H _ I h) λv s1 h1=>thn h1 λitv s2 h2=>?_
 obtain⟨it,fp,tn,J,H2,e,I2,T,st2,f2,h2⟩:=h2
 subst e
 obtain⟨W,⟨m0,w0⟩,turn⟩:=h2 s2.heap.objs.size I2.fresh
 refine wpAny_newObj_type ?_
 have I3:=I2.lnew (ys:=[]) (its:=[]) (t':=s2.toks) .nil (Nat.zero_le _)
 generalize hs3:({s2 with heap:=s2.heap.push {cls:=.type "list",data:=.seq ([]:List Value).toArray},toks:=s2.toks} : Shared)=s3 at I3
 refine wpAny_newFunctionEnv ok.nocell (by intro y hy;simp at hy) (λh4 hn4 hs4=>?_) ok.kind
 have sz:s3.heap.objs.size=s2.heap.objs.size+1:=by rw[←hs3];exact Heap.size_push ..
 have old2:∀ b o,s2.heap.get? b=some o→s3.heap.get? b=some o:=λb o e=>by rw[←hs3];exact Heap.get?_push_of_some _ e
 have old:∀ b o,s3.heap.get? b=some o→h4.get? b=some o:=λb o e=>hs4.extBut b o (Nat.ne_of_lt (Heap.lt_size e)) (Heap.get?_push_of_some _ e)
 have fp2:∀ b∈fp,b<s2.heap.objs.size:=λb hb=>by
  obtain⟨o,ho,_⟩:=T.obj 0 _ st2 b hb
  exact Heap.lt_size ho
 have nD:∀ b∈fp,b≠s2.heap.objs.size:=λb hb=>Nat.ne_of_lt (fp2 b hb)
 have f3:∀ b∈fp,FpOk X pins (upd H2 s2.heap.objs.size (.lst [])) b∧b<s3.heap.objs.size:=λb hb=>by
  refine⟨⟨?_,(f2 b hb).2⟩,by rw[sz];exact Nat.lt_succ_of_lt (fp2 b hb)⟩
  rw[zaq (nD b hb)];exact (f2 b hb).1
 have J4:Inv (zb2 X N' scope (zdf X.env scope.names []) s3.heap.objs.size fp s3 (upd H2 s2.heap.objs.size (.lst []))) [] (zdK ms σ) (upd H2 s2.heap.objs.size (.lst [])) {s3 with heap:=h4,toks:=s3.toks+0}:=
  zlo ok I3 f3 hn4 old
 have stat:∀ {H':Hp},(∀ b∈fp,H' b=none)→∀ b∈fp,FpOk (zb2 X N' scope (zdf X.env scope.names []) s3.heap.objs.size fp s3 (upd H2 s2.heap.objs.size (.lst []))) [] H' b:=λhn b hb=>
  ⟨hn b hb,(J4.ok.exf b hb).1,J4.ok.exfs b hb,.inl hb,(J4.ok.exf b hb).2,λp hp=>absurd (show p∈([]:List (Addr × Obj)) from hp) (by simp)⟩
 have loop:codeAny (model X.prog X.w) X.A (.compLoop (.ListComp elt [⟨tg,iter,ifs,0⟩] scope pos) 0 (.ref it) (.ref s2.heap.objs.size) (compEnvC scope (zdf X.env scope.names []) s3.heap.objs.size X.env))
   (RR (.ref s2.heap.objs.size) s3.heap.objs.size) {s3 with heap:=h4,toks:=s3.toks+0}:=by
  refine zmw (λn s'=>∃ i H' ys,Inv (zb2 X N' scope (zdf X.env scope.names []) s3.heap.objs.size fp s3 (upd H2 s2.heap.objs.size (.lst []))) [] (zdK ms σ) H' s'∧tn i s'.heap∧(∀ b∈fp,H' b=none)∧W i n ys H') ?_ m0
   ⟨0,_,[],J4,T.keep 0 _ _ st2 λb hb o e=>old b o (old2 b o e),λb hb=>(f3 b hb).1.1,w0⟩
  rintro n s5 E ⟨i,H5,ys,J5,st5,fr5,w5⟩
  obtain⟨hD,alt⟩:=turn i n ys H5 w5
  rcases alt with ⟨stop,q⟩ | ⟨go,hz,N,hN,step⟩
  ·refine thn (T.done (zb2 X N' scope (zdf X.env scope.names []) s3.heap.objs.size fp s3 (upd H2 s2.heap.objs.size (.lst []))) rfl rfl rfl hc i [] s5 _ H5 E J5 (stat fr5) st5 stop) λr s6 ⟨hr,J6⟩=>?_
   subst hr
   obtain⟨m,hn,_⟩:=id J6.loc
   have I6:=ziV I3 f3 J6
   refine hRR _ _ H5 s6 m hn I6 ?_ q
   have hC:H5 s3.heap.objs.size=none:=J6.free
   obtain⟨g0,g1,g2,g3,g4,g5⟩:=I3.fpOk (b:=s3.heap.objs.size) (H':=H5) (Nat.le_refl _) hC
   exact⟨g0,g1,g2,g3,g4,g5⟩
  ·refine thn (T.item (zb2 X N' scope (zdf X.env scope.names []) s3.heap.objs.size fp s3 (upd H2 s2.heap.objs.size (.lst []))) rfl rfl rfl hc i [] s5 _ H5 E J5 (stat fr5) st5 go) λr s6 ⟨u,hr,h6⟩=>?_
   subst hr
   refine thn h6 λ_ s7 ⟨x,H7,J7,r7,y7,st7,fr7⟩=>?_
   have J7':=J7.pinned (stat fr7) (T.obj _ _ st7)
   have again:∀ {σ8:St}{H8:Hp}{s8:Shared}{zs:List V},Inv (zb2 X N' scope (zdf X.env scope.names []) s3.heap.objs.size fp s3 (upd H2 s2.heap.objs.size (.lst []))) ([]++ziF fp s7.heap) σ8 H8 s8→N zs H8→
     ∃ m,m<n∧∃ i H' ys,Inv (zb2 X N' scope (zdf X.env scope.names []) s3.heap.objs.size fp s3 (upd H2 s2.heap.objs.size (.lst []))) [] (zdK ms σ) H' s8∧tn i s8.heap∧(∀ b∈fp,H' b=none)∧W i m ys H':=λ{σ8 H8 s8 zs} J8 n8=>by
    obtain⟨m',hm,w8⟩:=hN zs H8 n8
    refine⟨m',hm,i+1,H8,zs,zlp ok I3 f3 J8,T.keep _ _ _ st7 λb hb o e=>(J8.pin (b,o) (List.mem_append_right _ (List.mem_append_right _ (zeC hb e)))).1,λb hb=>?_,w8⟩
    obtain⟨o,e,d⟩:=T.obj _ _ st7 b hb
    exact (J8.pin (b,o) (List.mem_append_right _ (List.mem_append_right _ (zeC hb e)))).2.1
   refine wpAny_mono (hg _ _ _ _ _ _ s7 _ H7 x u _ J7' r7 (step x H7 y7)) (λ_ s8 ⟨σ8,H8,J8,q8⟩=>?_) λ_ _ z=>False.elim z
   refine wpAny_mono (ht _ _ _ _ _ _ s8 σ8 H8 _ J8 q8) (λb s9 ⟨H9,J9,q9⟩=>?_) λ_ _ z=>False.elim z
   cases b with
   | false=>exact again J9 q9
   | true=>
    refine wpAny_mono (he _ _ _ _ _ _ s9 σ8 H9 _ J9 q9) (λv s10 ⟨y,H10,J10,r10,hD10,q10⟩=>?_) λ_ _ z=>False.elim z
    refine wpAny_mono (zgq (X:=(zb2 X N' scope (zdf X.env scope.names []) s3.heap.objs.size fp s3 (upd H2 s2.heap.objs.size (.lst [])))) _ s10 σ8 H10 (.ref s2.heap.objs.size) [y] (.ref s2.heap.objs.size) [v] (λ_ H'=>H'=upd H10 s2.heap.objs.size (.lst (ys++[y]))) J10 rfl (.cons r10 .nil) ⟨_,ys,y,rfl,rfl,hD10,hz,rfl⟩)
     (λ_ s11 ⟨_,H11,J11,_,e11⟩=>?_) λ_ _ z=>False.elim z
    subst e11
    exact again J11 q10
 exact codeAny_compStart_list loop (T.self _ 0 _ _ _ (T.keep 0 _ _ st2 λb hb o e=>old b o (old2 b o e)) loop)
theorem za1 (hc:X.calm=true) (ok:COk X.env.scope X.N scope N' ms) (hi:PI X tg iter wi)
  (hg:∀ cl C fp s3 H3,PG (zb2 X N' scope cl C fp s3 H3) tg g) (ht:∀ cl C fp s3 H3,PIfs (zb2 X N' scope cl C fp s3 H3) ifs tt) (he:∀ cl C fp s3 H3,PE (zb2 X N' scope cl C fp s3 H3) elt te)
  (hs:∀ x,foldedSetIterable iter X.env x=pure x:=by intro _;rfl):PE X (.ListComp elt [⟨tg,iter,ifs,0⟩] scope pos) (znT ms wi g tt te):=by
 intro pins s σ H Q I h
 rw[eval_ListComp]
 refine wpAny_comprehension_free (use:=none) rfl hs (zmv (ok.cells I.ok)) ok.kind ok.nm ?_
 refine ziW (RR:=λacc C=>compPost (model X.prog X.w) X.A X.xe none (EP X pins σ Q) acc C) hc ok hi hg ht he I h λD C H' s' m hn I' ⟨g0,g1,g2,g3,g4,g5⟩ q=>?_
 refine⟨m,hn,λh' sb=>⟨.ref D,H',?_,rfl,q⟩⟩
 exact I'.turned (t':=s'.toks) (λb o hb e=>sb.extBut b o hb e) g0 g1 g3 g4 g5
theorem zbZ {i:Nat}{y:Str}{py spos:Pos}(hN:X.N.Nodup) (hy:X.N[i]?=some y) (hl:X.env.scope.names.lookup y=some .local) (hc:X.calm=true) (ok:COk X.env.scope X.N scope N' ms) (hi:PI X tg iter wi)
  (hg:∀ cl C fp s3 H3,PG (zb2 X N' scope cl C fp s3 H3) tg g) (ht:∀ cl C fp s3 H3,PIfs (zb2 X N' scope cl C fp s3 H3) ifs tt) (he:∀ cl C fp s3 H3,PE (zb2 X N' scope cl C fp s3 H3) elt te)
  (hsw:swapsWith (.ListComp elt [⟨tg,iter,ifs,0⟩] scope pos) (some (.Name y py)) spos.line X.env=pure true:=by rfl)
  (hs:∀ x,foldedSetIterable iter X.env x=pure x:=by intro _;rfl):PS X (.Assign [.Name y py] (.ListComp elt [⟨tg,iter,ifs,0⟩] scope pos) spos) (tAsg (znT ms wi g tt te) (znB i)):=by
 intro pins s σ H D I h
 rw[exec_Assign_Name_used _ _ _ _ hsw]
 refine wpAny_bind (wpAny_standAt (wpAny_bind ?_))
 show wpAny _ _ (do let _ ←comprehension (.ListComp elt [⟨tg,iter,ifs,0⟩] scope pos) scope X.env _ (newList []) false (eval iter X.env) (some (assign (.Name y py) X.env))) _ _ s
 refine wpAny_bind (wpAny_mono (wpAny_comprehension_free (use:=some (assign (.Name y py) X.env)) (Q:=λ_ s'=>SP X pins D .next s') rfl hs (zmv (ok.cells I.ok)) ok.kind ok.nm ?_) (λ_ s' q=>wpAny_pure (wpAny_pure q)) λ_ _ e=>e)
 refine ziW (RR:=λacc C=>compPost (model X.prog X.w) X.A X.xe (some (assign (.Name y py) X.env)) (λ_ s'=>SP X pins D .next s') acc C) hc ok hi hg ht he I h λDa C H' s' m hn I' ⟨g0,g1,g2,g3,g4,g5⟩ q=>?_
 show wpAny _ _ (assign (.Name y py) X.env (.ref Da)) _ _ s'
 refine wpAny_assign_Name (ziA I' hN hy (.inl hl) (show RelV (.ref Da) (.ref Da) from rfl) (λs'' I'' ⟨a,sa,ha⟩=>?_) (.inr hl))
 have hCa:C≠a:=by
  rcases ha with e | e
  ·rw[e];exact g1
  ·exact λz=>g4 y a e z.symm
 refine⟨m,hn.sameBut sa hCa,λh' sb=>⟨σ.set i (some (.ref Da)),H',?_,q⟩⟩
 exact I''.turned (t':=s''.toks) (λb o hb e=>sb.extBut b o hb e) g0 g1 g3 g4 g5
end
end L2

namespace L2
open PySem PySem.Spec PyProof.Rows

section
variable {X:Cx}{pins:List (Addr × Obj)}{σ:St}{H:Hp}{s:Shared}{h':Heap}{t':Nat}
theorem Inv.turnedN {ch:List Addr}(I:Inv X pins σ H s) (hch:∀ b∈ch,FpOk X pins H b) (k:∀ b o,b∉ch→s.heap.get? b=some o→h'.get? b=some o):Inv X pins σ H {s with heap:=h',toks:=t'}:=by
 have nit:∀ b u,H b=some u→b∉ch:=λb u e z=>by rw[(hch b z).1] at e;cases e
 refine I.step (g':=s.gens) (d':=s.drawn) (ch:=ch) (λb hb=>?_) (λb o _ _ hc e _=>k b o hc e) (λb o _ _ hc e _=>⟨o.slots,k b o hc e⟩) (λ_ _ _ _ n=>n) (λb o hc e=>⟨o,k b o hc e⟩) (λ_ _ e=>e) (λ_ _ _ e=>e)
  (λb ps e=>⟨#[],by rw[e];simp⟩) (λm hm=>?_) (λb u e=>?_) I.bare
 ·obtain⟨_,f1,_,f3,f4,f5⟩:=hch b hb
  exact⟨f3,f1,f4,f5⟩
 ·obtain⟨o,es,ep,ho,r⟩:=hm
  exact⟨o,es,ep,k _ o (λz=>(hch _ z).2.1 rfl) ho,r⟩
 ·refine (I.hok b u e).stay (λc v hc q=>k c v ?_ q) (λ_ q=>q) λ_ _ q=>q
  rcases hc with z | z
  ·rw[z];exact nit b u e
  ·exact nit c _ z
end

theorem zlq {h:Heap}{a b:Addr}{o u:Obj}(e1:h.get? a=some o) (e2:h.get? b=some u) (d:o.cls≠u.cls):a≠b:=λz=>by
 subst z;rw[e1] at e2;cases e2;exact d rfl
theorem zej {h:Heap}{a b:Addr}{its:Array Value}{u:Obj}{T:String}(e1:h.IsList a its) (e2:h.get? b=some u) (c:u.cls=.type T) (d:T≠ "list"):a≠b:=by
 obtain⟨o,ho,hc,_⟩:=e1
 refine zlq ho e2 ?_
 rw[hc,c]
 intro z
 injection z with z
 exact d z.symm
def Itz (K:Fg) (a b:Addr):It:=
  ⟨λi H=>∃ xs ys x y,SqL K H a xs∧SqL K H b ys∧xs[i]?=some x∧ys[i]?=some y,
   λi H v H'=>∃ T,H T=none∧v=.ref T∧∀ xs ys x y,SqL K H a xs→SqL K H b ys→xs[i]?=some x→ys[i]?=some y→H'=upd H T (.tup [x,y]),
   λi H=>∃ xs ys,SqL K H a xs∧SqL K H b ys∧(xs[i]?=none∨ys[i]?=none)⟩
structure Zap (z TI TO i1 i2:Addr):Prop where
 a1:TI≠z
 a2:TO≠z
 a3:i1≠z
 a4:i2≠z
 a5:TI≠TO
 a6:TI≠i1
 a7:TI≠i2
 a8:TO≠i1
 a9:TO≠i2
 a10:i1≠i2
theorem zpv (n:Nat):Zap (n+4) (n+2) (n+3) n (n+1):=by constructor <;> (show (_:Nat)≠_;omega)
def zqP (z TI TO i1 i2 a b:Addr) (i:Nat) (h:Heap):Prop:=IsZip h z TI TO .none∧IsPair h TI (.ref i1) (.ref i2)∧(∃ p q,IsPair h TO p q)∧h.IsListIter i1 a i∧h.IsListIter i2 b i
theorem zoR {h:Heap}{z TI TO i1 i2 a b:Addr}{i:Nat}{xs ys:Array Value}(D:Zap z TI TO i1 i2) (t:zqP z TI TO i1 i2 a b i h) (hx:h.IsList a xs) (hy:h.IsList b ys):ZipApart z TI TO i1 i2 a b:=by
 obtain⟨hz,hI,⟨p,q,hO⟩,⟨o1,e1,c1,_⟩,⟨o2,e2,c2,_⟩⟩:=t
 exact⟨D.a1,D.a2,D.a3,D.a4,D.a5,D.a6,D.a7,D.a8,D.a9,D.a10,zej hx hz rfl (by decide),zej hx hO rfl (by decide),zej hx e1 c1 (by decide),zej hx e2 c2 (by decide),zej hy hz rfl (by decide),zej hy hO rfl (by decide),zej hy e1 c1 (by decide),zej hy e2 c2 (by decide)⟩
theorem znU {P:Program}{w:World}{K:Fg}{elts:List Expr}{kx:Nat}{tpos:Pos}{z TI TO i1 i2:Addr}(a b:Addr) (D:Zap z TI TO i1 i2) :
  Turn P w K (.Tuple elts kx tpos) (Itz K a b) [z,TI,TO,i1,i2] z (zqP z TI TO i1 i2 a b) where
 mem:=by simp
 obj:=λi h st c hb=>by
  obtain⟨hz,hI,⟨p,q,hO⟩,⟨o1,e1,c1,d1⟩,⟨o2,e2,c2,d2⟩⟩:=st
  simp only[List.mem_cons,List.not_mem_nil,or_false] at hb
  rcases hb with rfl | rfl | rfl | rfl | rfl
  ·exact⟨_,hz,λv x=>by cases x⟩
  ·exact⟨_,hI,λv x=>by cases x⟩
  ·exact⟨_,hO,λv x=>by cases x⟩
  ·exact⟨_,e1,λv x=>by rw[d1] at x;cases x⟩
  ·exact⟨_,e2,λv x=>by rw[d2] at x;cases x⟩
 keep:=λi h h' st k=>by
  obtain⟨hz,hI,⟨p,q,hO⟩,h1,h2⟩:=st
  exact⟨k z (by simp) _ hz,k TI (by simp) _ hI,⟨p,q,k TO (by simp) _ hO⟩,h1.at λo e=>k i1 (by simp) o e,h2.at λo e=>k i2 (by simp) o e⟩
 item:=by
  intro X hP hw hK hc i pins s σ H E I hf st hg
  subst hP hw hK
  obtain⟨xs,ys,x,y,hx,hy,ex,ey⟩:=hg
  obtain⟨its,rx,px,zx⟩:=I.list hx
  obtain⟨jts,ry,py,zy⟩:=I.list hy
  obtain⟨u,eu,ru⟩:=rx.get ex
  obtain⟨v,ev,rv⟩:=ry.get ey
  have Z:=zoR D st px.isList py.isList
  obtain⟨hz,hI,⟨p,q,hO⟩,h1,h2⟩:=id st
  refine wpAny_pyNext_zip_item Z hz hI hO h1 h2 px.isList py.isList (x:=u) (y:=v) (by simpa using eu) (by simpa using ev) λh' z1 o1 l1 l2 t1 sz k1=>?_
  refine⟨_,rfl,wpAny_letOwnedTupleGo_zip (s:={s with heap:=h'}) z1 λh'' z2 sb=>?_⟩
  have nT:H s.heap.objs.size=none:=I.hok.fresh (Nat.le_refl _)
  have IT:Inv X pins σ (upd H s.heap.objs.size (.tup [x,y])) {s with heap:=s.heap.push {cls:=.type "tuple",data:=.seq #[u,v]},toks:=s.toks}:=
   I.laid (λb o e=>Heap.get?_push_of_some _ e) (Nat.le_refl _) (show zb5 X.prog X.w _ _ _ (.tup [x,y]) from ⟨by show 2≤sizeLine;decide,[u,v],.cons ru (.cons rv .nil),IsTup.new _ _⟩)
  have nz:z≠s.heap.objs.size:=Nat.ne_of_lt (Heap.lt_size hz)
  have fT:∀ c∈[z,TI,TO,i1,i2],FpOk X pins (upd H s.heap.objs.size (.tup [x,y])) c:=λc hcm=>by
   obtain⟨g0,gr⟩:=hf c hcm
   refine⟨?_,gr⟩
   obtain⟨o,ho,_⟩:∃ o,s.heap.get? c=some o∧True:=by
    simp only[List.mem_cons,List.not_mem_nil,or_false] at hcm
    rcases hcm with rfl | rfl | rfl | rfl | rfl
    ·exact⟨_,hz,trivial⟩
    ·exact⟨_,hI,trivial⟩
    ·exact⟨_,hO,trivial⟩
    ·obtain⟨o,e,_⟩:=h1;exact⟨o,e,trivial⟩
    ·obtain⟨o,e,_⟩:=h2;exact⟨o,e,trivial⟩
   rw[zaq (Nat.ne_of_lt (Heap.lt_size ho))]
   exact g0
  have up:∀ c o,c∉[z,TI,TO,i1,i2]→(s.heap.push {cls:=.type "tuple",data:=.seq #[u,v]}).get? c=some o→h''.get? c=some o:=λc o hn e=>by
   simp only[List.mem_cons,List.not_mem_nil,or_false,not_or] at hn
   refine sb.extBut c o hn.1 ?_
   by_cases hcs:c=s.heap.objs.size
   ·subst hcs
    rw[Heap.get?_push_size _ rfl] at e
    cases e
    exact t1
   ·refine k1 c o hn.1 hn.2.2.1 hn.2.2.2.1 hn.2.2.2.2 ?_
    rw[Heap.get?_push_ne _ _ _ hcs] at e
    exact e
  refine⟨.ref s.heap.objs.size,_,IT.turnedN (h':=h'') (t':=s.toks) fT up,rfl,⟨_,nT,rfl,λxs' ys' x' y' q1 q2 q3 q4=>?_⟩,?_,λc hcm=>(fT c hcm).1⟩
  ·rw[I.list_inj q1 hx,ex] at q3
   rw[I.list_inj q2 hy,ey] at q4
   cases q3;cases q4;rfl
  ·refine⟨z2,sb.extBut _ _ D.a1 (k1 _ _ D.a1 D.a5 D.a6 D.a7 hI),⟨_,_,sb.extBut _ _ D.a2 o1⟩,l1.extBut sb.extBut D.a3,l2.extBut sb.extBut D.a4⟩
 done:=by
  intro X hP hw hK hc i pins s σ H E I hf st hg
  subst hP hw hK
  obtain⟨xs,ys,hx,hy,en⟩:=hg
  obtain⟨its,rx,px,zx⟩:=I.list hx
  obtain⟨jts,ry,py,zy⟩:=I.list hy
  have Z:=zoR D st px.isList py.isList
  obtain⟨hz,hI,⟨p,q,hO⟩,h1,h2⟩:=id st
  have en':its.toArray[i]?=none∨jts.toArray[i]?=none:=by
   rcases en with e | e
   ·exact .inl (by simpa using rx.none_of e)
   ·exact .inr (by simpa using ry.none_of e)
  exact wpAny_pyNext_zip_end (I.ok.hd hc) Z hz hI hO h1 h2 px.isList py.isList en' λh' k1=>⟨rfl,I.turnedN (t':=s.toks) hf λc o hn e=>by
   simp only[List.mem_cons,List.not_mem_nil,or_false,not_or] at hn
   exact k1 c o hn.1 hn.2.2.1 hn.2.2.2.1 hn.2.2.2.2 e⟩
 self:=λ_ _ _ _ _ st h=>wpAny_pyIter_zip st.1 h
def iZip (K:Fg) (ta:TA):TI:=λσ H R=>ta σ H λvs H1=>∃ a b,vs=[.ref a,.ref b]∧(∃ xs,SqL K H1 a xs)∧(∃ ys,SqL K H1 b ys)∧R (Itz K a b) H1
theorem znV:bootBuiltins "zip"=some (.type "zip"):=by decide +kernel
theorem zh1:bootBuiltins "reversed"=some (.type "reversed"):=by decide +kernel
section
variable {X:Cx}
theorem zqQ {elts:List Expr}{kx:Nat}{tpos:Pos}{a b:Expr}{ta:TA}{p pos:Pos}(hg:Gl X "zip") (hm:X.mg "zip"=none) (ha:PA X [a,b] ta) (hs:starEach [a,b] X.env=[(false,eval a X.env),(false,eval b X.env)]:=by rfl) (hs2:starEach [b] X.env=[(false,eval b X.env)]:=by rfl) :
  PI X (.Tuple elts kx tpos) (.Call (.Name "zip" p) [a,b] [] pos) (iZip X.K ta):=by
 intro pins s σ H R I h
 refine Call_ (zgl I hg hm znV (PyProof.Rows.callWith_type1 (thn (ha pos pins s σ H _ I h) λus s1 ⟨vs,H1,I1,r1,q1⟩=>?_) (by rw[hs,hs2]) (by rw[hs2];rfl)))
 obtain⟨l1,l2,e,⟨xs,hx⟩,⟨ys,hy⟩,q⟩:=q1
 subst e
 obtain⟨u,v,e,ru,rv⟩:=r1.two
 subst e
 cases ru;cases rv
 obtain⟨its,rx,px,zx⟩:=I1.list hx
 obtain⟨jts,ry,py,zy⟩:=I1.list hy
 refine call_zip_2 px.isList py.isList λh' z1 p1 p2 i1 i2 sz k=>?_
 refine wpAny_pyIter_zip (s:={s1 with heap:=h'}) z1 ?_
 have I2:Inv X pins σ H1 {s1 with heap:=h',toks:=s1.toks}:=I1.kept k
 have D:=zpv s1.heap.objs.size
 refine⟨_,_,_,_,H1,rfl,I2,znU l1 l2 D,⟨z1,p1,⟨_,_,p2⟩,i1,i2⟩,λc hc=>?_,q⟩
 have le:s1.heap.objs.size≤c:=by
  simp only[List.mem_cons,List.not_mem_nil,or_false] at hc
  first
   | (rcases hc with rfl | rfl | rfl | rfl | rfl <;> first | exact Nat.le_refl _ | exact Nat.le_add_right _ _)
   | (rcases hc with rfl | rfl <;> first | exact Nat.le_refl _ | exact Nat.le_add_right _ _)
 exact I1.fpOk le (I1.hok.fresh le)
end

section
variable {X:Cx}
end

section
variable {X:Cx}
theorem ziX {bs:List Bool}{its:List Value}(r:Vals (bs.map V.bl) its) {i:Nat}{v:Value}(e:its[i]?=some v):∃ b,bs[i]?=some b∧v=.bool b:=by
 have hl:=r.length
 rw[zlm] at hl
 have hi:i<bs.length:=by
  have:=(zge.mp e).1
  omega
 obtain⟨u,hu,ru⟩:=r.get (i:=i) (x:=V.bl bs[i]) (by simp[hi])
 rw[e] at hu;cases hu
 exact⟨bs[i],by simp[hi],ru⟩
theorem zmx {bs:List Bool}{n:Nat}(h:n=bs.length):(List.range n).all (λi=>bs[i]?.getD false)=bs.all id:=by
 subst h
 rw[Bool.eq_iff_iff]
 simp only[List.all_eq_true,List.mem_range,id]
 constructor
 ·intro q x hx
  obtain⟨i,hi,rfl⟩:=List.getElem_of_mem hx
  have:=q i hi
  simpa [hi] using this
 ·intro q i hi
  simpa [hi] using q bs[i] (List.getElem_mem hi)
theorem zmy {bs:List Bool}{n:Nat}(h:n=bs.length):(List.range n).any (λi=>bs[i]?.getD false)=bs.any id:=by
 subst h
 rw[Bool.eq_iff_iff]
 simp only[List.any_eq_true,List.mem_range,id]
 constructor
 ·rintro⟨i,hi,q⟩
  exact⟨bs[i],List.getElem_mem hi,by simpa [hi] using q⟩
 ·rintro⟨x,hx,q⟩
  obtain⟨i,hi,rfl⟩:=List.getElem_of_mem hx
  exact⟨i,hi,by simpa [hi] using q⟩
theorem znW (hc:X.calm=true):zcB X (.builtin "all") (λxs H Q=>∃ (p:Addr) (bs:List Bool),xs=[.ref p]∧SqL X.K H p (bs.map V.bl)∧Q (.bl (bs.all id)) H):=by
 intro pins s σ H xs us Q I r h
 obtain⟨p,bs,rfl,hq,q⟩:=h
 obtain⟨u,rfl,rx⟩:=zhT r
 cases rx
 obtain⟨its,rv,pl,hz⟩:=I.list hq
 have hl:=rv.length
 rw[zlm] at hl
 refine call_all_walk (wpAny_pyIter_list pl.isList ?_)
 have hne:p≠s.heap.objs.size:=by
  obtain⟨o,ho,_⟩:=pl.isList
  exact Nat.ne_of_lt (Heap.lt_size ho)
 refine⟨s.heap.objs.size,_,_,_,_,_,λi=>bs[i]?.getD false,rfl,Walks.list (show X.A.in1.handled=none from I.ok.hd hc) s.heap.objs.size p hne its.toArray,⟨⟨_,Heap.get?_push_size _ rfl,rfl,rfl⟩,Heap.IsList.push pl.isList _⟩,λi v s' Q' E' hP hQ=>?_,λh' tk hk=>?_⟩
 ·obtain⟨b,hb,rfl⟩:=ziX rv (i:=i) (v:=v) (by simpa using hP)
  refine wpAny_truthy_bool ?_
  simpa [hb] using hQ
 ·rw[zmx (by rw[zst];exact hl.symm)]
  refine⟨.bl _,H,I.kept λb o e=>hk b o ?_ (Heap.get?_push_of_some _ e),rfl,q⟩
  simp only[List.mem_cons,List.not_mem_nil,or_false]
  exact Nat.ne_of_lt (Heap.lt_size e)
theorem znX (hc:X.calm=true):zcB X (.builtin "any") (λxs H Q=>∃ (p:Addr) (bs:List Bool),xs=[.ref p]∧SqL X.K H p (bs.map V.bl)∧Q (.bl (bs.any id)) H):=by
 intro pins s σ H xs us Q I r h
 obtain⟨p,bs,rfl,hq,q⟩:=h
 obtain⟨u,rfl,rx⟩:=zhT r
 cases rx
 obtain⟨its,rv,pl,hz⟩:=I.list hq
 have hl:=rv.length
 rw[zlm] at hl
 refine call_any_walk (wpAny_pyIter_list pl.isList ?_)
 have hne:p≠s.heap.objs.size:=by
  obtain⟨o,ho,_⟩:=pl.isList
  exact Nat.ne_of_lt (Heap.lt_size ho)
 refine⟨s.heap.objs.size,_,_,_,_,_,λi=>bs[i]?.getD false,rfl,Walks.list (show X.A.in1.handled=none from I.ok.hd hc) s.heap.objs.size p hne its.toArray,⟨⟨_,Heap.get?_push_size _ rfl,rfl,rfl⟩,Heap.IsList.push pl.isList _⟩,λi v s' Q' E' hP hQ=>?_,λh' tk hk=>?_⟩
 ·obtain⟨b,hb,rfl⟩:=ziX rv (i:=i) (v:=v) (by simpa using hP)
  refine wpAny_truthy_bool ?_
  simpa [hb] using hQ
 ·rw[zmy (by rw[zst];exact hl.symm)]
  refine⟨.bl _,H,I.kept λb o e=>hk b o ?_ (Heap.get?_push_of_some _ e),rfl,q⟩
  simp only[List.mem_cons,List.not_mem_nil,or_false]
  exact Nat.ne_of_lt (Heap.lt_size e)
end
end L2

namespace L2
open PySem PySem.Spec PyProof.Rows PySem.SeqAt

inductive D where
 | non | bl (b:Bool) | int (i:Int) | str (x:Str) | lst (xs:List D) | tup (xs:List D)
mutual
def dep:D→Nat
 | .lst xs=>deps xs+1
 | .tup xs=>deps xs+1
 | _=>0
def deps:List D→Nat
 | []=>0
 | d::ds=>max (dep d) (deps ds)
end
mutual
def pyEq:D→D→Bool
 | .non,.non=>true
 | .bl a,.bl b=>a == b
 | .int a,.int b=>a == b
 | .bl a,.int b=>(if a then 1 else 0) == b
 | .int a,.bl b=>a == (if b then 1 else 0)
 | .str a,.str b=>a == b
 | .lst xs,.lst ys=>zce xs ys
 | .tup xs,.tup ys=>zce xs ys
 | _,_=>false
def zce:List D→List D→Bool
 | [],[]=>true
 | x::xs,y::ys=>pyEq x y && zce xs ys
 | _,_=>false
end
mutual
def Rep (K:Fg) (H:Hp):D→V→Prop
 | .non,v=>v=.non
 | .bl b,v=>v=.bl b
 | .int i,v=>v=.int i
 | .str x,v=>v=.str x
 | .lst ds,v=>∃ a xs,v=.ref a∧SqL K H a xs∧Reps K H ds xs
 | .tup ds,v=>∃ a xs,v=.ref a∧SqT K H a xs∧Reps K H ds xs
def Reps (K:Fg) (H:Hp):List D→List V→Prop
 | [],vs=>vs=[]
 | d::ds,vs=>∃ v r,vs=v::r∧Rep K H d v∧Reps K H ds r
end
theorem ze8:∀ {ds:List D}{d:D},d∈ds→dep d≤deps ds
 | d::ds,e,h=>by
  rcases List.mem_cons.mp h with h | h
  ·subst h;unfold deps;exact Nat.le_max_left _ _
  ·have:=ze8 h
   unfold deps
   exact Nat.le_trans this (Nat.le_max_right _ _)
theorem Reps.length {K:Fg}{H:Hp} : ∀ {ds:List D}{vs:List V},Reps K H ds vs→ds.length=vs.length
 | [],vs,h=>by unfold Reps at h;subst h;rfl
 | d::ds,vs,h=>by
  unfold Reps at h
  obtain⟨v,r,rfl,_,h⟩:=h
  simp[Reps.length h]
theorem Reps.get {K:Fg}{H:Hp} : ∀ {ds:List D}{vs:List V}{i:Nat}{d:D},Reps K H ds vs→ds[i]?=some d→∃ v,vs[i]?=some v∧Rep K H d v
 | [],vs,i,d,h,e=>by simp at e
 | c::ds,vs,i,d,h,e=>by
  unfold Reps at h
  obtain⟨v,r,rfl,h1,h⟩:=h
  cases i with
  | zero=>simp at e;subst e;exact⟨v,rfl,h1⟩
  | succ i=>
   obtain⟨w,e1,e2⟩:=Reps.get h (show ds[i]?=some d by simpa using e)
   exact⟨w,by simpa using e1,e2⟩
theorem Reps.get' {K:Fg}{H:Hp}{ds:List D}{vs:List V}{i:Nat}{v:V}(h:Reps K H ds vs) (e:vs[i]?=some v):∃ d,ds[i]?=some d∧Rep K H d v:=by
 have hl:=h.length
 have hi:=(zge.mp e).1
 obtain⟨w,e1,e2⟩:=h.get (i:=i) (d:=ds[i]) (by simp)
 rw[e] at e1;cases e1
 exact⟨ds[i],by simp,e2⟩
theorem Reps.of {K:Fg}{H:Hp} : ∀ {ds:List D}{vs:List V},ds.length=vs.length→(∀ (i:Nat) d v,ds[i]?=some d→vs[i]?=some v→Rep K H d v)→Reps K H ds vs
 | [],[],_,_=>by unfold Reps;rfl
 | d::ds,v::vs,hl,h=>by
  unfold Reps
  exact⟨v,vs,rfl,h 0 d v rfl rfl,Reps.of (by simpa using hl) λi e w e1 e2=>h (i+1) e w (by simpa using e1) (by simpa using e2)⟩
theorem Reps.ints {K:Fg}{H:Hp} : ∀ {ns:List Int}{vs:List V},Reps K H (ns.map D.int) vs↔vs=ns.map V.int
 | [],vs=>by unfold List.map Reps;rfl
 | n::ns,vs=>by
  rw[zmc]
  unfold Reps
  constructor
  ·rintro⟨v,r,rfl,h1,h⟩
   unfold Rep at h1
   subst h1
   rw[Reps.ints.mp h];rfl
  ·rintro rfl
   exact⟨_,_,rfl,by unfold Rep;rfl,Reps.ints.mpr rfl⟩
theorem Same.tup {K:Fg}{H H':Hp}{a:Addr}{xs:List V}(e:Same H H') (h:SqT K H a xs):SqT K H' a xs:=by
 rcases h with (h | ⟨o,h⟩) | h
 ·exact .inl (.inl (e _ _ h))
 ·exact .inl (.inr ⟨o,e _ _ h⟩)
 ·exact .inr h
mutual
theorem Rep.same {K:Fg}{H H':Hp}(e:Same H H'):∀ (d:D) {v:V},Rep K H d v→Rep K H' d v
 | .non,_,h=>by unfold Rep at *;exact h
 | .bl _,_,h=>by unfold Rep at *;exact h
 | .int _,_,h=>by unfold Rep at *;exact h
 | .str _,_,h=>by unfold Rep at *;exact h
 | .lst ds,_,h=>by
  unfold Rep at *
  obtain⟨a,xs,h1,h2,h3⟩:=h
  exact⟨a,xs,h1,e.seq h2,Reps.same e ds h3⟩
 | .tup ds,_,h=>by
  unfold Rep at *
  obtain⟨a,xs,h1,h2,h3⟩:=h
  exact⟨a,xs,h1,e.tup h2,Reps.same e ds h3⟩
theorem Reps.same {K:Fg}{H H':Hp}(e:Same H H'):∀ (ds:List D) {vs:List V},Reps K H ds vs→Reps K H' ds vs
 | [],_,h=>by unfold Reps at *;exact h
 | d::ds,_,h=>by
  unfold Reps at *
  obtain⟨v,r,h1,h2,h3⟩:=h
  exact⟨v,r,h1,Rep.same e d h2,Reps.same e ds h3⟩
end

mutual
theorem zgz:∀ d:D,pyEq d d=true
 | .non=>by unfold pyEq;rfl
 | .bl _=>by unfold pyEq;simp
 | .int _=>by unfold pyEq;simp
 | .str _=>by unfold pyEq;simp
 | .lst ds=>by unfold pyEq;exact zfy ds
 | .tup ds=>by unfold pyEq;exact zfy ds
theorem zfy:∀ ds:List D,zce ds ds=true
 | []=>by unfold zce;rfl
 | d::ds=>by unfold zce;rw[zgz d,zfy ds];rfl
end
theorem zek:∀ {xs ys:List D},zce xs ys=true→xs.length=ys.length
 | [],[],_=>rfl
 | [],_::_,h=>by unfold zce at h;cases h
 | _::_,[],h=>by unfold zce at h;cases h
 | x::xs,y::ys,h=>by
  unfold zce at h
  rw[Bool.and_eq_true] at h
  simp[zek h.2]
theorem zel:∀ {xs ys:List D},xs.length=ys.length→(List.range xs.length).all (λj=>pyEq (xs.getD j .non) (ys.getD j .non))=zce xs ys
 | [],[],_=>by unfold zce;rfl
 | x::xs,y::ys,h=>by
  have ih:=zel (xs:=xs) (ys:=ys) (by simpa using h)
  unfold zce
  rw[List.length_cons,List.range_succ_eq_map,List.all_cons,List.all_map,←ih]
  rfl
theorem zfz:∀ {ms ns:List Int},zce (ms.map D.int) (ns.map D.int)=decide (ms=ns)
 | [],[]=>by unfold List.map zce;rfl
 | [],_::_=>by rw[zmc];unfold List.map zce;simp
 | _::_,[]=>by rw[zmc];unfold List.map zce;simp
 | m::ms,n::ns=>by
  rw[zmc,zmc]
  unfold zce pyEq
  rw[zfz,Bool.eq_iff_iff]
  simp
mutual
theorem Rep.inj {X:Cx}{pins:List (Addr × Obj)}{σ:St}{H:Hp}{s:Shared}(I:Inv X pins σ H s):∀ (d e:D) {v:V},Rep X.K H d v→Rep X.K H e v→d=e
 | .non,e,v,h,q=>by unfold Rep at h;subst h;cases e <;> unfold Rep at q <;> first | rfl | (cases q;done) | (obtain⟨_,_,q,_⟩:=q;cases q)
 | .bl _,e,v,h,q=>by unfold Rep at h;subst h;cases e <;> unfold Rep at q <;> first | (cases q;rfl) | (cases q;done) | (obtain⟨_,_,q,_⟩:=q;cases q)
 | .int _,e,v,h,q=>by unfold Rep at h;subst h;cases e <;> unfold Rep at q <;> first | (cases q;rfl) | (cases q;done) | (obtain⟨_,_,q,_⟩:=q;cases q)
 | .str _,e,v,h,q=>by unfold Rep at h;subst h;cases e <;> unfold Rep at q <;> first | (cases q;rfl) | (cases q;done) | (obtain⟨_,_,q,_⟩:=q;cases q)
 | .lst ds,e,v,h,q=>by
  unfold Rep at h
  obtain⟨a,xs,rfl,h1,h2⟩:=h
  cases e with
  | lst es=>
   unfold Rep at q
   obtain⟨b,ys,e1,q1,q2⟩:=q
   cases e1
   cases I.list_inj h1 q1
   rw[Reps.inj I ds es h2 q2]
  | tup es=>
   unfold Rep at q
   obtain⟨b,ys,e1,q1,q2⟩:=q
   cases e1
   obtain⟨_,_,p1,_⟩:=I.list h1
   obtain⟨_,_,p2,_⟩:=I.tuple q1
   exact absurd rfl (ne_of_list_tuple (s:=s) p1.isList p2)
  | _=>unfold Rep at q;cases q
 | .tup ds,e,v,h,q=>by
  unfold Rep at h
  obtain⟨a,xs,rfl,h1,h2⟩:=h
  cases e with
  | tup es=>
   unfold Rep at q
   obtain⟨b,ys,e1,q1,q2⟩:=q
   cases e1
   cases I.tuple_inj h1 q1
   rw[Reps.inj I ds es h2 q2]
  | lst es=>
   unfold Rep at q
   obtain⟨b,ys,e1,q1,q2⟩:=q
   cases e1
   obtain⟨_,_,p1,_⟩:=I.list q1
   obtain⟨_,_,p2,_⟩:=I.tuple h1
   exact absurd rfl (ne_of_list_tuple (s:=s) p1.isList p2)
  | _=>unfold Rep at q;cases q
theorem Reps.inj {X:Cx}{pins:List (Addr × Obj)}{σ:St}{H:Hp}{s:Shared}(I:Inv X pins σ H s):∀ (ds es:List D) {vs:List V},Reps X.K H ds vs→Reps X.K H es vs→ds=es
 | [],es,vs,h,q=>by
  unfold Reps at h;subst h
  cases es with
  | nil=>rfl
  | cons e es=>unfold Reps at q;obtain⟨_,_,q,_⟩:=q;cases q
 | d::ds,es,vs,h,q=>by
  unfold Reps at h
  obtain⟨v,r,rfl,h1,h2⟩:=h
  cases es with
  | nil=>unfold Reps at q;cases q
  | cons e es=>
   unfold Reps at q
   obtain⟨w,r',e1,q1,q2⟩:=q
   cases e1
   rw[Rep.inj I d e h1 q1,Reps.inj I ds es h2 q2]
end

section
variable {X:Cx}{pins:List (Addr × Obj)}{σ:St}{H:Hp}{s:Shared}
theorem zh2 {d:D}{x:V}(h:Rep X.K H d x) (f:zeG x=true):(∃ b,d=.bl b∧x=.bl b)∨(∃ i,d=.int i∧x=.int i)∨(∃ z,d=.str z∧x=.str z)∨(d=.non∧x=.non):=by
 cases d with
 | non=>unfold Rep at h;exact .inr (.inr (.inr ⟨rfl,h⟩))
 | bl b=>unfold Rep at h;exact .inl ⟨b,rfl,h⟩
 | int b=>unfold Rep at h;exact .inr (.inl ⟨b,rfl,h⟩)
 | str b=>unfold Rep at h;exact .inr (.inr (.inl ⟨b,rfl,h⟩))
 | lst ds=>unfold Rep at h;obtain⟨a,xs,rfl,_⟩:=h;cases f
 | tup ds=>unfold Rep at h;obtain⟨a,xs,rfl,_⟩:=h;cases f
theorem znY {d e:D}{x y:V}(h:Rep X.K H d x) (q:Rep X.K H e y) (fx:zeG x=true) (fy:zeG y=true):eqV x y=pyEq d e:=by
 rcases zh2 h fx with ⟨b,rfl,rfl⟩ | ⟨b,rfl,rfl⟩ | ⟨b,rfl,rfl⟩ | ⟨rfl,rfl⟩ <;> rcases zh2 q fy with ⟨c,rfl,rfl⟩ | ⟨c,rfl,rfl⟩ | ⟨c,rfl,rfl⟩ | ⟨rfl,rfl⟩ <;> unfold pyEq eqV <;> rfl
theorem zga {A:Around}{ds es:List D}{xs ys:List V}{us vs:List Value}(hd:Reps X.K H ds xs) (he:Reps X.K H es ys) (ru:Vals xs us) (rv:Vals ys vs)
  (ih:∀ (d e:D) (x y:V) (u v:Value),d∈ds→Rep X.K H d x→Rep X.K H e y→RelV x u→RelV y v→EqAt A s u v (pyEq d e)) :
  ∀ j (h1:j<us.toArray.size) (h2:j<vs.toArray.size),EqAt A s us.toArray[j] vs.toArray[j] (pyEq (ds.getD j .non) (es.getD j .non)):=by
 intro j h1 h2
 simp only[zst] at h1 h2
 have l1:=hd.length
 have l2:=he.length
 have l3:=ru.length
 have l4:=rv.length
 have j1:j<ds.length:=by omega
 have j2:j<es.length:=by omega
 obtain⟨x,ex,rx⟩:=hd.get (i:=j) (d:=ds[j]) (by simp[j1])
 obtain⟨y,ey,ry⟩:=he.get (i:=j) (d:=es[j]) (by simp[j2])
 obtain⟨u,eu,ru'⟩:=ru.get ex
 obtain⟨v,ev,rv'⟩:=rv.get ey
 have e1:us.toArray[j]=u:=by
  obtain⟨_,q⟩:=zge.mp eu
  simpa using q
 have e2:vs.toArray[j]=v:=by
  obtain⟨_,q⟩:=zge.mp ev
  simpa using q
 rw[e1,e2,show ds.getD j .non=ds[j] by simp[List.getD,j1],show es.getD j .non=es[j] by simp[List.getD,j2]]
 exact ih _ _ x y u v (List.getElem_mem j1) rx ry ru' rv'
theorem zmz (I:Inv X pins σ H s):∀ (n:Nat) (d e:D) (A:Around) (x y:V) (u v:Value),dep d≤n→A.units+n<cLine→Rep X.K H d x→Rep X.K H e y→RelV x u→RelV y v→EqAt A s u v (pyEq d e):=by
 intro n
 induction n with
 | zero=>
  intro d e A x y u v hn hu hd he ru rv
  have fx:zeG x=true:=by
   cases d with
   | non=>unfold Rep at hd;subst hd;rfl
   | bl b=>unfold Rep at hd;subst hd;rfl
   | int b=>unfold Rep at hd;subst hd;rfl
   | str b=>unfold Rep at hd;subst hd;rfl
   | lst ds=>unfold dep at hn;omega
   | tup ds=>unfold dep at hn;omega
  by_cases fy:zeG y=true
  ·rw[←znY hd he fx fy]
   exact zoJ ru rv fx fy
  ·cases e with
   | non=>unfold Rep at he;subst he;exact absurd rfl fy
   | bl b=>unfold Rep at he;subst he;exact absurd rfl fy
   | int b=>unfold Rep at he;subst he;exact absurd rfl fy
   | str b=>unfold Rep at he;subst he;exact absurd rfl fy
   | lst es=>
    unfold Rep at he
    obtain⟨a,ys,rfl,hq,_⟩:=he
    cases rv
    obtain⟨_,_,p,_⟩:=I.list hq
    rcases zh2 hd fx with ⟨b,rfl,rfl⟩ | ⟨b,rfl,rfl⟩ | ⟨b,rfl,rfl⟩ | ⟨rfl,rfl⟩
    ·cases ru;unfold pyEq;exact EqAt.bool_list b p.isList (by omega)
    ·obtain⟨t,rfl⟩:=ru;unfold pyEq;exact EqAt.int_list b t p.isList (by omega)
    ·obtain⟨t,rfl⟩:=ru;unfold pyEq;exact EqAt.str_list b t p.isList (by omega)
    ·cases ru;unfold pyEq;exact EqAt.none_list p.isList (by omega)
   | tup es=>
    unfold Rep at he
    obtain⟨a,ys,rfl,hq,_⟩:=he
    cases rv
    obtain⟨_,_,p,_⟩:=I.tuple hq
    rcases zh2 hd fx with ⟨b,rfl,rfl⟩ | ⟨b,rfl,rfl⟩ | ⟨b,rfl,rfl⟩ | ⟨rfl,rfl⟩
    ·cases ru;unfold pyEq;exact EqAt.bool_tuple b p (by omega)
    ·obtain⟨t,rfl⟩:=ru;unfold pyEq;exact EqAt.int_tuple b t p (by omega)
    ·obtain⟨t,rfl⟩:=ru;unfold pyEq;exact EqAt.str_tuple b t p (by omega)
    ·cases ru;unfold pyEq;exact EqAt.none_tuple p (by omega)
 | succ n ih=>
  intro d e A x y u v hn hu hd he ru rv
  by_cases h0:dep d≤n
  ·exact ih d e A x y u v h0 (by omega) hd he ru rv
  ·cases d with
   | non=>unfold dep at h0;omega
   | bl b=>unfold dep at h0;omega
   | int b=>unfold dep at h0;omega
   | str b=>unfold dep at h0;omega
   | lst ds=>
    unfold dep at hn
    have hd0:=hd
    unfold Rep at hd
    obtain⟨a,xs,rfl,hx,rx⟩:=hd
    cases ru
    obtain⟨its,vx,px,zx⟩:=I.list hx
    cases e with
    | non=>unfold Rep at he;subst he;cases rv;unfold pyEq;exact EqAt.list_none px.isList (by omega)
    | bl b=>unfold Rep at he;subst he;cases rv;unfold pyEq;exact EqAt.list_bool b px.isList (by omega)
    | int b=>unfold Rep at he;subst he;obtain⟨t,rfl⟩:=rv;unfold pyEq;exact EqAt.list_int b t px.isList (by omega)
    | str b=>unfold Rep at he;subst he;obtain⟨t,rfl⟩:=rv;unfold pyEq;exact EqAt.list_str b t px.isList (by omega)
    | tup es=>
     unfold Rep at he
     obtain⟨b,ys,rfl,hy,ry⟩:=he
     cases rv
     obtain⟨jts,vy,py,zy⟩:=I.tuple hy
     unfold pyEq
     exact EqAt.list_tuple px.isList py (by omega)
    | lst es=>
     have he0:=he
     unfold Rep at he
     obtain⟨b,ys,rfl,hy,ry⟩:=he
     cases rv
     obtain⟨jts,vy,py,zy⟩:=I.list hy
     by_cases hab:a=b
     ·subst hab
      rw[Rep.inj I _ _ hd0 he0,zgz]
      exact EqAt.same _
     ·refine EqAt.of_refs hab ?_
      unfold pyEq
      have l1:=rx.length
      have l2:=ry.length
      have l3:=vx.length
      have l4:=vy.length
      by_cases hl:ds.length=es.length
      ·have q:=RcAt.lists (A:=A) (e:=λj=>pyEq (ds.getD j .non) (es.getD j .non)) px.isList py.isList (by simp only[zst];omega) (by omega)
        (zga rx ry vx vy λd e x y u v hm h1 h2 h3 h4=>ih d e A.in1 x y u v (Nat.le_trans (ze8 hm) (by omega)) (by show A.units+1+n<cLine;omega) h1 h2 h3 h4)
       rw[show its.toArray.size=ds.length by rw[zst];omega,zel hl] at q
       exact q
      ·rw[show zce ds es=false by
        cases h:zce ds es with
        | false=>rfl
        | true=>exact absurd (zek h) hl]
       exact RcAt.lists_lengths px.isList py.isList (by simp only[zst,bne_iff_ne];omega) (by omega)
   | tup ds=>
    unfold dep at hn
    have hd0:=hd
    unfold Rep at hd
    obtain⟨a,xs,rfl,hx,rx⟩:=hd
    cases ru
    obtain⟨its,vx,px,zx⟩:=I.tuple hx
    cases e with
    | non=>unfold Rep at he;subst he;cases rv;unfold pyEq;exact EqAt.tuple_none px (by omega)
    | bl b=>unfold Rep at he;subst he;cases rv;unfold pyEq;exact EqAt.tuple_bool b px (by omega)
    | int b=>unfold Rep at he;subst he;obtain⟨t,rfl⟩:=rv;unfold pyEq;exact EqAt.tuple_int b t px (by omega)
    | str b=>unfold Rep at he;subst he;obtain⟨t,rfl⟩:=rv;unfold pyEq;exact EqAt.tuple_str b t px (by omega)
    | lst es=>
     unfold Rep at he
     obtain⟨b,ys,rfl,hy,ry⟩:=he
     cases rv
     obtain⟨jts,vy,py,zy⟩:=I.list hy
     unfold pyEq
     exact EqAt.tuple_list px py.isList (by omega)
    | tup es=>
     have he0:=he
     unfold Rep at he
     obtain⟨b,ys,rfl,hy,ry⟩:=he
     cases rv
     obtain⟨jts,vy,py,zy⟩:=I.tuple hy
     by_cases hab:a=b
     ·subst hab
      rw[Rep.inj I _ _ hd0 he0,zgz]
      exact EqAt.same _
     ·refine EqAt.of_refs hab ?_
      unfold pyEq
      have l1:=rx.length
      have l2:=ry.length
      have l3:=vx.length
      have l4:=vy.length
      have q:=RcAt.tuples (A:=A) (e:=λj=>pyEq (ds.getD j .non) (es.getD j .non)) px py (by omega)
        (zga rx ry vx vy λd e x y u v hm h1 h2 h3 h4=>ih d e A.in1 x y u v (Nat.le_trans (ze8 hm) (by omega)) (by show A.units+1+n<cLine;omega) h1 h2 h3 h4)
      by_cases hl:ds.length=es.length
      ·rw[show min its.toArray.size jts.toArray.size=ds.length by rw[zst,zst];omega,zel hl,show (its.toArray.size == jts.toArray.size)=true by rw[zst,zst,beq_iff_eq];omega,Bool.and_true] at q
       exact q
      ·rw[show zce ds es=false by
        cases h:zce ds es with
        | false=>rfl
        | true=>exact absurd (zek h) hl]
       rw[show (its.toArray.size == jts.toArray.size)=false by rw[zst,zst,beq_eq_false_iff_ne];omega,Bool.and_false] at q
       exact q
theorem zoS (I:Inv X pins σ H s) {n:Nat}{d e:D}{A:Around}{a b:Addr}(hn:dep d≤n) (hu:A.units+n<cLine) (hd:Rep X.K H d (.ref a)) (he:Rep X.K H e (.ref b)):RcAt A s (.ref a) (.ref b) (pyEq d e)∧RcNeAt A s (.ref a) (.ref b) (!pyEq d e):=by
 cases d with
 | non=>unfold Rep at hd;cases hd
 | bl _=>unfold Rep at hd;cases hd
 | int _=>unfold Rep at hd;cases hd
 | str _=>unfold Rep at hd;cases hd
 | lst ds=>
  unfold dep at hn
  unfold Rep at hd
  obtain⟨_,xs,e1,hx,rx⟩:=hd
  cases e1
  obtain⟨its,vx,px,zx⟩:=I.list hx
  cases e with
  | non=>unfold Rep at he;cases he
  | bl _=>unfold Rep at he;cases he
  | int _=>unfold Rep at he;cases he
  | str _=>unfold Rep at he;cases he
  | tup es=>
   unfold Rep at he
   obtain⟨_,ys,e1,hy,ry⟩:=he
   cases e1
   obtain⟨jts,vy,py,zy⟩:=I.tuple hy
   unfold pyEq
   exact⟨RcAt.list_tuple px.isList py (by omega),RcNeAt.list_tuple px.isList py (by omega)⟩
  | lst es=>
   unfold Rep at he
   obtain⟨_,ys,e1,hy,ry⟩:=he
   cases e1
   obtain⟨jts,vy,py,zy⟩:=I.list hy
   unfold pyEq
   have l1:=rx.length
   have l2:=ry.length
   have l3:=vx.length
   have l4:=vy.length
   by_cases hl:ds.length=es.length
   ·have it:=zga (s:=s) (A:=A.in1) rx ry vx vy λd e x y u v hm h1 h2 h3 h4=>zmz I (n - 1) d e A.in1 x y u v (Nat.le_trans (ze8 hm) (by omega)) (by show A.units+1+(n - 1)<cLine;omega) h1 h2 h3 h4
    have q:=RcAt.lists (A:=A) px.isList py.isList (by simp only[zst];omega) (by omega) it
    have q2:=RcNeAt.lists (A:=A) px.isList py.isList (by simp only[zst];omega) (by omega) it
    rw[show its.toArray.size=ds.length by rw[zst];omega,zel hl] at q q2
    exact⟨q,q2⟩
   ·rw[show zce ds es=false by
     cases h:zce ds es with
     | false=>rfl
     | true=>exact absurd (zek h) hl]
    exact⟨RcAt.lists_lengths px.isList py.isList (by simp only[zst,bne_iff_ne];omega) (by omega),RcNeAt.lists_lengths px.isList py.isList (by simp only[zst,bne_iff_ne];omega) (by omega)⟩
 | tup ds=>
  unfold dep at hn
  unfold Rep at hd
  obtain⟨_,xs,e1,hx,rx⟩:=hd
  cases e1
  obtain⟨its,vx,px,zx⟩:=I.tuple hx
  cases e with
  | non=>unfold Rep at he;cases he
  | bl _=>unfold Rep at he;cases he
  | int _=>unfold Rep at he;cases he
  | str _=>unfold Rep at he;cases he
  | lst es=>
   unfold Rep at he
   obtain⟨_,ys,e1,hy,ry⟩:=he
   cases e1
   obtain⟨jts,vy,py,zy⟩:=I.list hy
   unfold pyEq
   exact⟨RcAt.tuple_list px py.isList (by omega),RcNeAt.tuple_list px py.isList (by omega)⟩
  | tup es=>
   unfold Rep at he
   obtain⟨_,ys,e1,hy,ry⟩:=he
   cases e1
   obtain⟨jts,vy,py,zy⟩:=I.tuple hy
   unfold pyEq
   have l1:=rx.length
   have l2:=ry.length
   have l3:=vx.length
   have l4:=vy.length
   have it:=zga (s:=s) (A:=A.in1) rx ry vx vy λd e x y u v hm h1 h2 h3 h4=>zmz I (n - 1) d e A.in1 x y u v (Nat.le_trans (ze8 hm) (by omega)) (by show A.units+1+(n - 1)<cLine;omega) h1 h2 h3 h4
   have q:=RcAt.tuples (A:=A) px py (by omega) it
   have q2:=RcNeAt.tuples (A:=A) px py (by omega) it
   by_cases hl:ds.length=es.length
   ·rw[show min its.toArray.size jts.toArray.size=ds.length by rw[zst,zst];omega,zel hl,show (its.toArray.size == jts.toArray.size)=true by rw[zst,zst,beq_iff_eq];omega,Bool.and_true] at q q2
    exact⟨q,q2⟩
   ·rw[show zce ds es=false by
     cases h:zce ds es with
     | false=>rfl
     | true=>exact absurd (zek h) hl]
    rw[show (its.toArray.size == jts.toArray.size)=false by rw[zst,zst,beq_eq_false_iff_ne];omega,Bool.and_false] at q q2
    exact⟨q,q2⟩
end

def rEqD (K:Fg) (neg:Bool):R2:=λx y H Q=>∃ a b d e,x=.ref a∧y=.ref b∧Rep K H d (.ref a)∧Rep K H e (.ref b)∧dep d≤60∧Q (.bl (if neg then !pyEq d e else pyEq d e)) H
section
variable {X:Cx}{k:Nat}
theorem zqR (hr:Room k X.A):OpR X (compareOp .Eq) (rEqD X.K false):=by
 intro pins s σ H x y v u Q I rx ry h
 obtain⟨a,b,d,e,rfl,rfl,hd,he,hn,q⟩:=h
 cases rx;cases ry
 exact (zoS I (A:=X.A) hn (by have:=hr.units;omega) hd he).1 X.prog X.w X.xe _ ⟨.bl _,H,I,rfl,q⟩
theorem zqS (hr:Room k X.A):OpR X (compareOp .NotEq) (rEqD X.K true):=by
 intro pins s σ H x y v u Q I rx ry h
 obtain⟨a,b,d,e,rfl,rfl,hd,he,hn,q⟩:=h
 cases rx;cases ry
 exact (zoS I (A:=X.A) hn (by have:=hr.units;omega) hd he).2 X.prog X.w X.xe _ ⟨.bl _,H,I,rfl,q⟩
theorem zj2:zcB X (.builtin "isinstance") (λxs H Q=>∃ x c t b,xs=[x,.ty c]∧TyOf X.K H x t∧PySem.W.kitOne X.K t (.type c)=some b∧Q (.bl b) H):=by
 intro pins s σ H xs us Q I r h
 obtain⟨x,c,t,b,rfl,ty,e,q⟩:=h
 obtain⟨u,v,rfl,ru,rv⟩:=zpd r
 cases rv
 exact zl4 I ru ty e λtk=>⟨.bl b,H,I.tok tk,rfl,q⟩
end
end L2

namespace L2
open PySem PySem.Spec PyProof.Rows

mutual
def RepF (H:Hp):D→V→List Addr→Prop
 | .non,v,fp=>v=.non∧fp=[]
 | .bl b,v,fp=>v=.bl b∧fp=[]
 | .int i,v,fp=>v=.int i∧fp=[]
 | .str x,v,fp=>v=.str x∧fp=[]
 | .lst ds,v,fp=>∃ a xs r,v=.ref a∧fp=a::r∧H a=some (.lst xs)∧zak H ds xs r
 | .tup ds,v,fp=>∃ a xs,v=.ref a∧H a=some (.tup xs)∧zak H ds xs fp
def zak (H:Hp):List D→List V→List Addr→Prop
 | [],vs,fp=>vs=[]∧fp=[]
 | d::ds,vs,fp=>∃ v r f g,vs=v::r∧fp=f++g∧RepF H d v f∧zak H ds r g
end
mutual
theorem RepF.rep {K:Fg}{H:Hp} : ∀ (d:D) {v:V}{fp:List Addr},RepF H d v fp→Rep K H d v
 | .non,_,_,h=>by unfold RepF at h;unfold Rep;exact h.1
 | .bl _,_,_,h=>by unfold RepF at h;unfold Rep;exact h.1
 | .int _,_,_,h=>by unfold RepF at h;unfold Rep;exact h.1
 | .str _,_,_,h=>by unfold RepF at h;unfold Rep;exact h.1
 | .lst ds,_,_,h=>by
  unfold RepF at h;unfold Rep
  obtain⟨a,xs,r,h1,_,h2,h3⟩:=h
  exact⟨a,xs,h1,SqL.of h2,zak.reps ds h3⟩
 | .tup ds,_,_,h=>by
  unfold RepF at h;unfold Rep
  obtain⟨a,xs,h1,h2,h3⟩:=h
  exact⟨a,xs,h1,SqT.of h2,zak.reps ds h3⟩
theorem zak.reps {K:Fg}{H:Hp} : ∀ (ds:List D) {vs:List V}{fp:List Addr},zak H ds vs fp→Reps K H ds vs
 | [],_,_,h=>by unfold zak at h;unfold Reps;exact h.1
 | d::ds,_,_,h=>by
  unfold zak at h;unfold Reps
  obtain⟨v,r,f,g,h1,_,h2,h3⟩:=h
  exact⟨v,r,h1,RepF.rep d h2,zak.reps ds h3⟩
end
def Tups (H H':Hp):Prop:=∀ b xs,H b=some (.tup xs)→H' b=some (.tup xs)
theorem Same.tups {H H':Hp}(e:Same H H'):Tups H H':=λ_ _ h=>e _ _ h
theorem Tups.trans {H H1 H2:Hp}(a:Tups H H1) (b:Tups H1 H2):Tups H H2:=λc o h=>b c o (a c o h)
theorem znZ {H:Hp}{a:Addr}{o:HO}(h:∀ xs,H a≠some (.tup xs)):Tups H (upd H a o):=λb xs e=>by rw[zaq (λz=>h xs (by rw[←z];exact e))];exact e
theorem ze9 {H:Hp}{a:Addr}{o:HO}{ys:List V}(h:H a=some (.lst ys)):Tups H (upd H a o):=znZ λxs e=>by rw[h] at e;cases e
mutual
theorem RepF.frame {H H':Hp}(tk:Tups H H'):∀ (d:D) {v:V}{fp:List Addr},(∀ a∈fp,H' a=H a)→RepF H d v fp→RepF H' d v fp
 | .non,_,_,_,h=>by unfold RepF at *;exact h
 | .bl _,_,_,_,h=>by unfold RepF at *;exact h
 | .int _,_,_,_,h=>by unfold RepF at *;exact h
 | .str _,_,_,_,h=>by unfold RepF at *;exact h
 | .lst ds,_,_,k,h=>by
  unfold RepF at *
  obtain⟨a,xs,r,h1,h0,h2,h3⟩:=h
  subst h0
  exact⟨a,xs,r,h1,rfl,(k a List.mem_cons_self).trans h2,zak.frame tk ds (λb hb=>k b (List.mem_cons_of_mem _ hb)) h3⟩
 | .tup ds,_,_,k,h=>by
  unfold RepF at *
  obtain⟨a,xs,h1,h2,h3⟩:=h
  exact⟨a,xs,h1,tk _ _ h2,zak.frame tk ds k h3⟩
theorem zak.frame {H H':Hp}(tk:Tups H H'):∀ (ds:List D) {vs:List V}{fp:List Addr},(∀ a∈fp,H' a=H a)→zak H ds vs fp→zak H' ds vs fp
 | [],_,_,_,h=>by unfold zak at *;exact h
 | d::ds,_,_,k,h=>by
  unfold zak at *
  obtain⟨v,r,f,g,h1,h0,h2,h3⟩:=h
  subst h0
  exact⟨v,r,f,g,h1,rfl,RepF.frame tk d (λb hb=>k b (List.mem_append_left _ hb)) h2,zak.frame tk ds (λb hb=>k b (List.mem_append_right _ hb)) h3⟩
end
mutual
theorem RepF.has {H:Hp} : ∀ (d:D) {v:V}{fp:List Addr},RepF H d v fp→∀ a∈fp,∃ o,H a=some o
 | .non,_,_,h,a,m=>by unfold RepF at h;rw[h.2] at m;cases m
 | .bl _,_,_,h,a,m=>by unfold RepF at h;rw[h.2] at m;cases m
 | .int _,_,_,h,a,m=>by unfold RepF at h;rw[h.2] at m;cases m
 | .str _,_,_,h,a,m=>by unfold RepF at h;rw[h.2] at m;cases m
 | .lst ds,_,_,h,b,m=>by
  unfold RepF at h
  obtain⟨a,xs,r,h1,h0,h2,h3⟩:=h
  subst h0
  rcases List.mem_cons.mp m with m | m
  ·subst m;exact⟨_,h2⟩
  ·exact zak.has ds h3 b m
 | .tup ds,_,_,h,b,m=>by
  unfold RepF at h
  obtain⟨a,xs,h1,h2,h3⟩:=h
  exact zak.has ds h3 b m
theorem zak.has {H:Hp} : ∀ (ds:List D) {vs:List V}{fp:List Addr},zak H ds vs fp→∀ a∈fp,∃ o,H a=some o
 | [],_,_,h,a,m=>by unfold zak at h;rw[h.2] at m;cases m
 | d::ds,_,_,h,b,m=>by
  unfold zak at h
  obtain⟨v,r,f,g,h1,h0,h2,h3⟩:=h
  subst h0
  rcases zma.mp m with m | m
  ·exact RepF.has d h2 b m
  ·exact zak.has ds h3 b m
end
theorem zak.length {H:Hp} : ∀ {ds:List D}{vs:List V}{fp:List Addr},zak H ds vs fp→ds.length=vs.length
 | [],_,_,h=>by unfold zak at h;rw[h.1];rfl
 | d::ds,_,_,h=>by
  unfold zak at h
  obtain⟨v,r,f,g,rfl,_,_,h3⟩:=h
  simp[zak.length h3]
theorem zak.snoc {H:Hp} : ∀ {ds:List D}{vs:List V}{fp:List Addr}{d:D}{v:V}{f:List Addr},zak H ds vs fp→RepF H d v f→zak H (ds++[d]) (vs++[v]) (fp++f)
 | [],_,_,d,v,f,h,q=>by
  unfold zak at h
  obtain⟨rfl,rfl⟩:=h
  show zak H [d] [v] ([]++f)
  unfold zak
  exact⟨v,[],f,[],rfl,by simp,q,by unfold zak;exact⟨rfl,rfl⟩⟩
 | c::ds,_,_,d,v,f,h,q=>by
  unfold zak at h
  obtain⟨u,r,f1,g1,rfl,rfl,h2,h3⟩:=h
  rw[List.cons_append,List.cons_append,List.append_assoc]
  unfold zak
  exact⟨u,_,f1,_,rfl,rfl,h2,zak.snoc h3 q⟩
theorem zak.ints {H:Hp} : ∀ {ns:List Int},zak H (ns.map D.int) (ns.map V.int) []
 | []=>by unfold List.map zak;exact⟨rfl,rfl⟩
 | n::ns=>by
  rw[zmc,zmc]
  unfold zak
  exact⟨_,_,[],[],rfl,rfl,by unfold RepF;exact⟨rfl,rfl⟩,zak.ints⟩
theorem zak.ints_eq {H:Hp} : ∀ {ns:List Int}{vs:List V}{fp:List Addr},zak H (ns.map D.int) vs fp→vs=ns.map V.int∧fp=[]
 | [],_,_,h=>by unfold List.map zak at h;exact h
 | n::ns,_,_,h=>by
  rw[zmc] at h
  unfold zak at h
  obtain⟨v,r,f,g,rfl,rfl,h1,h2⟩:=h
  unfold RepF at h1
  obtain⟨rfl,rfl⟩:=h1
  obtain⟨rfl,rfl⟩:=zak.ints_eq h2
  exact⟨rfl,rfl⟩
theorem zgb:∀ ns:List Int,dep (.lst (ns.map D.int))≤1
 | []=>by unfold List.map dep deps;exact Nat.le_refl _
 | n::ns=>by
  have ih:=zgb ns
  unfold dep at ih ⊢
  rw[zmc]
  unfold deps dep
  omega
def New (H H':Hp) (d:D) (v:V):Prop:=∃ fp,RepF H' d v fp∧fp.Nodup∧∀ a∈fp,H a=none
abbrev nums (ns:List Int):D:=.lst (ns.map D.int)
theorem New.rep {K:Fg}{H H':Hp}{d:D}{v:V}(h:New H H' d v):Rep K H' d v:=let ⟨_,h,_⟩:=h;RepF.rep d h
theorem New.int {H H':Hp}{i:Int} : New H H' (.int i) (.int i):=⟨[],by unfold RepF;exact⟨rfl,rfl⟩,List.nodup_nil,λ_ m=>by cases m⟩
theorem New.bl {H H':Hp}{i:Bool} : New H H' (.bl i) (.bl i):=⟨[],by unfold RepF;exact⟨rfl,rfl⟩,List.nodup_nil,λ_ m=>by cases m⟩
theorem New.str {H H':Hp}{i:Str} : New H H' (.str i) (.str i):=⟨[],by unfold RepF;exact⟨rfl,rfl⟩,List.nodup_nil,λ_ m=>by cases m⟩
theorem New.non {H H':Hp} : New H H' .non .non:=⟨[],by unfold RepF;exact⟨rfl,rfl⟩,List.nodup_nil,λ_ m=>by cases m⟩
theorem New.back {H0 H H':Hp}{d:D}{v:V}(e:Same H0 H) (h:New H H' d v):New H0 H' d v:=by
 obtain⟨fp,h1,h2,h3⟩:=h
 exact⟨fp,h1,h2,λa m=>e.free (h3 a m)⟩
theorem New.same {H H' H2:Hp}{d:D}{v:V}(e:Same H' H2) (h:New H H' d v):New H H2 d v:=by
 obtain⟨fp,h1,h2,h3⟩:=h
 refine⟨fp,RepF.frame e.tups d (λa m=>?_) h1,h2,h3⟩
 obtain⟨o,ho⟩:=RepF.has d h1 a m
 rw[ho,e a o ho]
theorem New.iif {H H':Hp}{ns:List Int}{v:V} : New H H' (nums ns) v↔∃ a,v=.ref a∧H a=none∧H' a=some (.lst (ns.map V.int)):=by
 constructor
 ·rintro⟨fp,h1,h2,h3⟩
  unfold RepF at h1
  obtain⟨a,xs,r,e1,e2,e3,e4⟩:=h1
  obtain⟨rfl,rfl⟩:=zak.ints_eq e4
  subst e2
  exact⟨a,e1,h3 a List.mem_cons_self,e3⟩
 ·rintro⟨a,e1,e2,e3⟩
  refine⟨[a],?_,by simp,λb m=>by rw[zms.mp m];exact e2⟩
  unfold RepF
  exact⟨a,_,[],e1,rfl,e3,zak.ints⟩
theorem zbi {K:Fg}{H:Hp}{ns:List Int}{v:V} : Rep K H (nums ns) v↔∃ a,v=.ref a∧SqL K H a (ns.map V.int):=by
 unfold Rep
 constructor
 ·rintro⟨a,xs,e1,e2,e3⟩
  rw[Reps.ints.mp e3] at e2
  exact⟨a,e1,e2⟩
 ·rintro⟨a,e1,e2⟩
  exact⟨a,_,e1,e2,Reps.ints.mpr rfl⟩
theorem zaf {H:Hp}{p:Addr}(h:H p=none) (o:HO):Same H (upd H p o):=λb u q=>by rw[zaq (zaM q h)];exact q
theorem New.lst {H1 H':Hp}{ds:List D}{vs:List V}{fp:List Addr}{a:Addr}(h:zak H' ds vs fp) (nd:fp.Nodup) (hf:∀ b∈fp,H1 b=none) (ha:H1 a=none) (na:a∉fp) (hH:H' a=some (.lst vs)):New H1 H' (.lst ds) (.ref a):=by
 refine⟨a::fp,?_,List.nodup_cons.mpr ⟨na,nd⟩,λb m=>?_⟩
 ·unfold RepF;exact⟨a,vs,fp,rfl,rfl,hH,h⟩
 ·rcases List.mem_cons.mp m with m | m
  ·subst m;exact ha
  ·exact hf b m
theorem New.tup {H1 H':Hp}{ds:List D}{vs:List V}{fp:List Addr}{a:Addr}(h:zak H' ds vs fp) (nd:fp.Nodup) (hf:∀ b∈fp,H1 b=none) (hH:H' a=some (.tup vs)):New H1 H' (.tup ds) (.ref a):=by
 refine⟨fp,?_,nd,hf⟩
 unfold RepF;exact⟨a,vs,rfl,hH,h⟩
structure Goes (J:It) (H1:Hp) (n:Nat) (P:Nat→V→Hp→Prop):Prop where
 go:∀ i H,i<n→Same H1 H→J.go i H
 stop:∀ H,Same H1 H→J.stop n H
 yld:∀ i H x H',i<n→Same H1 H→J.yld i H x H'→Same H H'∧P i x H'
theorem zaO {K:Fg}{a:Addr}{xs:List V}{H1:Hp}(h:SqL K H1 a xs):Goes (Itl K a) H1 xs.length (λi x _=>xs[i]?=some x) where
 go:=λi H hi e=>⟨xs,xs[i],e.seq h,by simp[hi]⟩
 stop:=λH e=>⟨xs,e.seq h,Nat.le_refl _⟩
 yld:=λi H x H' hi e q=>by
  obtain⟨rfl,q⟩:=q
  exact⟨Same.refl _,q xs (e.seq h)⟩
theorem zfa {K:Fg}{a:Addr}{xs:List V}{H1:Hp}(h:SqT K H1 a xs):Goes (Itt K a) H1 xs.length (λi x _=>xs[i]?=some x) where
 go:=λi H hi e=>⟨xs,xs[i],e.tup h,by simp[hi]⟩
 stop:=λH e=>⟨xs,e.tup h,Nat.le_refl _⟩
 yld:=λi H x H' hi e q=>by
  obtain⟨rfl,q⟩:=q
  exact⟨Same.refl _,q xs (e.tup h)⟩
theorem zcC {lo:Int}{n:Nat}{H1:Hp} : Goes (Itr lo n) H1 n (λi x _=>x=.int (lo+i)) where
 go:=λi H hi e=>hi
 stop:=λH e=>Nat.le_refl _
 yld:=λi H x H' hi e q=>by
  obtain⟨rfl,q⟩:=q
  exact⟨Same.refl _,q⟩
theorem zh3 {K:Fg}{a b:Addr}{xs ys:List V}{H1:Hp}{n:Nat}(h:SqL K H1 a xs) (h2:SqL K H1 b ys) (hn:n=min xs.length ys.length) :
  Goes (Itz K a b) H1 n (λi v H=>∃ T x y,v=.ref T∧H T=some (.tup [x,y])∧xs[i]?=some x∧ys[i]?=some y) where
 go:=λi H hi e=>⟨xs,ys,xs[i]'(by omega),ys[i]'(by omega),e.seq h,e.seq h2,by simp,by simp⟩
 stop:=λH e=>⟨xs,ys,e.seq h,e.seq h2,by
  rcases Nat.le_total xs.length ys.length with z | z
  ·exact .inl (by simp;omega)
  ·exact .inr (by simp;omega)⟩
 yld:=λi H x H' hi e q=>by
  obtain⟨T,nT,rfl,q⟩:=q
  have i1:i<xs.length:=by omega
  have i2:i<ys.length:=by omega
  have:=q xs ys xs[i] ys[i] (e.seq h) (e.seq h2) (by simp) (by simp)
  subst this
  exact⟨zaf nT _,T,_,_,rfl,zad,by simp,by simp⟩
def zkN (J:It) (g:TG) (tt:TT) (te:TE) (σ0:St) (H1:Hp) (Q:VK):Prop:=∀ D,H1 D=none→
 ∃ W:Nat→Nat→List V→Hp→Prop,(∃ m,W 0 m [] (upd H1 D (.lst [])))∧∀ i m ys H,W i m ys H→H D=some (.lst ys)∧
  ((J.stop i H∧Q (.ref D) H)∨(J.go i H∧ys.length<sizeLine∧∃ N:List V→Hp→Prop,(∀ ys' H',N ys' H'→∃ m',m'<m∧W (i+1) m' ys' H')∧
   ∀ x H',J.yld i H x H'→g x σ0 H' λσ2 H2=>tt σ2 H2 λb H3=>if b=true then te σ2 H3 λy H4=>H4 D=some (.lst ys)∧N (ys++[y]) (upd H4 D (.lst (ys++[y]))) else N ys H3))
def zn0 (J:It) (g:TG) (tb:TS) (D:Ends) (σ:St) (H1:Hp):Prop:=∃ W:Nat→Nat→St→Hp→Prop,(∃ m,W 0 m σ H1)∧∀ i m σ H,W i m σ H→
 (J.stop i H∧D.nx σ H)∨(J.go i H∧∃ N:St→Hp→Prop,(∀ σ' H',N σ' H'→∃ m',m'<m∧W (i+1) m' σ' H')∧∀ x H',J.yld i H x H'→g x σ H' λσ2 H2=>tb {D with nx:=N,ct:=N,bk:=D.nx} σ2 H2)
theorem zaK {J:It}{H1:Hp}{n:Nat}{P:Nat→V→Hp→Prop}{g:TG}{te:TE}{σ0:St}{Q:VK}(wk:Goes J H1 n P) (ds:List D) (hn:ds.length=n) (hz:n≤sizeLine)
  (step:∀ i x d H' (R:VK),i<n→ds[i]?=some d→Same H1 H'→P i x H'→(∀ y H3,Same H' H3→New H' H3 d y→R y H3)→g x σ0 H' λσ2 H2=>te σ2 H2 R)
  (fin:∀ v H',Same H1 H'→New H1 H' (.lst ds) v→Q v H') :
  zkN J g zpu te σ0 H1 Q:=by
 intro Da hD
 refine⟨λi m ys H=>m=n - i∧i≤n∧Same H1 H∧H Da=some (.lst ys)∧∃ fp,zak H (ds.take i) ys fp∧fp.Nodup∧Da∉fp∧∀ b∈fp,H1 b=none,⟨n,rfl,Nat.zero_le _,zaf hD _,zad,[],?_,List.nodup_nil,by simp,λ_ m=>by cases m⟩,?_⟩
 ·rw[List.take_zero];unfold zak;exact⟨rfl,rfl⟩
 rintro i m ys H ⟨rfl,hi,hs,hH,fp,hr,nd,na,hf⟩
 refine⟨hH,?_⟩
 have hl:=hr.length
 rw[List.length_take] at hl
 by_cases hlt:i<n
 ·refine .inr ⟨wk.go i H hlt hs,by omega,λys' H'=>(n - (i+1)<n - i∧i+1≤n∧Same H1 H'∧H' Da=some (.lst ys')∧∃ fp,zak H' (ds.take (i+1)) ys' fp∧fp.Nodup∧Da∉fp∧∀ b∈fp,H1 b=none),λys' H' ⟨q1,q2,q3,q4,q5⟩=>⟨n - (i+1),q1,rfl,q2,q3,q4,q5⟩,λx H' hy=>?_⟩
  obtain⟨s1,hp⟩:=wk.yld i H x H' hlt hs hy
  have hi':i<ds.length:=by omega
  refine step i x ds[i] H' _ hlt (by simp) (hs.trans s1) hp λy H3 s3 hn3=>?_
  have hD3:H3 Da=some (.lst ys):=s3 _ _ (s1 _ _ hH)
  refine⟨hD3,by omega,hlt,?_,zad,?_⟩
  ·intro b o e
   rw[zaq (zaM e hD)]
   exact s3 _ _ (s1 _ _ (hs _ _ e))
  ·obtain⟨fq,h1,h2,h3⟩:=hn3
   have keep:∀ b∈fp,(upd H3 Da (.lst (ys++[y]))) b=H b:=λb hb=>by
    obtain⟨o,ho⟩:=zak.has _ hr b hb
    rw[zaq (show b≠Da from λz=>na (by rw[←z];exact hb)),ho]
    exact s3 _ _ (s1 _ _ ho)
   have nDq:Da∉fq:=λz=>by
    have:=h3 Da z
    rw[s1 _ _ hH] at this;cases this
   have tk2:Tups H3 (upd H3 Da (.lst (ys++[y]))):=ze9 hD3
   have tk1:Tups H (upd H3 Da (.lst (ys++[y]))):=((s1.trans s3).tups).trans tk2
   have keep2:∀ b∈fq,(upd H3 Da (.lst (ys++[y]))) b=H3 b:=λb hb=>by rw[zaq (show b≠Da from λz=>nDq (by rw[←z];exact hb))]
   refine⟨fp++fq,?_,?_,?_,?_⟩
   ·have:=(zak.frame tk1 _ keep hr).snoc (RepF.frame tk2 _ keep2 h1)
    rw[List.take_add_one,show ds[i]?.toList=[ds[i]] by simp[hi']]
    exact this
   ·refine List.nodup_append.mpr ⟨nd,h2,λa ha b hb z=>?_⟩
    subst z
    obtain⟨o,ho⟩:=zak.has _ hr a ha
    have:=h3 a hb
    rw[s1 _ _ ho] at this;cases this
   ·exact λz=>(zma.mp z).elim na nDq
   ·intro b hb
    rcases zma.mp hb with z | z
    ·exact hf b z
    ·exact (hs.trans s1).free (h3 b z)
 ·have e:i=n:=by omega
  subst e
  refine .inl ⟨wk.stop H hs,fin _ _ hs ?_⟩
  rw[List.take_of_length_le (by omega)] at hr
  exact New.lst hr nd hf hD na hH
theorem ziY {J:It}{H1:Hp}{n:Nat}{P:Nat→V→Hp→Prop}{g:TG}{tt:TT}{te:TE}{σ0:St}{Q:VK}(wk:Goes J H1 n P) (k:Nat→Bool) (d:Nat→D) (hz:n≤sizeLine)
  (step:∀ i x H' (R1:VK) (R2:Hp→Prop),i<n→Same H1 H'→P i x H'→(k i=true→∀ y H3,Same H' H3→New H' H3 (d i) y→R1 y H3)→(k i=false→∀ H3,Same H' H3→R2 H3)→
   g x σ0 H' λσ2 H2=>tt σ2 H2 λb H3=>if b=true then te σ2 H3 R1 else R2 H3)
  (fin:∀ v H',Same H1 H'→New H1 H' (.lst (((List.range n).filter k).map d)) v→Q v H') :
  zkN J g tt te σ0 H1 Q:=by
 intro Da hD
 refine⟨λi m ys H=>m=n - i∧i≤n∧Same H1 H∧H Da=some (.lst ys)∧∃ fp,zak H (((List.range i).filter k).map d) ys fp∧fp.Nodup∧Da∉fp∧∀ b∈fp,H1 b=none,⟨n,rfl,Nat.zero_le _,zaf hD _,zad,[],?_,List.nodup_nil,by simp,λ_ m=>by cases m⟩,?_⟩
 ·simp only[List.range_zero,List.filter_nil,List.map_nil];unfold zak;exact⟨rfl,rfl⟩
 rintro i m ys H ⟨rfl,hi,hs,hH,fp,hr,nd,na,hf⟩
 refine⟨hH,?_⟩
 have hl:=hr.length
 have hl2:((List.range i).filter k).length≤i:=by
  have:=List.length_filter_le k (List.range i)
  rwa [List.length_range] at this
 rw[zlm] at hl
 by_cases hlt:i<n
 ·refine .inr ⟨wk.go i H hlt hs,by omega,λys' H'=>(n - (i+1)<n - i∧i+1≤n∧Same H1 H'∧H' Da=some (.lst ys')∧∃ fp,zak H' (((List.range (i+1)).filter k).map d) ys' fp∧fp.Nodup∧Da∉fp∧∀ b∈fp,H1 b=none),λys' H' ⟨q1,q2,q3,q4,q5⟩=>⟨n - (i+1),q1,rfl,q2,q3,q4,q5⟩,λx H' hy=>?_⟩
  obtain⟨s1,hp⟩:=wk.yld i H x H' hlt hs hy
  refine step i x H' _ _ hlt (hs.trans s1) hp (λhk y H3 s3 hn3=>?_) (λhk H3 s3=>?_)
  ·have hD3:H3 Da=some (.lst ys):=s3 _ _ (s1 _ _ hH)
   refine⟨hD3,by omega,hlt,?_,zad,?_⟩
   ·intro b o e
    rw[zaq (zaM e hD)]
    exact s3 _ _ (s1 _ _ (hs _ _ e))
   ·obtain⟨fq,h1,h2,h3⟩:=hn3
    have keep:∀ b∈fp,(upd H3 Da (.lst (ys++[y]))) b=H b:=λb hb=>by
     obtain⟨o,ho⟩:=zak.has _ hr b hb
     rw[zaq (show b≠Da from λz=>na (by rw[←z];exact hb)),ho]
     exact s3 _ _ (s1 _ _ ho)
    have nDq:Da∉fq:=λz=>by
     have:=h3 Da z
     rw[s1 _ _ hH] at this;cases this
    have tk2:Tups H3 (upd H3 Da (.lst (ys++[y]))):=ze9 hD3
    have tk1:Tups H (upd H3 Da (.lst (ys++[y]))):=((s1.trans s3).tups).trans tk2
    have keep2:∀ b∈fq,(upd H3 Da (.lst (ys++[y]))) b=H3 b:=λb hb=>by rw[zaq (show b≠Da from λz=>nDq (by rw[←z];exact hb))]
    refine⟨fp++fq,?_,?_,?_,?_⟩
    ·have:=(zak.frame tk1 _ keep hr).snoc (RepF.frame tk2 _ keep2 h1)
     rw[List.range_succ,List.filter_append,List.map_append,List.filter_cons,hk]
     exact this
    ·refine List.nodup_append.mpr ⟨nd,h2,λa ha b hb z=>?_⟩
     subst z
     obtain⟨o,ho⟩:=zak.has _ hr a ha
     have:=h3 a hb
     rw[s1 _ _ ho] at this;cases this
    ·exact λz=>(zma.mp z).elim na nDq
    ·intro b hb
     rcases zma.mp hb with z | z
     ·exact hf b z
     ·exact (hs.trans s1).free (h3 b z)
  ·refine⟨by omega,hlt,hs.trans (s1.trans s3),s3 _ _ (s1 _ _ hH),fp,?_,nd,na,hf⟩
   rw[List.range_succ,List.filter_append,List.map_append,List.filter_cons,hk]
   simp only[Bool.false_eq_true,if_false,List.filter_nil,List.map_nil,List.append_nil]
   refine zak.frame (s1.trans s3).tups _ (λb hb=>?_) hr
   obtain⟨o,ho⟩:=zak.has _ hr b hb
   rw[ho]
   exact s3 _ _ (s1 _ _ ho)
 ·have e:i=n:=by omega
  subst e
  exact .inl ⟨wk.stop H hs,fin _ _ hs (New.lst hr nd hf hD na hH)⟩
theorem zh4 {J:It}{H1:Hp}{n:Nat}{P:Nat→V→Hp→Prop}{g:TG}{tb:TS}{D:Ends}{σ:St}(wk:Goes J H1 n P) (Pv:Nat→St→Hp→Prop) (h0:Pv 0 σ H1) (hl:∀ i σ H,Pv i σ H→Same H1 H)
  (hs:∀ i x σ H H',i<n→Pv i σ H→Same H H'→P i x H'→g x σ H' λσ2 H2=>tb {D with nx:=Pv (i+1),ct:=Pv (i+1),bk:=D.nx} σ2 H2) (hd:∀ σ H,Pv n σ H→D.nx σ H) :
  zn0 J g tb D σ H1:=by
 refine⟨λi m σ H=>m=n - i∧i≤n∧Pv i σ H,⟨n,by simp,Nat.zero_le _,h0⟩,?_⟩
 rintro i m σ H ⟨rfl,hi,p⟩
 have e:=hl i σ H p
 by_cases hlt:i<n
 ·refine .inr ⟨wk.go i H hlt e,Pv (i+1),λσ' H' p'=>⟨n - (i+1),by omega,rfl,hlt,p'⟩,λx H' y=>?_⟩
  obtain⟨s1,hp⟩:=wk.yld i H x H' hlt e y
  exact hs i x σ H H' hlt p s1 hp
 ·have e':i=n:=by omega
  subst e'
  exact .inl ⟨wk.stop H e,hd σ H p⟩
end L2

namespace L2
open PySem PySem.Spec PyProof.Rows

inductive E3 {α1 α2 α3:Type}(p:α1→α2→α3→Prop):Prop
 | mk (a1:α1) (a2:α2) (a3:α3) (h:p a1 a2 a3):E3 p
inductive E4 {α1 α2 α3 α4:Type}(p:α1→α2→α3→α4→Prop):Prop
 | mk (a1:α1) (a2:α2) (a3:α3) (a4:α4) (h:p a1 a2 a3 a4):E4 p
inductive E5 {α1 α2 α3 α4 α5:Type}(p:α1→α2→α3→α4→α5→Prop):Prop
 | mk (a1:α1) (a2:α2) (a3:α3) (a4:α4) (a5:α5) (h:p a1 a2 a3 a4 a5):E5 p
inductive E11 {α1 α2 α3 α4 α5 α6 α7 α8 α9 α10 α11:Type}(p:α1→α2→α3→α4→α5→α6→α7→α8→α9→α10→α11→Prop):Prop
 | mk (a1:α1) (a2:α2) (a3:α3) (a4:α4) (a5:α5) (a6:α6) (a7:α7) (a8:α8) (a9:α9) (a10:α10) (a11:α11) (h:p a1 a2 a3 a4 a5 a6 a7 a8 a9 a10 a11):E11 p
inductive A3 (p1 p2 p3:Prop):Prop
 | mk (h1:p1) (h2:p2) (h3:p3):A3 p1 p2 p3
inductive A4 (p1 p2 p3 p4:Prop):Prop
 | mk (h1:p1) (h2:p2) (h3:p3) (h4:p4):A4 p1 p2 p3 p4
inductive A5 (p1 p2 p3 p4 p5:Prop):Prop
 | mk (h1:p1) (h2:p2) (h3:p3) (h4:p4) (h5:p5):A5 p1 p2 p3 p4 p5
inductive A6 (p1 p2 p3 p4 p5 p6:Prop):Prop
 | mk (h1:p1) (h2:p2) (h3:p3) (h4:p4) (h5:p5) (h6:p6):A6 p1 p2 p3 p4 p5 p6
inductive A10 (p1 p2 p3 p4 p5 p6 p7 p8 p9 p10:Prop):Prop
 | mk (h1:p1) (h2:p2) (h3:p3) (h4:p4) (h5:p5) (h6:p6) (h7:p7) (h8:p8) (h9:p9) (h10:p10):A10 p1 p2 p3 p4 p5 p6 p7 p8 p9 p10
structure Fn (P:Program) (w:World) (K:Fg) (mg:Str→Option Value) (base:Heap) (x:Str) (ps:List Str) (k:Nat) (sp:Sp):Prop where
 ex:∃ f fd,FnOk P w K mg base CX0 k f fd ps sp∧zfv K fd ps []∧PySem.W.keepIn K (.ref f)=true∧mg x=some (.ref f)
section
variable {X:Cx}{k j:Nat}{ps:List Str}{sp:Sp}{x:Str}{p pos:Pos}{e:Expr}{es:List Expr}{t:TA}
theorem zap (G:Fn X.prog X.w X.K X.mg X.base x ps j sp) (hr:Room k X.A) (hg:Gl X x) (ha:PA X (e::es) t) (hj:j≤k:=by decide) (hdb:(x == ("__debug__" : Str))=false:=by decide)
  (he:starEach (e::es) X.env=(false,eval e X.env)::starEach es X.env:=by rfl) (hpl:(backTo pos (starEach es X.env)).any (·.1)=false:=by rfl):PE X (.Call (.Name x p) (e::es) [] pos) (zl5 sp [] E0 t):=by
 obtain⟨f,fd,F,hb,hk,hm⟩:=G.ex
 exact zl7 (F.mono hj) hr hg hm hk hb .nil zfV ha hdb he hpl
end
theorem Fn.of {P:Program}{w:World}{K:Fg}{mg:Str→Option Value}{base:Heap}{x:Str}{st:Stmt}{f:Addr}{fd:FuncData}{N ps:List Str}{k:Nat}{sp:Sp}(F:Fun K x x st f fd) (S:FSc N ps (zai st)) (m:mg x=some (.ref f))
  (hb:∀ (kV doc pm:Value) (an:Option Addr) (cdv ct:Value) (us:List Value),us.length=ps.length→bindArgs (PySem.W.fnOf x x (zdU st) (zcY st) (zai st) .none kV doc pm an cdv ct) ⟨us,[]⟩=pure (ps.zip us))
  (len:∀ vs H Q E,sp vs H Q E→vs.length=ps.length)
  (hbody:∀ (cdv:Value) (A:Around) (outer:List Env) (s:Shared) (H:Hp) (vs:List V) (Q:VK) (E:XK),Room k (A.deeper (envOfC x (zai st) s.heap.objs.size f cdv))→sp vs H Q E→
   ∃ t,PSs (cxOf CX0 P w K mg base N x (zai st) f cdv A outer s H E).nox (zcY st) t∧t {nx:=λ_ H'=>Q .non H',rt:=Q} (start N vs) H):Fn P w K mg base x ps (k+1) sp:=
 ⟨f,fd,F.ok S len hbody,F.binds hb,F.kp,m⟩
section
variable {X:Cx}{k:Nat}
def zlr (K:Fg):R2:=λx y H Q=>rI0 (λi j=>.int (i+j)) x y H Q∨rCat x y H Q∨zqx K x y H Q
theorem zpw:OpR X (binaryOp .Add) (zlr X.K):=zqp.or (zqF.or zpl)
def zmA:R2:=λx y H Q=>rI CMul (λi j=>.int (i * j)) x y H Q∨rRep x y H Q
theorem zbT:OpR X (binaryOp .Mult) zmA:=zqq.or zqG
def rEqA (K:Fg):R2:=λx y H Q=>rEq x y H Q∨rEqD K false x y H Q
def rNeA (K:Fg):R2:=λx y H Q=>rNe x y H Q∨rEqD K true x y H Q
theorem zqT (hr:Room k X.A):OpR X (compareOp .Eq) (rEqA X.K):=op_eq.or (zqR hr)
theorem zqU (hr:Room k X.A):OpR X (compareOp .NotEq) (rNeA X.K):=op_ne.or (zqS hr)
end

def rLen (K:Fg):List V→Hp→VK→Prop:=λxs H Q=>∃ p ys,xs=[.ref p]∧(SqL K H p ys∨SqT K H p ys)∧Q (.int ys.length) H
def zj3 (K:Fg):List V→Hp→VK→Prop:=λxs H Q=>∃ p ys,xs=[.ref p]∧(SqL K H p ys∨SqT K H p ys)∧∀ l,H l=none→Q (.ref l) (upd H l (.lst ys))
def zmB (K:Fg):List V→Hp→VK→Prop:=λxs H Q=>∃ p ys,xs=[.ref p]∧((SqL K H p ys∧∀ l,H l=none→Q (.ref l) (upd H l (.tup ys)))∨(SqT K H p ys∧Q (.ref p) H))
def rIsi (K:Fg):List V→Hp→VK→Prop:=λxs H Q=>∃ x c t b,xs=[x,.ty c]∧TyOf K H x t∧PySem.W.kitOne K t (.type c)=some b∧Q (.bl b) H
def rAll (K:Fg):List V→Hp→VK→Prop:=λxs H Q=>∃ (p:Addr) (bs:List Bool),xs=[.ref p]∧SqL K H p (bs.map V.bl)∧Q (.bl (bs.all id)) H
def rAny (K:Fg):List V→Hp→VK→Prop:=λxs H Q=>∃ (p:Addr) (bs:List Bool),xs=[.ref p]∧SqL K H p (bs.map V.bl)∧Q (.bl (bs.any id)) H
def rMax:List V→Hp→VK→Prop:=λxs H Q=>∃ i j,xs=[.int i,.int j]∧Q (.int (if j>i then j else i)) H
def rMin:List V→Hp→VK→Prop:=λxs H Q=>∃ i j,xs=[.int i,.int j]∧Q (.int (if j<i then j else i)) H
def rInt:List V→Hp→VK→Prop:=λxs H Q=>(∃ i,xs=[.int i]∧Q (.int i) H)∨∃ k,xs=[.bl k]∧Q (.int (if k then 1 else 0)) H
section
variable {X:Cx}
theorem c_len:zcB X (.builtin "len") (rLen X.K):=ziN
theorem zqV:zcB X (.type "list") (zj3 X.K):=ziO
theorem zpx:zcB X (.type "tuple") (zmB X.K):=zhZ
theorem c_isi:zcB X (.builtin "isinstance") (rIsi X.K):=zj2
theorem c_all (hc:X.calm=true):zcB X (.builtin "all") (rAll X.K):=znW hc
theorem c_any (hc:X.calm=true):zcB X (.builtin "any") (rAny X.K):=znX hc
theorem zqW (hc:X.calm=true):zcB X (.builtin "max") rMax:=zlZ hc
theorem c_min (hc:X.calm=true):zcB X (.builtin "min") rMin:=zl0 hc
theorem c_int:zcB X (.type "int") rInt:=zl1
end

section
variable {K:Fg}{σ:St}{H:Hp}{Q:VK}{ta tb tc:TE}{D:Ends}
theorem zqX {i:Nat}{v:V}(h:σ[i]?=some (some v)) (q:Q v H):tVar i σ H Q:=⟨v,h,q⟩
theorem i_c {v:V}(q:Q v H):tC v σ H Q:=q
theorem i_op {r:R2}(h:ta σ H λx H1=>tb σ H1 λy H2=>r x y H2 Q):tOp r ta tb σ H Q:=h
theorem i_un {r:V→Hp→VK→Prop}(h:ta σ H λx H1=>r x H1 Q):tUn r ta σ H Q:=h
theorem i_rI0 {g:Int→Int→V}{i j:Int}(q:Q (g i j) H):rI0 g (.int i) (.int j) H Q:=⟨i,j,rfl,rfl,q⟩
theorem i_mod {i j:Int}(c:0<j) (q:Q (.int (i % j)) H):rI (λ_ j=>0<j) (λi j=>.int (i % j)) (.int i) (.int j) H Q:=⟨i,j,rfl,rfl,c,q⟩
theorem zn1 (q:Q (.int 1000000000) H):rI CPow (λi j=>.int (i ^ j.toNat)) (.int 10) (.int 9) H Q:=⟨10,9,rfl,rfl,⟨by decide,by decide,by decide⟩,q⟩
theorem zqY {i j:Int}(c:0<j) (c2:j<1073741824) (q:Q (.int (i / j)) H):rI CDiv (λi j=>.int (i / j)) (.int i) (.int j) H Q:=⟨i,j,rfl,rfl,⟨c,c2⟩,q⟩
theorem i_rU {g:Int→V}{i:Int}(q:Q (g i) H):rU g (.int i) H Q:=⟨i,rfl,q⟩
theorem zpy {i j:Int}(q:Q (.int (i+j)) H):zlr K (.int i) (.int j) H Q:=.inl ⟨i,j,rfl,rfl,q⟩
theorem zbz {a b:Addr}{xs ys:List V}(h1:H a=some (.lst xs)) (h2:H b=some (.lst ys)) (z:xs.length+ys.length≤sizeLine) (q:∀ p,H p=none→Q (.ref p) (upd H p (.lst (xs++ys)))):zlr K (.ref a) (.ref b) H Q:=.inr (.inl ⟨a,b,xs,ys,rfl,rfl,h1,h2,z,q⟩)
theorem zkO {i j:Int}(c:CMul i j) (q:Q (.int (i * j)) H):zmA (.int i) (.int j) H Q:=.inl ⟨i,j,rfl,rfl,c,q⟩
theorem i_eqI {i j:Int}(q:Q (.bl (decide (i=j))) H):rEqA K (.int i) (.int j) H Q:=.inl ⟨rfl,by
 rw[show decide (V.int i=V.int j)=decide (i=j) by rw[decide_eq_decide];exact⟨λz=>by cases z;rfl,λz=>by rw[z]⟩];exact q⟩
theorem i_neI {i j:Int}(q:Q (.bl (!decide (i=j))) H):rNeA K (.int i) (.int j) H Q:=.inl ⟨rfl,by
 rw[show decide (V.int i=V.int j)=decide (i=j) by rw[decide_eq_decide];exact⟨λz=>by cases z;rfl,λz=>by rw[z]⟩];exact q⟩
theorem i_eqB {i j:Bool}(q:Q (.bl (decide (i=j))) H):rEqA K (.bl i) (.bl j) H Q:=.inl ⟨rfl,by
 rw[show decide (V.bl i=V.bl j)=decide (i=j) by rw[decide_eq_decide];exact⟨λz=>by cases z;rfl,λz=>by rw[z]⟩];exact q⟩
theorem i_eqS {i j:Str}(q:Q (.bl (decide (i=j))) H):rEqA K (.str i) (.str j) H Q:=.inl ⟨rfl,by
 rw[show decide (V.str i=V.str j)=decide (i=j) by rw[decide_eq_decide];exact⟨λz=>by cases z;rfl,λz=>by rw[z]⟩];exact q⟩
theorem zpz {a b:Addr}{d e:L2.D}(h1:Rep K H d (.ref a)) (h2:Rep K H e (.ref b)) (n:dep d≤60) (q:Q (.bl (pyEq d e)) H):rEqA K (.ref a) (.ref b) H Q:=.inr ⟨a,b,d,e,rfl,rfl,h1,h2,n,q⟩
theorem zqZ {a b:Addr}{d e:L2.D}(h1:Rep K H d (.ref a)) (h2:Rep K H e (.ref b)) (n:dep d≤60) (q:Q (.bl (!pyEq d e)) H):rNeA K (.ref a) (.ref b) H Q:=.inr ⟨a,b,d,e,rfl,rfl,h1,h2,n,q⟩
theorem zq0 {Q:Bool→Hp→Prop}(h:ta σ H λx H'=>∃ k,x=.bl k∧Q k H'):zqr ta σ H Q:=h
theorem i_B {Q:Bool→Hp→Prop}(h:ta σ H λx H'=>∃ k,x=.bl k∧Q k H'):tB ta σ H Q:=h
theorem i_bl {P:Bool→Prop}{b:Bool}(h:P b):∃ k,V.bl b=.bl k∧P k:=⟨b,rfl,h⟩
theorem i_nil {Q:List V→Hp→Prop}(h:Q [] H):tNil σ H Q:=h
theorem zq1 {Q:List V→Hp→Prop}{tr:TA}(h:ta σ H λx H1=>tr σ H1 λxs H2=>Q (x::xs) H2):ze6 ta tr σ H Q:=h
theorem zq2 {sp:Sp}{t:TA}(h:t σ H λvs H1=>sp vs H1 Q E0):zl5 sp [] E0 t σ H Q:=by
 have e:(λ(vs:List V) (H1:Hp)=>sp (vs++[]) H1 Q E0)=λvs H1=>sp vs H1 Q E0:=by funext vs H1;rw[List.append_nil]
 show t σ H λvs H1=>sp (vs++[]) H1 Q E0
 rw[e];exact h
theorem i_CB {r:List V→Hp→VK→Prop}{t:TA}(h:t σ H λvs H1=>r vs H1 Q):tCB r t σ H Q:=h
theorem i_lst {t:TA}(h:t σ H λxs H1=>xs.length≤sizeLine∧∀ p,H1 p=none→Q (.ref p) (upd H1 p (.lst xs))):tLst t σ H Q:=h
theorem i_tup {t:TA}(h:t σ H λxs H1=>xs.length≤sizeLine∧∀ p,H1 p=none→Q (.ref p) (upd H1 p (.tup xs))):tTup t σ H Q:=h
theorem i_asg {g:TG}(h:ta σ H λx H1=>g x σ H1 D.nx):tAsg ta g D σ H:=h
theorem zpA {i:Nat}{v:V}{Q:St→Hp→Prop}(h:Q (σ.set i (some v)) H):znB i v σ H Q:=h
theorem i_ret (h:ta σ H D.rt):tRet ta D σ H:=h
theorem zq3 (h:ta σ H λ_ H1=>D.nx σ H1):zqj ta D σ H:=h
theorem zq4 (h:D.nx σ H):zlQ D σ H:=h
theorem i_if {c:TT}(h:c σ H λb H1=>if b=true then ta σ H1 Q else tb σ H1 Q):tIf c ta tb σ H Q:=h
theorem zcZ {a:Addr}{xs:List V}(h:SqL K H a xs∨SqT K H a xs) (q:Q (.int xs.length) H):rLen K [.ref a] H Q:=⟨a,xs,rfl,h,q⟩
theorem ix0 {α:Type}{x:α}{xs:List α} : ixN (x::xs).length 0=some 0:=by
 unfold ixN
 rw[if_pos (Int.le_refl 0),if_pos (by rw[List.length_cons];omega)]
 rfl
theorem zbV {α:Type}{x:α}{xs:List α} : atI (x::xs) (0:Int)=some x:=zaN (j:=0) rfl
theorem zbA {a:Addr}{xs:List V}{i:Int}{v:V}(h:SqL K H a xs) (e:atI xs i=some v) (q:Q v H):rIx K (.ref a) (.int i) H Q:=.inl ⟨a,xs,i,v,rfl,rfl,h,e,q⟩
theorem za8 {a:Addr}{xs:List V}{i:Int}{v:V}(h:SqT K H a xs) (e:atI xs i=some v) (q:Q v H):rIx K (.ref a) (.int i) H Q:=.inr (.inl ⟨a,xs,i,v,rfl,rfl,h,e,q⟩)
end
section
variable {K:Fg}{σ:St}{H:Hp}{Q:VK}{ta tb tc:TE}{D:Ends}
theorem ziZ {p:Addr}{bs:List Bool}(h:SqL K H p (bs.map V.bl)) (q:Q (.bl (bs.all id)) H):rAll K [.ref p] H Q:=⟨p,bs,rfl,h,q⟩
theorem zq5 {p:Addr}{bs:List Bool}(h:SqL K H p (bs.map V.bl)) (q:Q (.bl (bs.any id)) H):rAny K [.ref p] H Q:=⟨p,bs,rfl,h,q⟩
theorem zq6 {i j:Int}(q:Q (.int (if j>i then j else i)) H):rMax [.int i,.int j] H Q:=⟨i,j,rfl,q⟩
theorem i_min {i j:Int}(q:Q (.int (if j<i then j else i)) H):rMin [.int i,.int j] H Q:=⟨i,j,rfl,q⟩
theorem zq7 {b:Bool}(q:Q (.int (if b then 1 else 0)) H):rInt [.bl b] H Q:=.inr ⟨b,rfl,q⟩
theorem zq8 (h:ta σ H λx H1=>∃ c,x=.bl c∧if c=true then tb σ H1 Q else Q (.bl false) H1):zqi ta tb σ H Q:=h
theorem i_and {t u:TT}{Q:Bool→Hp→Prop}(h:t σ H λc H1=>if c=true then u σ H1 Q else Q false H1):tAnd t u σ H Q:=h
theorem i_or {t u:TT}{Q:Bool→Hp→Prop}(h:t σ H λc H1=>if c=true then Q true H1 else u σ H1 Q):tOr t u σ H Q:=h
theorem i_not {t:TT}{Q:Bool→Hp→Prop}(h:t σ H λc H1=>Q (!c) H1):tNot t σ H Q:=h
theorem zmC {x:V}{t:Value}{c:String}{b:Bool}(ty:TyOf K H x t) (e:PySem.W.kitOne K t (.type c)=some b) (q:Q (.bl b) H) :
  rIsi K [x,.ty c] H Q:=⟨x,c,t,b,rfl,ty,e,q⟩
theorem i_for {wi:TI}{g:TG}{tb:TS}(h:wi σ H λJ H1=>zn0 J g tb D σ H1):tFor wi g tb D σ H:=h
theorem zq9 {ms:List Bool}{wi:TI}{g:TG}{tt:TT}{te:TE}(h:wi σ H λJ H1=>zkN J g tt te (zdK ms σ) H1 Q):znT ms wi g tt te σ H Q:=h
theorem zpB {tl:TE}{R:It→Hp→Prop}(h:tl σ H λx H1=>∃ a,x=.ref a∧(∃ xs,SqL K H1 a xs)∧R (Itl K a) H1):zpa K tl σ H R:=h
theorem zra {tl:TE}{R:It→Hp→Prop}(h:tl σ H λx H1=>∃ a,x=.ref a∧(∃ xs,SqT K H1 a xs)∧R (Itt K a) H1):iTup K tl σ H R:=h
theorem i_zip {t:TA}{R:It→Hp→Prop}(h:t σ H λvs H1=>∃ a b,vs=[.ref a,.ref b]∧(∃ xs,SqL K H1 a xs)∧(∃ ys,SqL K H1 b ys)∧R (Itz K a b) H1):iZip K t σ H R:=h
theorem zrb {t:TA}{R:It→Hp→Prop}(h:t σ H λvs H1=>∃ j:Int,vs=[.int j]∧-(2 ^ 62)≤j∧j<2 ^ 62∧R (Itr 0 j.toNat) H1):zqo t σ H R:=h
theorem zc0 {P:Int→Prop}{j:Int}(h1:-(2 ^ 62)≤j) (h2:j<2 ^ 62) (h:P j):∃ k:Int,[V.int j]=[.int k]∧-(2 ^ 62)≤k∧k<2 ^ 62∧P k:=⟨j,rfl,h1,h2,h⟩
theorem i_sl {r:V→Option Int→Option Int→Hp→VK→Prop}{tl th:TO}(h:ta σ H λx H1=>tl σ H1 λl H2=>th σ H2 λu H3=>r x l u H3 Q):tSl r ta tl th σ H Q:=h
theorem zn2 {Q:Option Int→Hp→Prop}(h:Q none H):zmb σ H Q:=h
theorem zrc {Q:Option Int→Hp→Prop}(h:ta σ H λx H1=>∃ i,x=.int i∧Q (some i) H1):zqv ta σ H Q:=h
theorem zpC {P:Int→Prop}{i:Int}(h:P i):∃ j,V.int i=.int j∧P j:=⟨i,rfl,h⟩
theorem i_par {i j:Nat}{t:TA}(h:t σ H λvs H1=>∃ v w,vs=[v,w]∧D.nx ((σ.set i (some v)).set j (some w)) H1):tPar i j t D σ H:=h
theorem zrd {P:V→V→Prop}{v w:V}(h:P v w):∃ v' w',[v,w]=[v',w']∧P v' w':=⟨v,w,rfl,h⟩
theorem zre {to ti:TE}{t:TSet}{v:V}{Q:St→Hp→Prop}(h:to σ H λo H1=>ti σ H1 λi H2=>t o i v H2 λH3=>Q σ H3):gSub to ti t v σ H Q:=h
theorem zkP {a:Addr}{xs:List V}{k:Int}{j:Nat}{v:V}{Q:Hp→Prop}(h:H a=some (.lst xs)) (e:ixN xs.length k=some j) (q:Q (upd H a (.lst (xs.set j v)))):zqB (.ref a) (.int k) v H Q:=⟨a,xs,k,j,rfl,rfl,h,e,q⟩
theorem zfb {a:Addr}{ys:List V}(h:SqL K H a ys∨SqT K H a ys) (q:∀ l,H l=none→Q (.ref l) (upd H l (.lst ys))) :
  zj3 K [.ref a] H Q:=⟨a,ys,rfl,h,q⟩
end
section
variable {X:Cx}{k:Nat}{pos:Pos}
theorem zaL (K:Fg) (hK:X.K=K:=by rfl):OpR X (binaryOp .Add) (zlr K):=by subst hK;exact zpw
theorem k_eq (K:Fg) (hr:Room k X.A) (hK:X.K=K:=by rfl):OpR X (compareOp .Eq) (rEqA K):=by subst hK;exact zqT hr
theorem k_ne (K:Fg) (hr:Room k X.A) (hK:X.K=K:=by rfl):OpR X (compareOp .NotEq) (rNeA K):=by subst hK;exact zqU hr
theorem k_in (K:Fg) (hK:X.K=K:=by rfl):OpR X (compareOp .In) (rIn K false):=by subst hK;exact zmf
theorem k_ix (K:Fg) (hK:X.K=K:=by rfl):IxR X (rIx K):=by subst hK;exact zqA
def rSl (K:Fg):V→Option Int→Option Int→Hp→VK→Prop:=λx lo hi H Q=>rSlL K x lo hi H Q∨rSlT K x lo hi H Q
theorem k_sl (K:Fg) (hK:X.K=K:=by rfl):SlR X (rSl K):=by subst hK;exact zpo.or zqw
theorem zcD (K:Fg) (hK:X.K=K:=by rfl):zcB X (.builtin "len") (rLen K):=by subst hK;exact c_len
theorem zi0 (K:Fg) (hK:X.K=K:=by rfl):zcB X (.type "list") (zj3 K):=by subst hK;exact zqV
theorem zpD (K:Fg) (hK:X.K=K:=by rfl):zcB X (.type "tuple") (zmB K):=by subst hK;exact zpx
theorem zrf (K:Fg) (hK:X.K=K:=by rfl):zcB X (.builtin "isinstance") (rIsi K):=by subst hK;exact c_isi
theorem zi1 (K:Fg) (hc:X.calm=true) (hK:X.K=K:=by rfl):zcB X (.builtin "all") (rAll K):=by subst hK;exact c_all hc
theorem zpE (K:Fg) (hc:X.calm=true) (hK:X.K=K:=by rfl):zcB X (.builtin "any") (rAny K):=by subst hK;exact c_any hc
theorem zaX (K:Fg) {tg l:Expr}{tl:TE}(hl:PE X l tl) (hK:X.K=K:=by rfl):PI X tg l (zpa K tl):=by subst hK;exact zpb hl
theorem zi2 (K:Fg) {tg l:Expr}{tl:TE}(hl:PE X l tl) (hK:X.K=K:=by rfl):PI X tg l (iTup K tl):=by subst hK;exact zqn hl
theorem zmD (K:Fg) {elts:List Expr}{kx:Nat}{tpos:Pos}{a b:Expr}{ta:TA}{p:Pos}(hg:Gl X "zip") (hm:X.mg "zip"=none) (ha:PA X [a,b] ta) (hK:X.K=K:=by rfl) (hs:starEach [a,b] X.env=[(false,eval a X.env),(false,eval b X.env)]:=by rfl) (hs2:starEach [b] X.env=[(false,eval b X.env)]:=by rfl) :
  PI X (.Tuple elts kx tpos) (.Call (.Name "zip" p) [a,b] [] pos) (iZip K ta):=by subst hK;exact zqQ hg hm ha hs hs2
theorem zfM (K:Fg) {es:List Expr}{kk:Nat}{t:TGs}{n:Nat}(hc:X.calm=true) (h:PGs X es t) (hK:X.K=K:=by rfl) (hn:(assignEach es X.env).length=n:=by rfl) (hst:(assignEach es X.env).findIdx? (·.1)=none:=by rfl) :
  PG X (.Tuple es kk pos) (gTup K n t):=by subst hK;exact zqk hc h hn hst
theorem zbD (K:Fg) {e:Expr}{f:Str}{ta:TE}(he:PE X e ta) (hb:attributeBase e f X.env (eval e X.env)=eval e X.env) (hK:X.K=K:=by rfl):PE X (.Attribute e f pos) (tFld K ta f):=by subst hK;exact zqs he hb
end
theorem zem {n:Nat}{f:Nat→D}{i:Nat}{d:D}(h:((List.range n).map f)[i]?=some d):d=f i:=by
 rw[zgm] at h
 obtain⟨j,hj,rfl⟩:=zme.mp h
 have hl:=(zge.mp hj).1
 rw[List.length_range] at hl
 have hi:i<n:=hl
 rw[List.getElem?_range hi] at hj
 cases hj;rfl
theorem zbd {X:Cx}{x:Str}{i:Int}{pos:Pos}(hg:Gl X x) (hm:∃ t,X.mg x=some (.int i t)) (hd:(x == ("__debug__" : Str))=false:=by decide):PE X (.Name x pos) (tC (.int i)):=by
 obtain⟨t,hm⟩:=hm
 exact zlO hg hm ⟨t,rfl⟩ hd
theorem iteNT {A B:Prop}(h:B):if (!true)=true then A else B:=iteF h
theorem iteNF {A B:Prop}(h:A):if (!false)=true then A else B:=iteT h
theorem zan {n:Nat}(h:n≤1000):n≤sizeLine:=Nat.le_of_lt (zbs h)
theorem sl {n:Nat}(h:Nat.ble n 1000=true):n≤sizeLine:=zan (Nat.le_of_ble_eq_true h)
theorem i_bm {K:Fg}{σ:St}{H:Hp}{Q:VK}{T:String}{r:V→List V→Hp→VK→Prop}{to:TE}{t:TA}(h:to σ H λx H1=>tyV K T x H1∧t σ H1 λxs H2=>r x xs H2 Q):tBM K T r to t σ H Q:=h
theorem tyL {K:Fg}{H:Hp}{a:Addr}{xs:List V}(h:H a=some (.lst xs)):tyV K "list" (.ref a) H:=.inl ⟨rfl,_,SqL.of h⟩
theorem zrg {H:Hp}{Q:VK}{a:Addr}{xs:List V}{y:V}(h:H a=some (.lst xs)) (z:xs.length<sizeLine) (q:Q .non (upd H a (.lst (xs++[y])))):zmh (.ref a) [y] H Q:=⟨a,xs,y,rfl,rfl,h,z,q⟩
theorem zak.bls_eq {H:Hp} : ∀ {bs:List Bool}{vs:List V}{fp:List Addr},zak H (bs.map D.bl) vs fp→vs=bs.map V.bl∧fp=[]
 | [],_,_,h=>by unfold List.map zak at h;exact h
 | n::ns,_,_,h=>by
  rw[zmc] at h
  unfold zak at h
  obtain⟨v,r,f,g,rfl,rfl,h1,h2⟩:=h
  unfold RepF at h1
  obtain⟨rfl,rfl⟩:=h1
  obtain⟨rfl,rfl⟩:=zak.bls_eq h2
  exact⟨rfl,rfl⟩
theorem New.bls {H H':Hp}{bs:List Bool}{v:V}(h:New H H' (.lst (bs.map D.bl)) v):∃ a,v=.ref a∧H a=none∧H' a=some (.lst (bs.map V.bl)):=by
 obtain⟨fp,h1,h2,h3⟩:=h
 unfold RepF at h1
 obtain⟨a,xs,r,e1,e2,e3,e4⟩:=h1
 obtain⟨rfl,rfl⟩:=zak.bls_eq e4
 subst e2
 exact⟨a,e1,h3 a List.mem_cons_self,e3⟩
theorem New.lso {H H':Hp}{ds:List D}{v:V}(h:New H H' (.lst ds) v):∃ a vs fp,v=.ref a∧H a=none∧H' a=some (.lst vs)∧zak H' ds vs fp∧fp.Nodup∧a∉fp∧∀ b∈fp,H b=none:=by
 obtain⟨fp,h1,h2,h3⟩:=h
 unfold RepF at h1
 obtain⟨a,xs,r,e1,e2,e3,e4⟩:=h1
 subst e2
 exact⟨a,xs,r,e1,h3 a List.mem_cons_self,e3,e4,(List.nodup_cons.mp h2).2,(List.nodup_cons.mp h2).1,λb m=>h3 b (List.mem_cons_of_mem _ m)⟩
theorem zgA {lo:Int}{n:Nat}{g:TG}{tb:TS}{D:Ends}{σ:St}{H:Hp}(Pv:Nat→St→Hp→Prop) (h0:Pv 0 σ H)
  (hs:∀ i σ H,i<n→Pv i σ H→g (.int (lo+i)) σ H λσ2 H2=>tb {D with nx:=Pv (i+1),ct:=Pv (i+1),bk:=D.nx} σ2 H2) (hd:∀ σ H,Pv n σ H→D.nx σ H):zn0 (Itr lo n) g tb D σ H:=zlT Pv h0 hs hd
theorem zgB {K:Fg}{a:Addr}{xs:List V}{g:TG}{tb:TS}{D:Ends}{σ:St}{H:Hp}(Pv:Nat→St→Hp→Prop) (h0:Pv 0 σ H) (hl:∀ i σ H,i≤xs.length→Pv i σ H→SqL K H a xs)
  (hs:∀ i x σ H,xs[i]?=some x→Pv i σ H→g x σ H λσ2 H2=>tb {D with nx:=Pv (i+1),ct:=Pv (i+1),bk:=D.nx} σ2 H2) (hd:∀ σ H,Pv xs.length σ H→D.nx σ H):zn0 (Itl K a) g tb D σ H:=znE Pv h0 hl hs hd
theorem zj4 {n:Nat} : ∀ {ds:List D},(∀ d∈ds,dep d≤n)→deps ds≤n
 | [],_=>by unfold deps;exact Nat.zero_le _
 | d::ds,h=>by
  unfold deps
  exact Nat.max_le.mpr ⟨h d List.mem_cons_self,zj4 λe he=>h e (List.mem_cons_of_mem _ he)⟩
theorem zfc (ls:List (List Int)):dep (.lst (ls.map nums))≤2:=by
 unfold dep
 refine Nat.succ_le_succ (zj4 λd hd=>?_)
 obtain⟨l,_,rfl⟩:=zmm.mp hd
 exact zgb l
theorem boot_len:bootBuiltins "len"=some (.builtin "len"):=PySem.boot_len
theorem zcS:bootBuiltins "list"=some (.type "list"):=by decide +kernel
theorem zls:bootBuiltins "tuple"=some (.type "tuple"):=by decide +kernel
theorem zn3:bootBuiltins "int"=some (.type "int"):=by decide +kernel
theorem zmE:bootBuiltins "bool"=some (.type "bool"):=by decide +kernel
theorem zen:bootBuiltins "isinstance"=some (.builtin "isinstance"):=by decide +kernel
theorem zdw:bootBuiltins "all"=some (.builtin "all"):=by decide +kernel
theorem zh5:bootBuiltins "any"=some (.builtin "any"):=by decide +kernel
theorem zkQ:bootBuiltins "max"=some (.builtin "max"):=by decide +kernel
theorem zn4:bootBuiltins "min"=some (.builtin "min"):=by decide +kernel
theorem zkR {K:Fg}{t:Value} : PySem.W.kitOne K t t=some true:=by unfold PySem.W.kitOne;simp
end L2

namespace L2
open PySem PySem.Spec PyProof.Rows
structure Mkr (P:Program) (w:World) (K:Fg) (mg:Str→Option Value) (base:Heap) (x:Str) (C:Addr) (ps:List Str) (k:Nat) (sp:Sp):Prop where
 ex:∃ f fd,Mk K C f∧FnOk P w K mg base CX0 k f fd ps sp∧zfv K fd ps []∧mg x=some (.ref C)
section
variable {X:Cx}{k j:Nat}{C:Addr}{ps:List Str}{sp:Sp}{x:Str}{p pos:Pos}{e:Expr}{es:List Expr}{t:TA}
theorem zrh (G:Mkr X.prog X.w X.K X.mg X.base x C ps j sp) (hr:Room k X.A) (hg:Gl X x) (ha:PA X (e::es) t) (hj:j+1≤k:=by decide) (hdb:(x == ("__debug__" : Str))=false:=by decide)
  (he:starEach (e::es) X.env=(false,eval e X.env)::starEach es X.env:=by rfl) (hpl:(backTo pos (starEach es X.env)).any (·.1)=false:=by rfl):PE X (.Call (.Name x p) (e::es) [] pos) (zl6 C sp [] E0 t):=by
 obtain⟨f,fd,M,F,hb,hm⟩:=G.ex
 exact zpk M F (hr.mono hj) hg hm hb .nil zfV ha hdb he hpl
theorem zri {σ:St}{H:Hp}{Q:VK}(h:t σ H λvs H1=>∀ y dx,H1 y=none→H1 dx=none→dx≠y→sp (.ref y::vs) (upd (upd H1 dx (.own y)) y (.ins C dx [])) (λv H2=>v=.non∧Q (.ref y) H2) E0):zl6 C sp [] E0 t σ H Q:=by
 have e:(λ(vs:List V) (H1:Hp)=>∀ y dx,H1 y=none→H1 dx=none→dx≠y→sp (.ref y::(vs++[])) (upd (upd H1 dx (.own y)) y (.ins C dx [])) (λv H2=>v=.non∧Q (.ref y) H2) E0)
   = λvs H1=>∀ y dx,H1 y=none→H1 dx=none→dx≠y→sp (.ref y::vs) (upd (upd H1 dx (.own y)) y (.ins C dx [])) (λv H2=>v=.non∧Q (.ref y) H2) E0:=by funext vs H1;rw[List.append_nil]
 show t σ H λvs H1=>∀ y dx,H1 y=none→H1 dx=none→dx≠y→sp (.ref y::(vs++[])) (upd (upd H1 dx (.own y)) y (.ins C dx [])) (λv H2=>v=.non∧Q (.ref y) H2) E0
 rw[e];exact h
end
section
variable {K:Fg}{σ:St}{H:Hp}{Q:VK}{ta tv:TE}{D:Ends}{f:Str}
theorem i_fld (h:ta σ H λx H1=>FldI K f x H1 Q):tFld K ta f σ H Q:=h
theorem zrj (h:tv σ H λy H1=>ta σ H1 λx H2=>FldS K f y x H2 (D.nx σ)):sFld K ta tv f D σ H:=h
end
theorem zpF {r r':R2}{σ:St}{H:Hp}{Q:VK}{ta tb tc:TE}(h:ta σ H λx H1=>tb σ H1 λy H2=>r x y H2 λz H3=>∃ k,z=.bl k∧if k=true then tc σ H3 λw H4=>r' y w H4 Q else Q (.bl false) H3):zoH r r' ta tb tc σ H Q:=h
theorem zak.nil {H:Hp} : zak H [] [] []:=by unfold zak;exact⟨rfl,rfl⟩
theorem zak.cint {H:Hp}{i:Int}{ds:List D}{xs:List V}{fp:List Addr}(h:zak H ds xs fp):zak H (.int i::ds) (.int i::xs) fp:=by
 unfold zak;exact⟨_,_,[],fp,rfl,rfl,by unfold RepF;exact⟨rfl,rfl⟩,h⟩
theorem zak.cstr {H:Hp}{i:Str}{ds:List D}{xs:List V}{fp:List Addr}(h:zak H ds xs fp):zak H (.str i::ds) (.str i::xs) fp:=by
 unfold zak;exact⟨_,_,[],fp,rfl,rfl,by unfold RepF;exact⟨rfl,rfl⟩,h⟩
theorem zak.cany {H:Hp}{d:D}{v:V}{f:List Addr}{ds:List D}{xs:List V}{fp:List Addr}(q:RepF H d v f) (h:zak H ds xs fp):zak H (d::ds) (v::xs) (f++fp):=by
 unfold zak;exact⟨_,_,f,fp,rfl,rfl,q,h⟩
theorem RepF.line {H:Hp}{a:Addr}{ns:List Int}(h:H a=some (.lst (ns.map V.int))):RepF H (nums ns) (.ref a) [a]:=by
 unfold RepF;exact⟨a,_,[],rfl,rfl,h,zak.ints⟩
theorem RepF.pair {H:Hp}{t:Addr}{i j:Int}(h:H t=some (.tup [.int i,.int j])):RepF H (.tup [.int i,.int j]) (.ref t) []:=by
 unfold RepF;exact⟨t,_,rfl,h,zak.nil.cint.cint⟩
theorem zak.lines {H:Hp} : ∀ {ls:List (List Int)}{vs:List V}{fp:List Addr},zak H (ls.map nums) vs fp→vs=fp.map V.ref∧fp.length=ls.length∧∀ (i:Nat) (a:Addr),fp[i]?=some a→∃ l,ls[i]?=some l∧H a=some (.lst (l.map V.int))
 | [],_,_,h=>by
  rw[List.map_nil] at h;unfold zak at h
  obtain⟨rfl,rfl⟩:=h
  exact⟨rfl,rfl,λi a e=>by simp at e⟩
 | l::ls,_,_,h=>by
  rw[zmc] at h;unfold zak at h
  obtain⟨v,r,f,g,rfl,rfl,h1,h2⟩:=h
  obtain⟨rfl,e2,e3⟩:=zak.lines h2
  unfold RepF at h1
  obtain⟨a,xs,r,rfl,rfl,e4,e5⟩:=h1
  obtain⟨rfl,rfl⟩:=zak.ints_eq e5
  refine⟨rfl,by simp[e2],λi b e=>?_⟩
  cases i with
  | zero=>simp at e;subst e;exact⟨l,rfl,e4⟩
  | succ i=>exact e3 i b (by simpa using e)
theorem zi3 {K:Fg} : PySem.W.kitOne K (.type "int") (.type "list")=some false:=by rfl
theorem zi4 {K:Fg} : PySem.W.kitOne K (.type "str") (.type "list")=some false:=by rfl
theorem zhi {K:Fg} : PySem.W.kitOne K (.type "tuple") (.type "list")=some false:=by rfl
theorem zn5 {K:Fg}{H:Hp}{Q:VK}{a:Addr}{ys:List V}(h:SqL K H a ys) (q:∀ l,H l=none→Q (.ref l) (upd H l (.tup ys))):zmB K [.ref a] H Q:=⟨a,ys,rfl,.inl ⟨h,q⟩⟩
theorem i_in {K:Fg}{H:Hp}{Q:VK}{neg:Bool}{x:V}{a:Addr}{xs:List V}(h:SqL K H a xs∨SqT K H a xs) (f1:zeG x=true) (f2:xs.all zeG=true) (q:Q (.bl (if neg then !inV x xs else inV x xs)) H):rIn K neg x (.ref a) H Q:=⟨a,xs,rfl,h,f1,f2,q⟩
theorem zdF {X:Cx}{x:Str}{a:Addr}{pos:Pos}(hg:Gl X x) (hm:X.mg x=some (.ref a)) (hd:(x == ("__debug__" : Str))=false:=by decide):PE X (.Name x pos) (tC (.ref a)):=zlO hg hm rfl hd
def News (H H':Hp) (ds:List D) (vs:List V):Prop:=∃ fp,zak H' ds vs fp∧fp.Nodup∧∀ a∈fp,H a=none
theorem News.nil {H H':Hp} : News H H' [] []:=⟨[],zak.nil,List.nodup_nil,λ_ m=>by cases m⟩
theorem News.snoc {H H1 H2:Hp}{ds:List D}{vs:List V}{d:D}{v:V}(h:News H H1 ds vs) (e:Same H H1) (e2:Same H1 H2) (n:New H1 H2 d v):News H H2 (ds++[d]) (vs++[v]):=by
 obtain⟨fp,h1,h2,h3⟩:=h
 obtain⟨fq,g1,g2,g3⟩:=n
 have keep:∀ a∈fp,H2 a=H1 a:=λa m=>by
  obtain⟨o,ho⟩:=zak.has ds h1 a m
  rw[ho,e2 a o ho]
 refine⟨fp++fq,(zak.frame e2.tups ds keep h1).snoc g1,List.nodup_append.mpr ⟨h2,g2,λa ha b hb z=>?_⟩,λa m=>?_⟩
 ·subst z
  obtain⟨o,ho⟩:=zak.has ds h1 a ha
  have:=g3 a hb
  rw[ho] at this;cases this
 ·rcases zma.mp m with m | m
  ·exact h3 a m
  ·exact e.free (g3 a m)
theorem News.lst {H H1:Hp}{ds:List D}{vs:List V}{a:Addr}(h:News H H1 ds vs) (e:Same H H1) (ha:H1 a=none):New H (upd H1 a (.lst vs)) (.lst ds) (.ref a):=by
 obtain⟨fp,h1,h2,h3⟩:=h
 have s:=zaf ha (.lst vs)
 refine New.lst (zak.frame s.tups ds (λb m=>?_) h1) h2 h3 (e.free ha) (λm=>?_) zad
 ·obtain⟨o,ho⟩:=zak.has ds h1 b m
  rw[ho,s b o ho]
 ·obtain⟨o,ho⟩:=zak.has ds h1 a m
  rw[ha] at ho;cases ho
theorem New.news {H H':Hp}{ds:List D}{v:V}(h:New H H' (.lst ds) v):∃ a vs,v=.ref a∧H a=none∧H' a=some (.lst vs)∧News H H' ds vs:=by
 obtain⟨a,vs,fp,e1,e2,e3,e4,e5,_,e6⟩:=New.lso h
 exact⟨a,vs,e1,e2,e3,fp,e4,e5,e6⟩
end L2

namespace L2
open PySem PySem.Spec PyProof.Rows
def seqO:HO→Bool
 | .lst _=>true
 | .tup _=>true
 | .frz _ _=>true
 | _=>false
def Sq (H H':Hp):Prop:=∀ b o,H b=some o→seqO o=true→H' b=some o
theorem Same.sq {H H':Hp}(e:Same H H'):Sq H H':=λb o h _=>e b o h
theorem Sq.trans {H H1 H2:Hp}(a:Sq H H1) (b:Sq H1 H2):Sq H H2:=λc o h q=>b c o (a c o h q) q
theorem zgC {H:Hp}{p:Addr}{o u:HO}(h:H p=some u) (n:seqO u=false):Sq H (upd H p o):=λb w e q=>by
 rw[zaq (λz=>by rw[z,h] at e;cases e;rw[n] at q;cases q)];exact e
theorem Sq.lst {K:Fg}{H H':Hp}{a:Addr}{xs:List V}(e:Sq H H') (h:SqL K H a xs):SqL K H' a xs:=by
 rcases h with (h | ⟨o,h⟩) | h
 ·exact .inl (.inl (e _ _ h rfl))
 ·exact .inl (.inr ⟨o,e _ _ h rfl⟩)
 ·exact .inr h
theorem Sq.tup {K:Fg}{H H':Hp}{a:Addr}{xs:List V}(e:Sq H H') (h:SqT K H a xs):SqT K H' a xs:=by
 rcases h with (h | ⟨o,h⟩) | h
 ·exact .inl (.inl (e _ _ h rfl))
 ·exact .inl (.inr ⟨o,e _ _ h rfl⟩)
 ·exact .inr h
mutual
theorem Rep.sq {K:Fg}{H H':Hp}(e:Sq H H'):∀ (d:D) {v:V},Rep K H d v→Rep K H' d v
 | .non,_,h=>by unfold Rep at *;exact h
 | .bl _,_,h=>by unfold Rep at *;exact h
 | .int _,_,h=>by unfold Rep at *;exact h
 | .str _,_,h=>by unfold Rep at *;exact h
 | .lst ds,_,h=>by
  unfold Rep at *
  obtain⟨a,xs,h1,h2,h3⟩:=h
  exact⟨a,xs,h1,e.lst h2,Reps.sq e ds h3⟩
 | .tup ds,_,h=>by
  unfold Rep at *
  obtain⟨a,xs,h1,h2,h3⟩:=h
  exact⟨a,xs,h1,e.tup h2,Reps.sq e ds h3⟩
theorem Reps.sq {K:Fg}{H H':Hp}(e:Sq H H'):∀ (ds:List D) {vs:List V},Reps K H ds vs→Reps K H' ds vs
 | [],_,h=>by unfold Reps at *;exact h
 | d::ds,_,h=>by
  unfold Reps at *
  obtain⟨v,r,h1,h2,h3⟩:=h
  exact⟨v,r,h1,Rep.sq e d h2,Reps.sq e ds h3⟩
end
mutual
theorem RepF.sq {H H':Hp}(e:Sq H H'):∀ (d:D) {v:V}{fp:List Addr},RepF H d v fp→RepF H' d v fp
 | .non,_,_,h=>by unfold RepF at *;exact h
 | .bl _,_,_,h=>by unfold RepF at *;exact h
 | .int _,_,_,h=>by unfold RepF at *;exact h
 | .str _,_,_,h=>by unfold RepF at *;exact h
 | .lst ds,_,_,h=>by
  unfold RepF at *
  obtain⟨a,xs,r,h1,h0,h2,h3⟩:=h
  exact⟨a,xs,r,h1,h0,e _ _ h2 rfl,zak.sq e ds h3⟩
 | .tup ds,_,_,h=>by
  unfold RepF at *
  obtain⟨a,xs,h1,h2,h3⟩:=h
  exact⟨a,xs,h1,e _ _ h2 rfl,zak.sq e ds h3⟩
theorem zak.sq {H H':Hp}(e:Sq H H'):∀ (ds:List D) {vs:List V}{fp:List Addr},zak H ds vs fp→zak H' ds vs fp
 | [],_,_,h=>by unfold zak at *;exact h
 | d::ds,_,_,h=>by
  unfold zak at *
  obtain⟨v,r,f,g,h1,h0,h2,h3⟩:=h
  exact⟨v,r,f,g,h1,h0,RepF.sq e d h2,zak.sq e ds h3⟩
end
def Free (H H':Hp):Prop:=∀ a,H' a=none→H a=none
theorem Same.fr {H H':Hp}(e:Same H H'):Free H H':=λ_ h=>e.free h
theorem Free.trans {H H1 H2:Hp}(a:Free H H1) (b:Free H1 H2):Free H H2:=λc h=>a c (b c h)
theorem zeE {H:Hp}{p:Addr}{o:HO} : Free H (upd H p o):=λa h=>by
 by_cases e:a=p
 ·subst e;rw[zad] at h;cases h
 ·rw[zaq e] at h;exact h
theorem News.sq {H H1 H2:Hp}{ds:List D}{vs:List V}(e:Sq H1 H2) (h:News H H1 ds vs):News H H2 ds vs:=by
 obtain⟨fp,h1,h2,h3⟩:=h
 exact⟨fp,zak.sq e ds h1,h2,h3⟩
theorem New.sq {H H1 H2:Hp}{d:D}{v:V}(e:Sq H1 H2) (h:New H H1 d v):New H H2 d v:=by
 obtain⟨fp,h1,h2,h3⟩:=h
 exact⟨fp,RepF.sq e d h1,h2,h3⟩
theorem News.snoc' {H H1 H2:Hp}{ds:List D}{vs:List V}{d:D}{v:V}(h:News H H1 ds vs) (e:Free H H1) (e2:Same H1 H2) (n:New H1 H2 d v):News H H2 (ds++[d]) (vs++[v]):=by
 obtain⟨fp,h1,h2,h3⟩:=h
 obtain⟨fq,g1,g2,g3⟩:=n
 refine⟨fp++fq,(zak.sq e2.sq ds h1).snoc g1,List.nodup_append.mpr ⟨h2,g2,λa ha b hb z=>?_⟩,λa m=>?_⟩
 ·subst z
  obtain⟨o,ho⟩:=zak.has ds h1 a ha
  have:=g3 a hb
  rw[ho] at this;cases this
 ·rcases zma.mp m with m | m
  ·exact h3 a m
  ·exact e a (g3 a m)
def Part (H:Hp) (d:D) (x:V):Prop:=(∃ i,d=.int i∧x=.int i)∨(∃ s,d=.str s∧x=.str s)∨(∃ b l,d=nums l∧x=.ref b∧H b=some (.lst (l.map V.int)))∨∃ b i j,d=.tup [.int i,.int j]∧x=.ref b∧H b=some (.tup [.int i,.int j])
def zcE (H:Hp) (d:D) (v:V):Prop:=∃ t xs ds,d=.tup ds∧v=.ref t∧H t=some (.tup xs)∧ds.length=xs.length∧ds.length≤8∧∀ (i:Nat) dd x,ds[i]?=some dd→xs[i]?=some x→Part H dd x
theorem Part.sq {H H':Hp}(e:Sq H H') {d:D}{x:V}(h:Part H d x):Part H' d x:=by
 rcases h with h | h | ⟨b,l,h1,h2,h3⟩ | ⟨b,i,j,h1,h2,h3⟩
 ·exact .inl h
 ·exact .inr (.inl h)
 ·exact .inr (.inr (.inl ⟨b,l,h1,h2,e _ _ h3 rfl⟩))
 ·exact .inr (.inr (.inr ⟨b,i,j,h1,h2,e _ _ h3 rfl⟩))
theorem zcE.sq {H H':Hp}(e:Sq H H') {d:D}{v:V}(h:zcE H d v):zcE H' d v:=by
 obtain⟨t,xs,ds,h1,h2,h3,h4,h5,h6⟩:=h
 exact⟨t,xs,ds,h1,h2,e _ _ h3 rfl,h4,h5,λi dd x e1 e2=>(h6 i dd x e1 e2).sq e⟩
def zmF (d:D):Prop:=(∃ i,d=.int i)∨(∃ s,d=.str s)∨(∃ l,l.length=9∧d=nums l)∨∃ i j,d=.tup [.int i,.int j]
theorem zpG {H:Hp}{d:D}{v:V}{fp:List Addr}(s:zmF d) (h:RepF H d v fp):Part H d v:=by
 rcases s with ⟨i,rfl⟩ | ⟨i,rfl⟩ | ⟨l,_,rfl⟩ | ⟨i,j,rfl⟩
 ·unfold RepF at h;exact .inl ⟨i,rfl,h.1⟩
 ·unfold RepF at h;exact .inr (.inl ⟨i,rfl,h.1⟩)
 ·unfold RepF at h
  obtain⟨a,xs,r,h1,_,h2,h3⟩:=h
  obtain⟨rfl,_⟩:=zak.ints_eq h3
  exact .inr (.inr (.inl ⟨a,l,rfl,h1,h2⟩))
 ·unfold RepF at h
  obtain⟨a,xs,h1,h2,h3⟩:=h
  have q:=zak.ints_eq (ns:=[i,j]) h3
  rw[q.1] at h2
  exact .inr (.inr (.inr ⟨a,i,j,rfl,h1,h2⟩))
theorem zkS {H:Hp} : ∀ {ds:List D}{xs:List V}{fp:List Addr},(∀ d∈ds,zmF d)→zak H ds xs fp→∀ (i:Nat) dd x,ds[i]?=some dd→xs[i]?=some x→Part H dd x
 | [],_,_,_,_,i,dd,x,e,_=>by simp at e
 | d::ds,_,_,s,h,i,dd,x,e1,e2=>by
  unfold zak at h
  obtain⟨v,r,f,g,rfl,_,h1,h2⟩:=h
  cases i with
  | zero=>simp at e1 e2;subst e1;subst e2;exact zpG (s d List.mem_cons_self) h1
  | succ i=>exact zkS (λc hc=>s c (List.mem_cons_of_mem _ hc)) h2 i dd x (by simpa using e1) (by simpa using e2)
def Deed (d:D):Prop:=∃ ds,d=.tup ds∧ds.length≤8∧∀ c∈ds,zmF c
theorem zj5 {H:Hp}{d:D}{v:V}{fp:List Addr}(s:Deed d) (h:RepF H d v fp):zcE H d v:=by
 obtain⟨ds,rfl,h8,hs⟩:=s
 unfold RepF at h
 obtain⟨a,xs,h1,h2,h3⟩:=h
 exact⟨a,xs,ds,rfl,h1,h2,h3.length,h8,zkS hs h3⟩
def Acc (H:Hp) (da:Addr) (H2:Hp) (ds:List D) (vs:List V):Prop:=∃ fp,H2 da=some (.lst vs)∧zak H2 ds vs fp∧fp.Nodup∧da∉fp∧∀ b∈fp,H b=none
theorem Acc.start {H H2:Hp}{da:Addr}(h:H2 da=some (.lst [])):Acc H da H2 [] []:=⟨[],h,zak.nil,List.nodup_nil,by simp,λ_ m=>by cases m⟩
theorem Acc.app {H H2 H3:Hp}{da:Addr}{ds:List D}{vs:List V}{d:D}{v:V}(a:Acc H da H2 ds vs) (f:Free H H2) (s:Same H2 H3) (n:New H2 H3 d v):Acc H da (upd H3 da (.lst (vs++[v]))) (ds++[d]) (vs++[v]):=by
 obtain⟨fp,h1,h2,h3,h4,h5⟩:=a
 obtain⟨fq,g1,g2,g3⟩:=n
 have hd3:=s _ _ h1
 have tk:=ze9 (o:=.lst (vs++[v])) hd3
 have ndq:da∉fq:=λm=>by have:=g3 da m;rw[h1] at this;cases this
 have k1:∀ b∈fp,(upd H3 da (.lst (vs++[v]))) b=H2 b:=λb hb=>by
  obtain⟨o,ho⟩:=zak.has ds h2 b hb
  rw[zaq (show b≠da from λz=>h4 (by rw[←z];exact hb)),ho]
  exact s _ _ ho
 have k2:∀ b∈fq,(upd H3 da (.lst (vs++[v]))) b=H3 b:=λb hb=>by rw[zaq (show b≠da from λz=>ndq (by rw[←z];exact hb))]
 refine⟨fp++fq,zad,(zak.frame (s.tups.trans tk) ds k1 h2).snoc (RepF.frame tk d k2 g1),List.nodup_append.mpr ⟨h3,g2,λa ha b hb z=>?_⟩,λm=>(zma.mp m).elim h4 ndq,λb m=>?_⟩
 ·subst z
  obtain⟨o,ho⟩:=zak.has ds h2 a ha
  have:=g3 a hb
  rw[ho] at this;cases this
 ·rcases zma.mp m with m | m
  ·exact h5 b m
  ·exact f b (g3 b m)
theorem Acc.new {H H2:Hp}{da:Addr}{ds:List D}{vs:List V}(a:Acc H da H2 ds vs) (h:H da=none):New H H2 (.lst ds) (.ref da):=by
 obtain⟨fp,h1,h2,h3,h4,h5⟩:=a
 exact New.lst h2 h3 h5 h h4 h1
theorem zoT {H:Hp}{d1 d2 d3 d4:D}{vs:List V}{fp:List Addr}(h:zak H [d1,d2,d3,d4] vs fp):∃ x1 x2 x3 x4 f1 f2 f3 f4,vs=[x1,x2,x3,x4]∧RepF H d1 x1 f1∧RepF H d2 x2 f2∧RepF H d3 x3 f3∧RepF H d4 x4 f4:=by
 unfold zak at h
 obtain⟨x1,_,f1,_,rfl,_,h1,h⟩:=h
 unfold zak at h
 obtain⟨x2,_,f2,_,rfl,_,h2,h⟩:=h
 unfold zak at h
 obtain⟨x3,_,f3,_,rfl,_,h3,h⟩:=h
 unfold zak at h
 obtain⟨x4,_,f4,_,rfl,_,h4,h⟩:=h
 unfold zak at h
 obtain⟨rfl,_⟩:=h
 exact⟨x1,x2,x3,x4,f1,f2,f3,f4,rfl,h1,h2,h3,h4⟩
theorem RepF.lso {H:Hp}{ds:List D}{x:V}{fp:List Addr}(h:RepF H (.lst ds) x fp):∃ b xs r,x=.ref b∧H b=some (.lst xs)∧zak H ds xs r:=by
 unfold RepF at h
 obtain⟨b,xs,r,e1,_,e3,e4⟩:=h
 exact⟨b,xs,r,e1,e3,e4⟩
theorem zak.item {H:Hp} : ∀ {ds:List D}{xs:List V}{fp:List Addr},zak H ds xs fp→∀ (i:Nat) d x,ds[i]?=some d→xs[i]?=some x→∃ f,RepF H d x f
 | [],_,_,_,i,d,x,e,_=>by simp at e
 | c::ds,_,_,h,i,d,x,e1,e2=>by
  unfold zak at h
  obtain⟨v,r,f,g,rfl,_,h1,h2⟩:=h
  cases i with
  | zero=>simp at e1 e2;subst e1;subst e2;exact⟨f,h1⟩
  | succ i=>exact zak.item h2 i d x (by simpa using e1) (by simpa using e2)
theorem zdL {b:Bool}{X Y:Prop}(h1:b=true→X) (h2:b=false→Y):∃ c,V.bl b=.bl c∧(if c=true then X else Y):=by
 cases b with
 | true=>exact⟨true,rfl,iteT (h1 rfl)⟩
 | false=>exact⟨false,rfl,iteF (h2 rfl)⟩
theorem zcT {b:Bool}{X Y:Prop}(h1:b=true→X) (h2:b=false→Y):(if b=true then X else Y):=by
 cases b with
 | true=>exact iteT (h1 rfl)
 | false=>exact iteF (h2 rfl)
theorem zrk {K:Fg}{H:Hp}{Q:VK}{a b:Addr}{xs ys:List V}(h1:SqT K H a xs) (h2:SqT K H b ys) (nx:xs≠[]) (ny:ys≠[]) (z:xs.length+ys.length≤sizeLine) (q:∀ p,H p=none→Q (.ref p) (upd H p (.tup (xs++ys)))):zlr K (.ref a) (.ref b) H Q:=
 .inr (.inr ⟨a,b,xs,ys,rfl,rfl,h1,h2,nx,z,λe=>absurd e ny,λ_=>q⟩)
theorem zeo {K:Fg}{H:Hp}{ds:List D}{v:V}(h:Rep K H (.tup ds) v):∃ a xs,v=.ref a∧SqT K H a xs∧Reps K H ds xs:=by unfold Rep at h;exact h
end L2

namespace L2
open PySem PySem.Spec PyProof.Rows PySem.W
theorem zb5.has {P:Program}{w:World}{H:Hp}{h:Heap}{a:Addr}{o:HO}(x:zb5 P w H h a o):∃ u,h.get? a=some u:=by
 cases o with
 | lst xs=>obtain⟨_,_,_,_,e⟩:=x;exact⟨_,e⟩
 | tup xs=>obtain⟨_,_,_,_,e,_⟩:=x;exact⟨_,e⟩
 | dK kvs=>obtain⟨_,_,_,_,o,_,_,e,_⟩:=x;exact⟨_,e⟩
 | dT kvs=>obtain⟨_,_,_,_,o,_,_,e,_⟩:=x;exact⟨_,e⟩
 | set S n=>obtain⟨o,_,_,_,e,_⟩:=x;exact⟨_,e⟩
 | ins C dx fs=>obtain⟨_,_,_,e,_⟩:=x;exact⟨_,e⟩
 | own y=>obtain⟨_,e⟩:=x;exact⟨_,e⟩
 | xd fs=>obtain⟨_,⟨_,_,_,e,_⟩,_⟩:=x;exact⟨_,e⟩
 | rng lo hi=>obtain⟨_,_,_,e⟩:=x;exact⟨_,e⟩
 | frz ob u=>obtain⟨e,_⟩:=x;exact⟨_,e⟩
 | tbl ps=>exact⟨_,show h.get? a=some _ from x⟩
 | met f y=>exact⟨_,show h.get? a=some _ from x⟩
 | ext φ=>obtain⟨_,⟨_,e⟩,_⟩:=x;exact⟨_,e⟩
def zj6 (h:Heap) (e T:Addr) (cls fl:Value):Prop:=∃ oe vs oT ts,h.get? e=some oe∧oe.cls=cls∧oe.dict=none∧oe.data=.fields vs∧vs[1]?=some (.ref T)∧T≠e∧h.get? T=some oT∧oT.data=.fields ts∧ts[3]?=some fl
def zhF (fr as:List Addr) (h h':Heap):Prop:=(∀ b o,h.get? b=some o→b∉fr→b∉as→h'.get? b=some o)∧∀ b o,h.get? b=some o→b∈fr→b∉as→∃ sl,h'.get? b=some {o with slots:=sl}
theorem zhF.up {fr as:List Addr}{h h':Heap}(k:zhF fr as h h') {b:Addr}{o:Obj}(e:h.get? b=some o) (n:b∉as):∃ sl,h'.get? b=some {o with slots:=sl}:=by
 by_cases m:b∈fr
 ·exact k.2 b o e m n
 ·exact⟨o.slots,k.1 b o e m n⟩
section
variable {M:Model}{A:Around}{E:Value→Shared→Prop}{s:Shared}
theorem zi5 {base:Heap}{env:Env}{outer:List Env}{L e:Addr}{oe:Obj}{vs:Array Value}{head:Value}{hadNext:Bool}{Q:Unit→Shared→Prop}(hfr:A.frames=some (env::outer)) (hl:s.heap.FunFrames base (env::outer)) (hf:env.frame=some L)
  (he:s.heap.get? e=some oe) (hd:oe.data=.fields vs) (hsz:1<vs.size) (hdi:oe.dict=none)
  (h:∀ h' T,s.heap.get? T=none→zj6 h' e T oe.cls (rawInt L)→zhF (frs (env::outer)) [e] s.heap h'→Q () {s with heap:=h'}) :
  wpAny M A (do let a ←frameOf env;let pl ←entryPlaceOf L hadNext;let b ←EntryCells.newEntry head a .none (rawInt L) .none pl;setField (.ref e) 1 b) Q E s:=by
 have hene:e∉(env::outer).filterMap (·.frame):=λhm=>by
  obtain⟨_,o,ho,hnf⟩:=hl.mem hm
  rw[he] at ho;injection ho with ho;subst ho;exact hnf vs hd
 refine wpAny_bind (wpAny_frameOf_fun hfr hl hf λh₁ hs₁=>?_)
 refine wpAny_bind (wpAny_entryPlaceOf λpl hpl=>?_)
 unfold EntryCells.newEntry newFields
 refine wpAny_bind (wpAny_newObj_type ?_ (hpl.sizeOk5 _ _ _ _ _))
 have he₁:h₁.get? e=some oe:=(hs₁.2.1 e hene).trans he
 have he₂:=Heap.get?_push_of_some (h:=h₁) {cls:=.type "traceback",dict:=none,data:=.fields ([head,.ref L,.none,rawInt L,.none]++(if pl.isEmpty then List.replicate 6 Value.none else pl)).toArray} he₁
 refine wpAny_setField he₂ hd hsz (h _ h₁.objs.size (Heap.get?_none_of_le (by rw[hs₁.1];exact Nat.le_refl _)) ?_ ?_)
 ·have hTe:h₁.objs.size≠e:=Nat.ne_of_gt (Heap.lt_size he₁)
  have hd₃:=Obj.data_mapFields hd (·.setIfInBounds 1 (Value.ref h₁.objs.size))
  have he₃:=Heap.get?_update_self (Obj.mapFields (·.setIfInBounds 1 (Value.ref h₁.objs.size))) he₂ (Obj.isFreed_of_fields hd₃)
  have hT₃:=(Heap.get?_update_other (h₁.push {cls:=.type "traceback",dict:=none,data:=.fields ([head,.ref L,.none,rawInt L,.none]++(if pl.isEmpty then List.replicate 6 Value.none else pl)).toArray})
   (Obj.mapFields (·.setIfInBounds 1 (Value.ref h₁.objs.size))) (Ne.symm hTe)).trans (Heap.get?_push_size h₁ rfl)
  refine⟨_,_,_,_,he₃,Obj.cls_mapFields _ _,?_,hd₃,by simp[hsz],hTe,hT₃,rfl,by first | (simp;done) | (rcases hpl with rfl | ⟨_,_,_,_,_,_,_,rfl⟩ <;> simp)⟩
  obtain⟨c,di,dt,sl⟩:=oe
  cases hd
  exact hdi
 ·have keep:∀ b o,b≠e→h₁.get? b=some o→((h₁.push {cls:=.type "traceback",dict:=none,data:=.fields ([head,.ref L,.none,rawInt L,.none]++(if pl.isEmpty then List.replicate 6 Value.none else pl)).toArray}).update e (Obj.mapFields (·.setIfInBounds 1 (Value.ref h₁.objs.size)))).get? b=some o:=λb o hbe hb=>by
   rw[Heap.get?_update_other _ _ (Ne.symm hbe)]
   exact Heap.get?_push_of_some _ hb
  refine⟨λb o eb n1 n2=>keep b o (λz=>n2 (by simp[z])) ((hs₁.2.1 b n1).trans eb),λb o eb m n=>?_⟩
  obtain⟨sl,hsl⟩:=hs₁.2.2 b o eb
  exact⟨sl,keep b _ (λz=>n (by simp[z])) hsl⟩
theorem zkT {fr:List Addr}{e T:Addr}{cls fl:Value}{Q:Unit→Shared→Prop}(F:zj6 s.heap e T cls fl) (h:∀ h',zj6 h' e T cls .none→zhF fr [T] s.heap h'→Q () {s with heap:=h'}):wpAny M A (setFlight (.ref e) none) Q E s:=by
 obtain⟨oe,vs,oT,ts,he,hcls,hdi,hd,h1,hTe,hT,hdT,h3⟩:=F
 have hsz3:3<ts.size:=(Array.getElem?_eq_some_iff.mp h3).1
 have other:∀ b,b≠T→(s.heap.update T (Obj.mapFields (·.setIfInBounds 3 ((none:Option Addr).elim Value.none λf=>rawInt f)))).get? b=s.heap.get? b:=λb hb=>Heap.get?_update_other _ _ (Ne.symm hb)
 unfold setFlight
 refine wpAny_bind (wpAny_field he hd h1 ?_)
 rw[if_pos (show (Value.ref T != Value.none)=true from by simp)]
 refine wpAny_setField hT hdT hsz3 (h _ ?_ ⟨λb o e n1 n2=>(other b (λz=>n2 (by simp[z]))).trans e,λb o e m n=>⟨o.slots,(other b (λz=>n (by simp[z]))).trans e⟩⟩)
 exact⟨oe,vs,_,_,(other e (Ne.symm hTe)).trans he,hcls,hdi,hd,h1,hTe,Heap.get?_update_self _ hT (Obj.isFreed_of_fields (Obj.data_mapFields hdT _)),Obj.data_mapFields hdT _,by simp[hsz3]⟩
theorem zn6 {base:Heap}{env:Env}{outer:List Env}{L e T:Addr}{cls:Value}{Q:Unit→Shared→Prop}(hfr:A.frames=some (env::outer)) (hl:s.heap.FunFrames base (env::outer)) (hf:env.frame=some L) (F:zj6 s.heap e T cls .none)
  (h:∀ h' T',s.heap.get? T'=none→zj6 h' e T' cls (rawInt L)→zhF (frs (env::outer)) [e,T] s.heap h'→Q () {s with heap:=h'}):wpAny M A (noteFrame (.ref e) env) Q E s:=by
 obtain⟨oe,vs,oT,ts,he,hcls,hdi,hd,h1,hTe,hT,hdT,h3⟩:=F
 subst hcls
 have hsz3:3<ts.size:=(Array.getElem?_eq_some_iff.mp h3).1
 have other:∀ b,b≠T→(s.heap.update T (Obj.mapFields (·.setIfInBounds 3 Value.none))).get? b=s.heap.get? b:=λb hb=>Heap.get?_update_other _ _ (Ne.symm hb)
 have noRecord:∀ b o,s.heap.get? b=some o→(∀ vs,o.data≠.fields vs)→b≠T:=λb o hb hnf q=>by
  rw[q,hT] at hb;injection hb with hb;subst hb;exact hnf ts hdT
 unfold noteFrame
 simp only[hf]
 refine wpAny_bind (wpAny_field he hd h1 ?_)
 rw[if_pos (show (Value.ref T != Value.none)=true from by simp)]
 refine wpAny_bind (wpAny_field hT hdT h3 ?_)
 rw[if_neg (show ¬ ((Value.none == rawInt L)=true) from by simp[rawInt])]
 refine wpAny_bind (wpAny_setField hT hdT hsz3 ?_)
 refine zi5 hfr (hl.of_keeps λb o hb hnf=>⟨o,(other b (noRecord b o hb hnf)).trans hb,rfl⟩) hf ((other e (Ne.symm hTe)).trans he) hd (Array.getElem?_eq_some_iff.mp h1).1 hdi λh' T' n F' k=>?_
 have nT':s.heap.get? T'=none:=by
  by_cases z:T'=T
  ·subst z
   rw[Heap.get?_update_self _ hT (Obj.isFreed_of_fields (Obj.data_mapFields hdT _))] at n
   cases n
  ·rw[←other T' z];exact n
 refine h h' T' nT' F' ⟨λb o eb n1 n2=>k.1 b o ((other b (λz=>n2 (by simp[z]))).trans eb) n1 (λz=>n2 (by simp at z;simp[z])),λb o eb m n2=>k.2 b o ((other b (λz=>n2 (by simp[z]))).trans eb) m (λz=>n2 (by simp at z;simp[z]))⟩
end
def Fly (h0 h:Heap) (H:Hp) (e:Addr) (cls:Value):Prop:=∃ T,zj6 h e T cls .none∧H e=none∧H T=none∧h0.get? e=none∧h0.get? T=none
def CX1 (P:Program) (w:World):CXT:=λouter H s E e s'=>∃ a C H',e=.ref a∧s'.os=s.os∧AllBare s'.gens∧Un (frs outer) [] H H' s.heap s'.heap∧HOk P w H' s'.heap∧Fly s.heap s'.heap H' a C∧E C none H'
section
variable {P:Program}{w:World}{K:Fg}{mg:Str→Option Value}{base:Heap}{N:List Str}{qual:Str}{scope:Scope}{f:Addr}{cd:Value}{A:Around}{outer:List Env}{s:Shared}{H:Hp}{E:XK}
theorem zkU {X:Cx}{pins:List (Addr × Obj)}{σ:St}{H2:Hp}{s2:Shared}(I:Inv X pins σ H2 s2) (hex:X.ex=[]) {b:Addr}(n:s2.heap.get? b=none):X.s₀.heap.get? b=none:=by
 cases z:X.s₀.heap.get? b with
 | none=>rfl
 | some o=>
  obtain⟨u,hu⟩:=I.base.there b o z (by rw[hex];simp)
  rw[n] at hu;cases hu
theorem zrl {X:Cx}{pins:List (Addr × Obj)}{σ:St}{H2:Hp}{s2:Shared}(I:Inv X pins σ H2 s2) {b:Addr}(n:s2.heap.get? b=none):H2 b=none:=by
 cases z:H2 b with
 | none=>rfl
 | some o=>
  obtain⟨u,hu⟩:=(I.hok b o z).has
  rw[n] at hu;cases hu
theorem zmG {pins:List (Addr × Obj)}{σ:St}{H2:Hp}{s2:Shared}{h':Heap}{as:List Addr}{a T:Addr}{C:Value}(I:Inv (cxOf (CX1 P w) P w K mg base N qual scope f cd A outer s H E) pins σ H2 s2) (hx:H2 a=none) (hx0:s.heap.get? a=none) (has:∀ b∈as,H2 b=none∧s.heap.get? b=none)
  (nT:s2.heap.get? T=none) (F:zj6 h' a T C .none) (L:zhF (frs (cxOf (CX1 P w) P w K mg base N qual scope f cd A outer s H E).stack) as s2.heap h') (q:E C none H2):CX1 P w outer H s E (.ref a) {s2 with heap:=h'}:=by
 have fr:∀ b,b∈frs (cxOf (CX1 P w) P w K mg base N qual scope f cd A outer s H E).stack→b=s.heap.objs.size∨b∈frs outer:=λb hb=>by
  obtain⟨ev,he,hf⟩:=List.mem_filterMap.mp hb
  rcases List.mem_cons.mp he with z | z
  ·subst z;exact .inl (Option.some.inj hf).symm
  ·exact .inr (List.mem_filterMap.mpr ⟨ev,z,hf⟩)
 have nsz:s.heap.get? s.heap.objs.size=none:=Heap.get?_none_of_le (Nat.le_refl _)
 have hidden:∀ b,s.heap.get? b≠none→b∉as:=λb n m=>n (has b m).2
 refine⟨a,C,H2,rfl,I.os,I.bare,⟨λb o e n nf _=>?_,λb o e n nf _=>?_,λb o e n _=>I.base.free b o e n (by intro m;cases m),λb o e _=>?_,I.base.tups,I.base.frzs,I.base.tbls⟩,λb u e=>?_,⟨T,F,hx,zrl I nT,hx0,zkU I rfl nT⟩,q⟩
 ·refine L.1 b o (I.base.keep b o e n nf (by intro m;cases m)) (λm=>?_) (hidden b (by rw[e];simp))
  rcases fr b m with z | z
  ·subst z;rw[nsz] at e;cases e
  ·exact nf z
 ·obtain⟨sl,e'⟩:=I.base.slot b o e n nf (by intro m;cases m)
  obtain⟨sl2,e2⟩:=L.up e' (hidden b (by rw[e];simp))
  exact⟨sl2,e2⟩
 ·obtain⟨o2,h2⟩:=I.base.there b o e (by intro m;cases m)
  obtain⟨sl,e5⟩:=L.up h2 (hidden b (by rw[e];simp))
  exact⟨_,e5⟩
 ·refine (I.hok b u e).stay (λc v hc q=>L.1 c v q (λm=>?_) (λm=>?_)) (λ_ q=>q) λ_ _ q=>q
  ·have:=I.stkFree c m
   rcases hc with z | z
   ·subst z;rw[e] at this;cases this
   ·rw[z] at this;cases this
  ·have:=(has c m).1
   rcases hc with z | z
   ·subst z;rw[e] at this;cases this
   ·rw[z] at this;cases this
theorem zn7 {pins:List (Addr × Obj)}{σ:St}{H2:Hp}{s2:Shared}{a:Addr}{C:Value}(I:Inv (cxOf (CX1 P w) P w K mg base N qual scope f cd A outer s H E) pins σ H2 s2) (F:Fly s.heap s2.heap H2 a C) (q:E C none H2):(cxOf (CX1 P w) P w K mg base N qual scope f cd A outer s H E).xe (.ref a) s2:=by
 obtain⟨T,F,hx,hT,hx0,hT0⟩:=F
 show wpAny _ _ (leaving _ _) _ _ _
 unfold leaving
 refine wpAny_bind (zn6 (outer:=outer) I.ok.frames I.stack rfl F λh1 T1 n1 F1 k1=>?_)
 refine zkT (fr:=frs (cxOf (CX1 P w) P w K mg base N qual scope f cd A outer s H E).stack) F1 λh2 F2 k2=>?_
 refine zmG (s2:=s2) (h':=h2) (as:=[a,T]) I hx hx0 (λb m=>?_) n1 F2 ⟨λb o e m n=>k2.1 b o (k1.1 b o e m n) m (λz=>by rw[zms.mp z,n1] at e;cases e),λb o e m n=>?_⟩ q
 ·rcases List.mem_cons.mp m with z | z
  ·subst z;exact⟨hx,hx0⟩
  ·rw[zms.mp z];exact⟨hT,hT0⟩
 ·obtain⟨sl,e1⟩:=k1.2 b o e m n
  obtain⟨sl2,e2⟩:=k2.up e1 (λz=>by rw[zms.mp z,n1] at e;cases e)
  exact⟨sl2,e2⟩
theorem pass1 {pins:List (Addr × Obj)}{σ:St}{H2:Hp}{s2:Shared}{e:Value}{s3:Shared}(I:Inv (cxOf (CX1 P w) P w K mg base N qual scope f cd A outer s H E) pins σ H2 s2) (h:CX1 P w (cxOf (CX1 P w) P w K mg base N qual scope f cd A outer s H E).stack H2 s2 E e s3):(cxOf (CX1 P w) P w K mg base N qual scope f cd A outer s H E).xe e s3:=by
 obtain⟨a,C,H3,rfl,os,bare,un,hok,⟨T,F,hx,hT,hx0,hT0⟩,q⟩:=h
 exact zn7 (I.call' os un hok bare (λb z=>absurd z (by simp))) ⟨T,F,hx,hT,zkU I rfl hx0,zkU I rfl hT0⟩ q
theorem zcf:zeh (CX1 P w) (cxOf (CX1 P w) P w K mg base N qual scope f cd A outer s H E) E:=λ_ _ _ _ _ _ I h=>pass1 I h
theorem zmH {pins:List (Addr × Obj)}{σ:St}{H2:Hp}{s2:Shared}{h3:Heap}{a:Addr}{C:Value}{args:List Value}(I:Inv (cxOf (CX1 P w) P w K mg base N qual scope f cd A outer s H E) pins σ H2 s2) (M:Heap.MadeExcOf s2.heap h3 a C args) (q:E C none H2):(cxOf (CX1 P w) P w K mg base N qual scope f cd A outer s H E).xe (.ref a) {s2 with heap:=h3}:=by
 obtain⟨t,he,htn,ht⟩:=M.there
 have I3:Inv (cxOf (CX1 P w) P w K mg base N qual scope f cd A outer s H E) pins σ H2 {s2 with heap:=h3}:=I.un (h':=h3) (t':=s2.toks) (Un.kept M.keeps) (I.hok.kept M.keeps)
 have hx:=zrl I M.new
 have hx0:s.heap.get? a=none:=zkU I rfl M.new
 show wpAny _ _ (leaving _ _) _ _ _
 unfold leaving noteFrame
 show wpAny _ _ ((do let head ←field (.ref a) 1;_) >>= _) _ _ _
 refine wpAny_bind (wpAny_bind (wpAny_field he rfl (x:=.none) rfl ?_))
 rw[if_neg (by decide)]
 refine zi5 (outer:=outer) I3.ok.frames I3.stack rfl he rfl (by simp) rfl λh1 T1 n1 F1 k1=>?_
 refine zkT (fr:=frs (cxOf (CX1 P w) P w K mg base N qual scope f cd A outer s H E).stack) F1 λh2 F2 k2=>?_
 have n1':h3.get? T1=none:=n1
 refine zmG (s2:={s2 with heap:=h3}) (h':=h2) (as:=[a]) I3 hx hx0 (λb m=>by rw[zms.mp m];exact⟨hx,hx0⟩) n1' F2 ⟨λb o e m n=>k2.1 b o (k1.1 b o e m n) m (λz=>by rw[zms.mp z] at e;rw[show h3.get? T1=some o from e] at n1';cases n1'),λb o e m n=>?_⟩ q
 obtain⟨sl,e1⟩:=k1.2 b o e m n
 obtain⟨sl2,e2⟩:=k2.up e1 (λz=>by rw[zms.mp z] at e;rw[show h3.get? T1=some o from e] at n1';cases n1')
 exact⟨sl2,e2⟩
end
end L2

namespace L2
open PySem PySem.Spec PyProof.Rows PySem.W
structure Err (K:Fg) (C:Addr) (anc:List Value):Prop where
 ob:∃ nm q N bs hdct sn sub ab col dd k0 k1 k2 k3 k5,K.lookup C=some (excClassObj nm q C N bs anc hdct sn sub ab col dd k0 k1 k2 k3 k5 "ValueError.__new__")
 ex:excIn K C zbx "ValueError.__new__"=true
theorem Err.obj {K:Fg}{C:Addr}{anc:List Value}{h:Heap}(X:K.In h) (e:Err K C anc):∃ nm q N bs hdct sn sub ab col dd k0 k1 k2 k3 k5 mN,h.get? C=some (excClassObj nm q C N bs anc hdct sn sub ab col dd k0 k1 k2 k3 k5 "ValueError.__new__")∧h.Ns N mN∧mN "__init__"=none∧OwnTail h zbx anc:=by
 obtain⟨⟨nm,q,N,bs,hdct,sn,sub,ab,col,dd,k0,k1,k2,k3,k5,l⟩,x⟩:=e
 unfold excIn at x
 rw[l] at x
 simp only[Bool.and_eq_true,beq_iff_eq,Bool.not_eq_true'] at x
 obtain⟨⟨⟨_,ht⟩,hok⟩,hni⟩:=x
 exact⟨nm,q,N,bs,hdct,sn,sub,ab,col,dd,k0,k1,k2,k3,k5,_,X _ _ l,.of_isNs (isNs_of_in X hok),nsMap_none_of_in X hok hni,tail_of_in X ht⟩
def zoU (X:Cx) (E:XK):Prop:=∀ (pins:List (Addr × Obj)) (σ:St) (H:Hp) (s:Shared) (h':Heap) (a:Addr) (C:Value) (args:List Value),Inv X pins σ H s→Heap.MadeExcOf s.heap h' a C args→E C none H→X.xe (.ref a) {s with heap:=h'}
theorem zh6 {P:Program}{w:World}{K:Fg}{mg:Str→Option Value}{base:Heap}{N:List Str}{qual:Str}{scope:Scope}{f:Addr}{cd:Value}{A:Around}{outer:List Env}{s:Shared}{H:Hp}{E:XK} :
  zoU (cxOf (CX1 P w) P w K mg base N qual scope f cd A outer s H E) E:=λ_ _ _ _ _ _ _ _ I M q=>zmH I M q
def zoV (C:Value) (E:XK) (t:TA):TS:=λ_ σ H=>t σ H λvs H1=>vs.length≤sizeLine∧E C none H1
section
variable {X:Cx}{x:Str}{np cpos pos:Pos}{e0:Expr}{rest:List Expr}{C:Addr}{anc:List Value}{E:XK}{t:TA}
theorem zgc (c:Err X.K C anc) (hg:Gl X x) (hm:X.mg x=some (.ref C)) (hc:X.calm=true) (ht:zoU X E) (ha:PA X (e0::rest) t) (he:starEach (e0::rest) X.env=(false,eval e0 X.env)::starEach rest X.env:=by rfl)
  (hpl:(backTo cpos (starEach rest X.env)).any (·.1)=false:=by rfl) (hd:(x == ("__debug__" : Str))=false:=by decide):PS X (.Raise (some (.Call (.Name x np) (e0::rest) [] cpos)) none pos) (zoV (.ref C) E t):=by
 intro pins s σ H D I h
 obtain⟨nm,q,N,bs,hdct,sn,sub,ab,col,dd,k0,k1,k2,k3,k5,mN,hC,hN,hni,T⟩:=c.obj I.ok.mod.kin
 refine wpAny_Raise_call_subT (C:=C) (nm:=nm) (q:=q) (N:=N) (bs:=bs) (bm:=anc) (hdct:=hdct) (sn:=sn) (sub:=sub) (ab:=ab) (col:=col) (dd:=dd) (k0:=k0) (k1:=k1) (k2:=k2) (k3:=k3) (k5:=k5)
  PySem.F.excBase_ValueError (mN:=mN) (T.hasType PySem.F.excBase_ValueError.hasBase) (I.ok.hd hc) (by rw[he];show (false || (backTo cpos (starEach rest X.env)).any (·.1))=false;rw[hpl];rfl) hni (zgk I hg hm ⟨rfl,?_⟩ hd)
 have h2:=ha cpos pins s σ H _ I h
 rw[he] at h2 ⊢
 refine Calls.evalArgs_plain (wpAny_mono h2 (λus s2 h2=>?_) λ_ _ y=>y)
 obtain⟨vs,H1,I1,r,z,q⟩:=h2
 exact⟨rfl,by rw[←r.length];exact z,I1.bk _ _ hC,hN.keeps I1.bk,T.keeps I1.bk,λh' e M=>ht pins σ H1 s2 h' e _ _ I1 M q⟩
end
section
variable {P:Program}{w:World}{K:Fg}{mg:Str→Option Value}{base:Heap}
theorem Fun.okx {x qual:Str}{st:Stmt}{f:Addr}{fd:FuncData}{N ps:List Str}{k:Nat}{sp:Sp}(F:Fun K x qual st f fd) (S:FSc N ps (zai st)) (len:∀ vs H Q E,sp vs H Q E→vs.length=ps.length)
  (hbody:∀ (cdv:Value) (A:Around) (outer:List Env) (s:Shared) (H:Hp) (vs:List V) (Q:VK) (E:XK),Room k (A.deeper (envOfC qual (zai st) s.heap.objs.size f cdv))→sp vs H Q E→
   ∃ t,PSs (cxOf (CX1 P w) P w K mg base N qual (zai st) f cdv A outer s H E) (zcY st) t∧t {nx:=λ_ H'=>Q .non H',rt:=Q} (start N vs) H):FnOk P w K mg base (CX1 P w) (k+1) f fd ps sp:=by
 obtain⟨oc,od,kV,doc,pm,an,cdv,ct,osl,rfl,lk,hcd⟩:=F.ex
 exact zqt lk hcd S len λA outer s H vs Q E hr hsp=>hbody cdv A outer s H vs Q E hr hsp
end
structure Fnx (P:Program) (w:World) (K:Fg) (mg:Str→Option Value) (base:Heap) (x:Str) (ps:List Str) (k:Nat) (sp:Sp):Prop where
 ex:∃ f fd,FnOk P w K mg base (CX1 P w) k f fd ps sp∧zfv K fd ps []∧PySem.W.keepIn K (.ref f)=true∧mg x=some (.ref f)
structure Mth (CX:CXT) (P:Program) (w:World) (K:Fg) (mg:Str→Option Value) (base:Heap) (C:Addr) (m:Str) (ps:List Str) (k:Nat) (sp:Sp):Prop where
 ex:∃ f fd,Meth K C m f∧FnOk P w K mg base CX k f fd ps sp∧zfv K fd ps []
section
variable {X:Cx}{CX:CXT}{k j:Nat}{C:Addr}{ps:List Str}{sp:Sp}{E:XK}{x m:Str}{p pos apos:Pos}{e o:Expr}{es:List Expr}{ta:TE}{t:TA}
theorem zfN (G:Fnx X.prog X.w X.K X.mg X.base x ps j sp) (hr:Room k X.A) (hg:Gl X x) (hx:zeh (CX1 X.prog X.w) X E) (ha:PA X (e::es) t) (hj:j≤k:=by decide) (hdb:(x == ("__debug__" : Str))=false:=by decide)
  (he:starEach (e::es) X.env=(false,eval e X.env)::starEach es X.env:=by rfl) (hpl:(backTo pos (starEach es X.env)).any (·.1)=false:=by rfl):PE X (.Call (.Name x p) (e::es) [] pos) (zl5 sp [] E t):=by
 obtain⟨f,fd,F,hb,hk,hm⟩:=G.ex
 exact zl7 (F.mono hj) hr hg hm hk hb .nil hx ha hdb he hpl
theorem zcr {pl:Sem Bool}(G:Mth CX X.prog X.w X.K X.mg X.base C m ps j sp) (c:Cls X.K C) (hr:Room k X.A) (hx:zeh CX X E) (he:PE X o ta) (ha:PA X (e::es) t) (hj:j≤k:=by decide)
  (hst:starEach (e::es) X.env=(false,eval e X.env)::starEach es X.env:=by rfl) (hpl:(backTo pos (starEach es X.env)).any (·.1)=false:=by rfl)
  (ht:eval (.Call (.Attribute o m apos) (e::es) [] pos) X.env=(do
   let ov ←eval o X.env
   standAt apos.atName
   let (f,first) ←holding [ov] (getMethod ov m pl)
   callWith pos f first (backTo pos (starEach (e::es) X.env)) (backToKw pos (keywordEach [] X.env))):=by rfl) :
  PE X (.Call (.Attribute o m apos) (e::es) [] pos) (zpi C m sp [] E ta t):=by
 obtain⟨f,fd,M,F,hb⟩:=G.ex
 exact zpj he c M (F.mono hj) hr hb .nil hx ha hst hpl ht
end
end L2

namespace L2
open PySem PySem.Spec PyProof.Rows PySem.W
section
variable {M:Model}{A:Around}{E:Value→Shared→Prop}{h:Heap}{g:Array GenState}{d:Drawn}{t:Nat}{os:OsState}
variable {nm q nm' q':Str}{C N D N':Addr}{bs bm bs' bm':List Value}{hdct hdct':Bool}{sn sn':List Str}{sub sub':List Value}{ab ab':Bool}{col col':Option Bool}{dd dd':Option Addr}{k0 k1 k2 k3 k5 l0 l1 l2 l3 l5:Option Value}{newId newId':String}
end
section
variable {X:Cx}{pins:List (Addr × Obj)}{σ:St}{H:Hp}{s:Shared}
end
section
variable {X:Cx}{k j:Nat}{f C:Addr}{fd:FuncData}{ps:List Str}{sp:Sp}{x m:Str}{p pos apos:Pos}{e o:Expr}{es:List Expr}{ta:TE}{t:TA}{E:XK}{pins:List (Addr × Obj)}{σ:St}{H:Hp}{s:Shared}{Q:VK}{us:List Value}{vs:List V}
variable {te:XK→TE}{st:Stmt}{tt uu:XK→TS}
end
end L2

namespace L2
open PySem PySem.Spec PyProof.Rows PySem.W
section
variable {X:Cx}{pins:List (Addr × Obj)}{σ:St}{H:Hp}{a:Addr}{C:Value}{s:Shared}
end
section
variable {X:Cx}{x:Str}{np pos:Pos}{b0:Stmt}{suite:List Stmt}{rest:List ExceptHandler}{D:Addr}{anc:List Value}{tb tr:Value→Addr→TS}
end
end L2

namespace L2
open PySem PySem.Spec PyProof.Rows PySem.W
def zbE:Nat:=10 ^ 30
theorem zi6 {i:Int}(h:i.natAbs<zbE):i.natAbs.log2<1920:=by
 by_cases z:i.natAbs=0
 ·rw[z];decide
 ·refine (Nat.log2_lt z).mpr (Nat.lt_of_lt_of_le h ?_)
  unfold zbE
  exact Nat.le_trans (by decide:10 ^ 30≤2 ^ 100) (Nat.pow_le_pow_right (n:=2) (by decide) (by decide:100≤1920))
section
variable {X:Cx}{pins:List (Addr × Obj)}{σ:St}{H:Hp}{s:Shared}
end
theorem zgD {i:Int}(h:i.natAbs<zbE):(Str.ofString (toString i)).length≤32:=by
 have e:=int_text_length_le10 (k:=30) (by decide) h
 rw[PySem.ofString_length];omega
end L2

namespace L2
open PySem PySem.Spec PyProof.Rows PySem.W
section
variable {prog:Program}{w:World}{A:Around}{E:Value→Shared→Prop}
end
section
variable {X:Cx}{pos:Pos}
end
end L2

namespace L2
open PySem PySem.Spec PyProof.Rows PySem.W
theorem zak.append {H:Hp} : ∀ {ds1:List D}{vs1:List V}{f1:List Addr}{ds2:List D}{vs2:List V}{f2:List Addr},zak H ds1 vs1 f1→zak H ds2 vs2 f2→zak H (ds1++ds2) (vs1++vs2) (f1++f2)
 | [],_,_,_,_,_,h1,h2=>by
  unfold zak at h1
  obtain⟨rfl,rfl⟩:=h1
  exact h2
 | d::ds,_,_,_,_,_,h1,h2=>by
  unfold zak at h1
  obtain⟨v,r,f,g,rfl,rfl,q1,q2⟩:=h1
  rw[List.append_assoc]
  exact zak.cany q1 (zak.append q2 h2)
theorem zak.cut {H:Hp} : ∀ (i:Nat) {ds:List D}{vs:List V}{fp:List Addr},zak H ds vs fp→∃ f1 f2,fp=f1++f2∧zak H (ds.take i) (vs.take i) f1∧zak H (ds.drop i) (vs.drop i) f2
 | 0,ds,vs,fp,h=>⟨[],fp,rfl,zak.nil,h⟩
 | i+1,[],_,_,h=>by
  unfold zak at h
  obtain⟨rfl,rfl⟩:=h
  exact⟨[],[],rfl,zak.nil,zak.nil⟩
 | i+1,d::ds,_,_,h=>by
  unfold zak at h
  obtain⟨v,r,f,g,rfl,rfl,q1,q2⟩:=h
  obtain⟨f1,f2,rfl,h1,h2⟩:=zak.cut i q2
  exact⟨f++f1,f2,(List.append_assoc _ _ _).symm,zak.cany q1 h1,h2⟩
theorem New.acc {H H':Hp}{ds:List D}{v:V}(h:New H H' (.lst ds) v):∃ a vs,v=.ref a∧H a=none∧Acc H a H' ds vs:=by
 obtain⟨a,vs,fp,e1,e2,e3,e4,e5,e7,e6⟩:=New.lso h
 exact⟨a,vs,e1,e2,fp,e3,e4,e5,e7,e6⟩
theorem Acc.get {H H2:Hp}{da:Addr}{ds:List D}{vs:List V}(a:Acc H da H2 ds vs):H2 da=some (.lst vs):=by obtain⟨fp,h,_⟩:=a;exact h
theorem Acc.len {H H2:Hp}{da:Addr}{ds:List D}{vs:List V}(a:Acc H da H2 ds vs):ds.length=vs.length:=by obtain⟨fp,_,h,_⟩:=a;exact h.length
end L2

namespace L2
open PySem PySem.Spec PyProof.Rows PySem.W
section
variable {X:Cx}{es:List Expr}{pos:Pos}{te:TE}{t:TA}
theorem zab {x:Str}(h:PE X (.Name x pos) te) (r:PA X es t):PA X (.Name x pos::es) (ze6 te t):=zbv h r rfl
theorem zae {c:Const}{k:Nat}(h:PE X (.Constant c k pos) te) (r:PA X es t):PA X (.Constant c k pos::es) (ze6 te t):=zbv h r rfl
theorem zfW {o:UnaryOp}{a:Expr}(h:PE X (.UnaryOp o a pos) te) (r:PA X es t):PA X (.UnaryOp o a pos::es) (ze6 te t):=zbv h r rfl
theorem zcs {a:Expr}{g:List Comprehension}{sc:Scope}(h:PE X (.ListComp a g sc pos) te) (r:PA X es t):PA X (.ListComp a g sc pos::es) (ze6 te t):=zbv h r rfl
theorem zrm {a:Expr}{o:List CmpOp}{b:List Expr}(h:PE X (.Compare a o b pos) te) (r:PA X es t):PA X (.Compare a o b pos::es) (ze6 te t):=zbv h r rfl
theorem zaR {a b:Expr}(h:PE X (.Subscript a b pos) te) (r:PA X es t):PA X (.Subscript a b pos::es) (ze6 te t):=zbv h r rfl
theorem zbU {a:List Expr}(h:PE X (.List a pos) te) (r:PA X es t):PA X (.List a pos::es) (ze6 te t):=zbv h r rfl
theorem zeK {a:List Expr}{k:Nat}(h:PE X (.Tuple a k pos) te) (r:PA X es t):PA X (.Tuple a k pos::es) (ze6 te t):=zbv h r rfl
theorem zaP {a b:Expr}{o:Operator}(h:PE X (.BinOp a o b pos) te) (r:PA X es t):PA X (.BinOp a o b pos::es) (ze6 te t):=zbv h r rfl
theorem zaC {f:Expr}{a:List Expr}{k:List Keyword}(h:PE X (.Call f a k pos) te) (r:PA X es t):PA X (.Call f a k pos::es) (ze6 te t):=zbv h r rfl
theorem zbP {a:Expr}{x:Str}(h:PE X (.Attribute a x pos) te) (r:PA X es t):PA X (.Attribute a x pos::es) (ze6 te t):=zbv h r rfl
end
structure QS (X:Cx) (st:Stmt) (t:TS):Prop where
 run:PS X st t
structure QSs (X:Cx) (st:List Stmt) (t:TS):Prop where
 run:PSs X st t
section
variable {X:Cx}{e a b:Expr}{es:List Expr}{pos:Pos}{te ta tb:TE}{t:TA}{r:R2}
end
section
variable {X:Cx}{e:Expr}{st:Stmt}{rest a b:List Stmt}{pos:Pos}{te:TE}{t u:TS}{tc:TT}
theorem zn8 {c:Expr}(hc:PT X c tc) (ha:QSs X a t) (hb:QSs X b u):QS X (.If c a b pos) (tIfS tc t u):=⟨za0 hc ha.run hb.run⟩
theorem zh7:QSs X [] zlQ:=⟨zax⟩
theorem zgE (h:QS X st t):QSs X [st] t:=⟨zaj h.run⟩
theorem zba (h:QS X st t) (k:QSs X rest u):QSs X (st::rest) (tSeq t u):=⟨zag h.run k.run⟩
end
theorem zdM {t u:TS}{D:Ends}{σ:St}{H:Hp}(M:St→Hp→Prop) (h:∀ NX:St→Hp→Prop,(∀ σ H,M σ H→NX σ H)→t {D with nx:=NX} σ H) (tail:∀ σ H,M σ H→u D σ H):tSeq t u D σ H:=h _ tail
theorem zdg {c:TT}{t u:TS}{D:Ends}{σ:St}{H:Hp}(h:∀ Q:Bool→Hp→Prop,Q false H→c σ H Q) (k:u D σ H):tSeq (tIfS c t zlQ) u D σ H:=h _ (iteF k)
theorem zi7 {c:TT}{t e u:TS}{D:Ends}{σ:St}{H:Hp}(h:∀ Q:Bool→Hp→Prop,Q true H→c σ H Q) (k:∀ NX:St→Hp→Prop,t {D with nx:=NX} σ H):tSeq (tIfS c t e) u D σ H:=h _ (iteT (k _))
theorem zmI {a:Addr} : decide (V.ref a=V.non)=false:=decide_eq_false (by intro z;cases z)
theorem zpH:decide (V.non=V.non)=true:=decide_eq_true rfl
theorem i_slL {K:Fg}{H:Hp}{Q:VK}{a:Addr}{xs:List V}{lo hi:Option Int}(h:SqL K H a xs) (q:∀ p,H p=none→Q (.ref p) (upd H p (.lst (cutV xs lo hi)))):rSl K (.ref a) lo hi H Q:=.inl ⟨a,xs,rfl,h,q⟩
theorem cut_take {xs:List V}{k:Nat}(h:k≤xs.length):cutV xs none (some (k:Int))=xs.take k:=by
 unfold cutV
 rw[HT.sIx_none,HT.sIx_nat,List.drop_zero,Nat.sub_zero,Nat.min_eq_left h]
theorem zn9 {xs:List V}{k:Nat}(h:k≤xs.length):cutV xs (some (k:Int)) none=xs.drop k:=by
 unfold cutV
 rw[HT.sIx_none,HT.sIx_nat,Nat.min_eq_left h,List.take_of_length_le (by rw[List.length_drop];exact Nat.le_refl _)]
theorem zmJ {n:Nat}{k:Int}(h0:0≤k) (h:k<(n:Int)):ixN n k=some k.toNat:=by
 unfold ixN
 rw[if_pos h0,if_pos h]
theorem Same.put {H0 H:Hp}{w:Addr}{o:HO}(s:Same H0 H) (h:H0 w=none):Same H0 (upd H w o):=λb u e=>by rw[zaq (zaM e h)];exact s _ _ e
theorem zmK {α:Type}{xs:List α}{k:Int}{x:α}(h0:0≤k) (h:xs[k.toNat]?=some x):atI xs k=some x:=by
 have:=zaN (j:=k.toNat) h
 rwa [show ((k.toNat:Nat):Int)=k by omega] at this
def Ls (H:Hp) (ka:Addr) (ls:List (List Int)):Prop:=∃ as:List Addr,H ka=some (.lst (as.map V.ref))∧as.length=ls.length∧∀ (i:Nat) a l,as[i]?=some a→ls[i]?=some l→H a=some (.lst (l.map V.int))
theorem zoa {H:Hp}{a:Addr}{l:List Int}{as:List Addr}(h1:H a=some (.lst (l.map V.int))) (h2:H a=some (.lst (as.map V.ref))):l=[]:=by
 rw[h1] at h2
 cases l with
 | nil=>rfl
 | cons i l=>
  cases as with
  | nil=>simp at h2
  | cons b as=>simp at h2
theorem Ls.same {H H':Hp}{ka:Addr}{ls:List (List Int)}(e:Same H H') (h:Ls H ka ls):Ls H' ka ls:=by
 obtain⟨as,h1,h2,h3⟩:=h
 exact⟨as,e _ _ h1,h2,λi a l e1 e2=>e _ _ (h3 i a l e1 e2)⟩
theorem Ls.len {H:Hp}{ka:Addr}{ls:List (List Int)}(h:Ls H ka ls):∃ xs,H ka=some (.lst xs)∧xs.length=ls.length:=by
 obtain⟨as,h1,h2,h3⟩:=h
 exact⟨_,h1,by rw[zlm];exact h2⟩
theorem Ls.out {K:Fg}{H:Hp}{ka:Addr}{ls:List (List Int)}(h:Ls H ka ls):∃ xs,H ka=some (.lst xs)∧xs.length=ls.length∧Reps K H (ls.map nums) xs:=by
 obtain⟨as,h1,h2,h3⟩:=h
 refine⟨_,h1,by rw[zlm];exact h2,Reps.of (by simp[h2]) λi d v e1 e2=>?_⟩
 rw[zgm] at e1 e2
 obtain⟨l,hl,rfl⟩:=zme.mp e1
 obtain⟨a,ha,rfl⟩:=zme.mp e2
 exact zbi.mpr ⟨a,rfl,SqL.of (h3 i a l ha hl)⟩
theorem Ls.rep {K:Fg}{H:Hp}{ka:Addr}{ls:List (List Int)}(h:Ls H ka ls):Rep K H (.lst (ls.map nums)) (.ref ka):=by
 obtain⟨xs,h1,_,h2⟩:=h.out (K:=K)
 unfold Rep
 exact⟨ka,xs,rfl,SqL.of h1,h2⟩
theorem Ls.item {H:Hp}{ka:Addr}{ls:List (List Int)}{xs:List V}{i:Nat}{x:V}(h:Ls H ka ls) (e:H ka=some (.lst xs)) (hx:xs[i]?=some x):∃ a l,x=.ref a∧ls[i]?=some l∧H a=some (.lst (l.map V.int)):=by
 obtain⟨as,h1,h2,h3⟩:=h
 rw[h1] at e;cases e
 rw[zgm] at hx
 obtain⟨a,ha,rfl⟩:=zme.mp hx
 have hi:=(zge.mp ha).1
 refine⟨a,ls[i]'(by omega),rfl,by simp,h3 i a _ ha (by simp)⟩
theorem New.ls {H H':Hp}{ls:List (List Int)}{v:V}(h:New H H' (.lst (ls.map nums)) v):∃ ka,v=.ref ka∧H ka=none∧Ls H' ka ls:=by
 obtain⟨a,vs,fp,rfl,ha,h1,h2,_⟩:=New.lso h
 obtain⟨e1,e2,e3⟩:=zak.lines h2
 subst e1
 refine⟨a,rfl,ha,fp,h1,e2,λi b l q1 q2=>?_⟩
 obtain⟨l',z1,z2⟩:=e3 i b q1
 rw[q2] at z1;cases z1
 exact z2
theorem New.cat {H H1 H2:Hp}{a b p:Addr}{ds1 ds2:List D}{xs ys:List V}(n1:New H H1 (.lst ds1) (.ref a)) (e1:Same H H1) (s:Same H1 H2) (n2:New H1 H2 (.lst ds2) (.ref b)) (h1:H2 a=some (.lst xs)) (h2:H2 b=some (.lst ys)) (hp:H2 p=none):New H (upd H2 p (.lst (xs++ys))) (.lst (ds1++ds2)) (.ref p):=by
 obtain⟨a',vs,fp,ea,ha,g1,g2,g3,g4,g5⟩:=New.lso n1
 cases ea
 obtain⟨b',vs',fq,eb,hb,k1,k2,k3,k4,k5⟩:=New.lso n2
 cases eb
 have ev:xs=vs:=by rw[s _ _ g1] at h1;injection h1 with h1;injection h1 with h1;exact h1.symm
 have ev':ys=vs':=by rw[k1] at h2;injection h2 with h2;injection h2 with h2;exact h2.symm
 subst ev;subst ev'
 have sp:=zaf hp (.lst (xs++ys))
 have hf:∀ b∈fp,∃ o,H1 b=some o:=zak.has _ g2
 refine New.lst ((zak.sq (s.trans sp).sq _ g2).append (zak.sq sp.sq _ k2)) (List.nodup_append.mpr ⟨g3,k3,λx hx y hy z=>?_⟩) (λc hc=>?_) ((e1.trans s).free hp) (λm=>?_) zad
 ·subst z
  obtain⟨o,ho⟩:=hf x hx
  have:=k5 x hy
  rw[ho] at this;cases this
 ·rcases zma.mp hc with hc | hc
  ·exact g5 c hc
  ·exact e1.free (k5 c hc)
 ·rcases zma.mp m with m | m
  ·obtain⟨o,ho⟩:=hf p m
   rw[s _ _ ho] at hp;cases hp
  ·obtain⟨o,ho⟩:=zak.has _ k2 p m
   rw[ho] at hp;cases hp
theorem New.item {H H':Hp}{ds:List D}{a:Addr}{xs:List V}{i:Nat}{d:D}{x:V}(n:New H H' (.lst ds) (.ref a)) (e:H' a=some (.lst xs)) (hd:ds[i]?=some d) (hx:xs[i]?=some x):New H H' d x:=by
 obtain⟨a',vs,fp,ea,ha,g1,g2,g3,g4,g5⟩:=New.lso n
 cases ea
 rw[g1] at e;cases e
 obtain⟨f1,f2,rfl,r1,r2⟩:=zak.cut i g2
 have hi:=(zge.mp hd).1
 have hj:=(zge.mp hx).1
 rw[List.drop_eq_getElem_cons hi,List.drop_eq_getElem_cons hj] at r2
 unfold zak at r2
 obtain⟨v,r,f,g,e1,rfl,q1,q2⟩:=r2
 cases e1
 rw[List.getElem?_eq_getElem hi] at hd;cases hd
 rw[List.getElem?_eq_getElem hj] at hx;cases hx
 have n2:=(List.nodup_append.mp g3).2.1
 exact⟨f,q1,(List.nodup_append.mp n2).1,λb hb=>g5 b (List.mem_append_right _ (List.mem_append_left _ hb))⟩
theorem New.pairT {H H1:Hp}{w:Int}{ws:List Int}{a t:Addr}(n:New H H1 (nums ws) (.ref a)) (ht:H1 t=none):New H (upd H1 t (.tup [.int w,.ref a])) (.tup [.int w,nums ws]) (.ref t):=by
 obtain⟨a',e,h1,h2⟩:=New.iif.mp n
 cases e
 have s:=zaf ht (.tup [.int w,.ref a])
 refine New.tup (fp:=[a]) (zak.cint (zak.cany (f:=[a]) (fp:=[]) (RepF.line (s _ _ h2)) zak.nil)) (by simp) (λb hb=>?_) zad
 rw[zms.mp hb];exact h1
section
variable {H0 H:Hp}{ga ka wa:Addr}{goal:List Int}{known:List (List Int)}{ws:List Int}{m n:Nat}
end
end L2

namespace L2
open PySem PySem.Spec PyProof.Rows PySem.W
theorem zpI {J:It}{H1:Hp}{n:Nat}{P:Nat→V→Hp→Prop}{g:TG}{te:TE}{σ0:St}{Q:VK}(wk:Goes J H1 n P) (ls:List (List Int)) (hn:ls.length=n) (hz:n≤sizeLine) (h9:∀ l∈ls,l.length=9)
  (step:∀ i x l H' (R:VK),i<n→ls[i]?=some l→Same H1 H'→P i x H'→(∀ a H3,Same H' H3→H3 a=some (.lst (l.map V.int))→R (.ref a) H3)→g x σ0 H' λσ2 H2=>te σ2 H2 R)
  (fin:∀ a H',Same H1 H'→H1 a=none→Ls H' a ls→Q (.ref a) H'):zkN J g zpu te σ0 H1 Q:=by
 intro Da hD
 refine⟨λi m ys H=>m=n - i∧i≤n∧Same H1 H∧H Da=some (.lst ys)∧Ls H Da (ls.take i),⟨n,rfl,Nat.zero_le _,zaf hD _,zad,[],zad,rfl,λi a l e _=>by simp at e⟩,?_⟩
 rintro i m ys H ⟨rfl,hi,hs,hH,hL⟩
 refine⟨hH,?_⟩
 obtain⟨as,h1,h2,h3⟩:=hL
 have ey:ys=as.map V.ref:=by rw[hH] at h1;injection h1 with h1;injection h1
 subst ey
 rw[List.length_take] at h2
 by_cases hlt:i<n
 ·refine .inr ⟨wk.go i H hlt hs,by rw[zlm];omega,λys' H'=>(n - (i+1)<n - i∧i+1≤n∧Same H1 H'∧H' Da=some (.lst ys')∧Ls H' Da (ls.take (i+1))),λys' H' ⟨q1,q2,q3,q4,q5⟩=>⟨n - (i+1),q1,rfl,q2,q3,q4,q5⟩,λx H' hy=>?_⟩
  obtain⟨s1,hp⟩:=wk.yld i H x H' hlt hs hy
  have hi':i<ls.length:=by omega
  refine step i x ls[i] H' _ hlt (by simp) (hs.trans s1) hp λa H3 s3 ha=>?_
  have hD3:H3 Da=some (.lst (as.map V.ref)):=s3 _ _ (s1 _ _ hH)
  refine⟨hD3,by omega,hlt,λb o e=>?_,zad,as++[a],by rw[zad,List.map_append];rfl,by rw[List.length_append,List.length_take];simp;omega,λj b l e1 e2=>?_⟩
  ·rw[zaq (zaM e hD)]
   exact s3 _ _ (s1 _ _ (hs _ _ e))
  ·have key:H3 b=some (.lst (l.map V.int))∧l.length=9:=by
    refine⟨?_,h9 l (List.mem_of_mem_take (zmg e2))⟩
    rw[List.getElem?_append] at e1
    split at e1
    ·rename_i hj
     have hji:j<i:=by omega
     refine s3 _ _ (s1 _ _ (h3 j b l e1 ?_))
     rw[List.getElem?_take] at e2 ⊢
     rw[if_pos (by omega)] at e2
     rw[if_pos hji];exact e2
    ·rename_i hj
     have hj0:j - as.length=0:=by
      have:=(zge.mp e1).1
      simp at this;omega
     have hji:j=i:=by omega
     rw[hj0] at e1
     simp at e1
     subst e1
     rw[List.getElem?_take,if_pos (by omega),hji,List.getElem?_eq_getElem hi'] at e2
     cases e2
     exact ha
   rw[zaq (λz=>by
    have q:=key.1
    rw[z] at q
    have:=zoa q hD3
    rw[this] at key;exact absurd key.2 (by decide))]
   exact key.1
 ·have e:i=n:=by omega
  subst e
  refine .inl ⟨wk.stop H hs,fin _ _ hs hD ⟨as,hH,by omega,λj a l e1 e2=>h3 j a l e1 ?_⟩⟩
  rw[List.take_of_length_le (by omega)];exact e2
theorem hr_u {k:Nat}{A:Around}(hr:Room k A):A.units+1<cLine:=by have:=hr.units;omega
section
variable {σ:St}{H:Hp}{Q:VK}{td ty tx tv:TE}{D:Ends}
theorem zpJ (h:td σ H λx H1=>∃ a,x=.ref a∧IsD H1 a∧ty σ H1 λy H2=>tx σ H2 λz H3=>∃ o,DGet H3 a y o∧Q (o.getD z) H3):zoN td ty tx σ H Q:=h
theorem zrn (h:td σ H λx H1=>ty σ H1 λy H2=>∃ a v,x=.ref a∧DGet H2 a y (some v)∧Q v H2):zqL td ty σ H Q:=h
theorem i_din (h:ty σ H λy H1=>td σ H1 λx H2=>∃ a o,x=.ref a∧DGet H2 a y o∧Q (.bl o.isSome) H2):tDIn ty td σ H Q:=h
theorem zob (h:ty σ H λy H1=>td σ H1 λx H2=>∃ a o,x=.ref a∧DGet H2 a y o∧Q (.bl (!o.isSome)) H2):zml ty td σ H Q:=h
theorem zro (h:tv σ H λv H1=>td σ H1 λx H2=>ty σ H2 λy H3=>∃ a H4,x=.ref a∧DPut H3 a y v H4∧D.nx σ H4):zqM td ty tv D σ H:=h
theorem zhG {trs:List (TE × TE)}(h:∀ p,H p=none→zgt trs σ (upd H p (.dK [])) λps H2=>H2 p=some (.dK [])∧∃ kvs:List (Key × V),ps=kvs.map (λkv=>(kV kv.1,kv.2))∧kvs.length≤15∧Q (.ref p) (upd H2 p (.dK (zb1 [] kvs)))):zqN trs σ H Q:=h
theorem zoc {R:List (V × V)→Hp→Prop}(h:R [] H):zgt [] σ H R:=h
theorem zpK {tk:TE}{r:List (TE × TE)}{R:List (V × V)→Hp→Prop}(h:tk σ H λx H1=>tv σ H1 λy H2=>zgt r σ H2 λps H3=>R ((x,y)::ps) H3):zgt ((tk,tv)::r) σ H R:=h
end
end L2
namespace L2
open PySem PySem.Spec PyProof.Rows PySem.W
theorem Ls.more {H:Hp}{na p:Addr}{ls ms:List (List Int)}{xs:List V}{bs:List Addr}(h:Ls H na ls) (e:H na=some (.lst xs)) (hl:bs.length=ms.length) (hb:∀ (i:Nat) a l,bs[i]?=some a→ms[i]?=some l→H a=some (.lst (l.map V.int))) (hp:H p=none):Ls (L2.upd H p (.lst (xs++bs.map V.ref))) p (ls++ms):=by
 obtain⟨as,h1,h2,h3⟩:=h
 rw[h1] at e;cases e
 refine⟨as++bs,by rw[zad,List.map_append],by simp[h2,hl],λi a l e1 e2=>zaf hp _ _ _ ?_⟩
 rw[List.getElem?_append] at e1 e2
 rw[←h2] at e2
 split at e1
 ·rename_i z;rw[if_pos z] at e2;exact h3 i a l e1 e2
 ·rename_i z;rw[if_neg z] at e2;exact hb _ a l e1 e2
theorem zgd {H:Hp}{a:Addr}{l:List Int}(h:H a=some (.lst (l.map V.int))):∀ (i:Nat) b m,[a][i]?=some b→[l][i]?=some m→H b=some (.lst (m.map V.int)):=λi b m e1 e2=>by
 cases i with
 | zero=>simp at e1 e2;subst e1;subst e2;exact h
 | succ i=>simp at e1
theorem zdh {H:Hp}{a c:Addr}{l k:List Int}(h:H a=some (.lst (l.map V.int))) (h':H c=some (.lst (k.map V.int))):∀ (i:Nat) b m,[a,c][i]?=some b→[l,k][i]?=some m→H b=some (.lst (m.map V.int)):=λi b m e1 e2=>by
 cases i with
 | zero=>simp at e1 e2;subst e1;subst e2;exact h
 | succ i=>
  cases i with
  | zero=>simp at e1 e2;subst e1;subst e2;exact h'
  | succ i=>simp at e1
theorem zdN {K:Fg}{H:Hp}{a:Addr}{bs:List Addr}{ms:List (List Int)}(e:H a=some (.lst (bs.map V.ref))) (hl:bs.length=ms.length) (hb:∀ (i:Nat) b l,bs[i]?=some b→ms[i]?=some l→H b=some (.lst (l.map V.int))):Rep K H (.lst (ms.map nums)) (.ref a):=(show Ls H a ms from ⟨bs,e,hl,hb⟩).rep
end L2

namespace L2
open PySem PySem.Spec PyProof.Rows PySem.W
def tFs (te:TE):TE:=λσ H Q=>te σ H λx H1=>∃ i:Int,x=.int i∧i.natAbs<zbE∧∀ z,Q (.str z) H1
section
variable {X:Cx}{e:Expr}{te:TE}{a b:Str}{k1 k2:Nat}{p1 p2 p3 pos:Pos}
theorem zrp (he:PE X e te) (ha:a.length≤400) (hb:b.length≤400):PE X (.JoinedStr [.Constant (.str a) k1 p1,.FormattedValue e (-1) none p2,.Constant (.str b) k2 p3] pos) (tFs te):=by
 intro pins s σ H Q I h
 have e0:(Str.empty++a).length=a.length:=by rw[strLen_append];show 0+a.length=_;omega
 refine PySem.wpAny_JoinedStr ?_
 show Joins _ _ _ [eval (.Constant (.str a) k1 p1) X.env,eval (.FormattedValue e (-1) none p2) X.env,eval (.Constant (.str b) k2 p3) X.env] _ _ _
 refine Calls.Constant_str ⟨a,_,rfl,by rw[e0];exact zan (by omega),?_⟩
 refine PySem.wpAny_FormattedValue_plain (thn (he pins _ σ H _ (I.tok _) h) λv s1 ⟨x,H1,I1,rx,i,ex,hi,q⟩=>?_)
 subst ex
 obtain⟨t,rfl⟩:=rx
 have l2:=zgD hi
 have e1:((Str.empty++a)++Str.ofString (toString i)).length=a.length+(Str.ofString (toString i)).length:=by rw[strLen_append,e0]
 have e2:(((Str.empty++a)++Str.ofString (toString i))++b).length=a.length+(Str.ofString (toString i)).length+b.length:=by rw[strLen_append,e1]
 refine PySem.wpAny_formatField_int (zi6 hi) ⟨_,_,rfl,by rw[show ((Str.empty++a)++_).length=_ from e1];exact zan (by omega),?_⟩
 refine Calls.Constant_str ⟨b,_,rfl,by rw[show (((Str.empty++a)++_)++b).length=_ from e2];exact zan (by omega),?_⟩
 exact⟨by rw[show (((Str.empty++a)++_)++b).length=_ from e2];exact zan (by omega),.str _,H1,(((I1.tok _).tok _).tok _).tok _,⟨_,rfl⟩,q _⟩
theorem i_fs {σ:St}{H:Hp}{Q:VK}(h:te σ H λx H1=>∃ i:Int,x=.int i∧i.natAbs<zbE∧∀ z,Q (.str z) H1):tFs te σ H Q:=h
end
theorem zmL {P:Program}{w:World}{X:Cx} : zeh (CX1 P w) X E0:=λ_ _ _ _ _ _ _ h=>by
 obtain⟨_,_,_,_,_,_,_,_,_,h⟩:=h
 exact h.elim
theorem zpL {sp:Sp}{t:TA}{E:XK}{σ:St}{H:Hp}{Q:VK}(h:t σ H λvs H1=>sp vs H1 Q E):zl5 sp [] E t σ H Q:=by
 have e:(λ(vs:List V) (H1:Hp)=>sp (vs++[]) H1 Q E)=λvs H1=>sp vs H1 Q E:=by funext vs H1;rw[List.append_nil]
 show t σ H λvs H1=>sp (vs++[]) H1 Q E
 rw[e];exact h
theorem zpM {C:Value}{E:XK}{t:TA}{D:Ends}{σ:St}{H:Hp}(h:t σ H λvs H1=>vs.length≤sizeLine∧E C none H1):zoV C E t D σ H:=h
end L2
namespace L2
open PySem PySem.Spec PyProof.Rows PySem.W
theorem Acc.ext {H H2 H3:Hp}{da b:Addr}{ds ds2:List D}{vs zs:List V}(a:Acc H da H2 ds vs) (f:Free H H2) (s:Same H2 H3) (n:New H2 H3 (.lst ds2) (.ref b)) (hb:H3 b=some (.lst zs)):Acc H da (upd H3 da (.lst (vs++zs))) (ds++ds2) (vs++zs):=by
 obtain⟨fp,h1,h2,h3,h4,h5⟩:=a
 obtain⟨b',zs',fq,e,b0,g1,g2,g3,g4,g5⟩:=New.lso n
 cases e
 have ez:zs'=zs:=by rw[g1] at hb;injection hb with hb;injection hb
 subst ez
 have hd3:=s _ _ h1
 have tk:=ze9 (o:=.lst (vs++zs')) hd3
 have ndq:da∉fq:=λm=>by have:=g5 da m;rw[h1] at this;cases this
 have k1:∀ c∈fp,(upd H3 da (.lst (vs++zs'))) c=H2 c:=λc hc=>by
  obtain⟨o,ho⟩:=zak.has ds h2 c hc
  rw[zaq (show c≠da from λz=>h4 (by rw[←z];exact hc)),ho]
  exact s _ _ ho
 have k2:∀ c∈fq,(upd H3 da (.lst (vs++zs'))) c=H3 c:=λc hc=>by rw[zaq (show c≠da from λz=>ndq (by rw[←z];exact hc))]
 refine⟨fp++fq,zad,(zak.frame (s.tups.trans tk) ds k1 h2).append (zak.frame tk ds2 k2 g2),List.nodup_append.mpr ⟨h3,g3,λx hx y hy z=>?_⟩,λm=>(zma.mp m).elim h4 ndq,λc m=>?_⟩
 ·subst z
  obtain⟨o,ho⟩:=zak.has ds h2 x hx
  have:=g5 x hy
  rw[ho] at this;cases this
 ·rcases zma.mp m with m | m
  ·exact h5 c m
  ·exact f c (g5 c m)
end L2
namespace L2
open PySem PySem.Spec PyProof.Rows PySem.W
end L2

namespace L2
open PySem PySem.Spec PyProof.Rows PySem.W PySem.Calls
theorem zmM:∀ {ns:List Int}{us:List Value},ns.length=us.length→(∀ (j:Nat) (u:Value),us[j]?=some u→∃ (i:Int) (t:Tok),ns[j]?=some i∧u=Value.int i t)→Vals (ns.map V.int) us
 | [],[],_,_=>.nil
 | [],_::_,e,_=>by simp at e
 | _::_,[],e,_=>by simp at e
 | n::ns,u::us,e,h=>by
  obtain⟨i,t,e1,e2⟩:=h 0 u rfl
  have e1:n=i:=by simpa using e1
  subst e1
  exact .cons ⟨t,e2⟩ (zmM (by simpa using e) λj v hv=>by
   obtain⟨i,t,q1,q2⟩:=h (j+1) v (by simpa using hv)
   exact⟨i,t,by simpa using q1,q2⟩)
def zoW:List V→Hp→VK→Prop:=λxs H Q=>∃ (a:Addr) (kvs:List (Key × V)) (ns:List Int),xs=[.ref a]∧H a=some (.dK kvs)∧kvs.map (·.1)=ns.map Sum.inl∧∀ (l:Addr),H l=none→Q (.ref l) (upd H l (.lst (ns.map V.int)))
theorem zlt {X:Cx}(hc:X.calm=true):zcB X (.type "list") zoW:=by
 intro pins s σ H xs us Q I r h
 obtain⟨a,kvs,ns,rfl,ha,hk,q⟩:=h
 obtain⟨u,rfl,rx⟩:=zhT r
 cases rx
 obtain⟨z,hd,vs,rel,dd⟩:=zln I.hok ha
 obtain⟨ep,hat⟩:=dd.dictAt
 have hl:=rel.length
 have lk:kvs.length=ns.length:=by
  have:=congrArg List.length hk
  simpa using this
 refine kdl_call (kdl_dict (knd:=zbu X.prog X.w) (kvs:=vs) (ep:=ep) hd) (I.ok.hd hc) hat (by rw[←hl];exact z) λh' tk acc c' hk' hS' hacc=>?_
 have hla:acc.toList.length=vs.length:=by rw[Array.length_toList];exact hacc.1
 have vl:Vals (ns.map V.int) acc.toList:=zmM (by omega) λj u hu=>by
  obtain⟨k,x,hx,hk2⟩:=hacc.2 j u (by rw[←Array.getElem?_toList];exact hu)
  have e:(vs.map (·.1))[j]?=some k:=by rw[zgm,hx];rfl
  rw[←rel.keys,hk,zgm] at e
  obtain⟨i,hi,rfl⟩:=zme.mp e
  rcases zbt (show zjR (Sum.inl i) u=true from hk2) with ⟨i',t,e,rfl⟩ | ⟨x',t,e,rfl⟩
  ·cases e;exact⟨i,t,hi,rfl⟩
  ·cases e
 exact⟨.ref s.heap.objs.size,_,I.laid (t':=tk) hk' (Nat.le_refl _) (show zb5 X.prog X.w _ _ _ (.lst (ns.map V.int)) from ⟨by rw[zlm];omega,acc.toList,c',vl,by rw[Array.toArray_toList];exact hS'⟩),rfl,q _ I.fresh⟩
theorem zpN {H:Hp}{Q:VK}{a:Addr}{kvs:List (Key × V)}{ns:List Int}(h:H a=some (.dK kvs)) (e:kvs.map (·.1)=ns.map Sum.inl) (q:∀ (l:Addr),H l=none→Q (.ref l) (upd H l (.lst (ns.map V.int)))):zoW [.ref a] H Q:=⟨a,kvs,ns,rfl,h,e,q⟩
theorem zrq {σ:St}{H:Hp}{Q:VK}{td ty:TE}(h:td σ H λx H1=>∃ a,x=.ref a∧IsD H1 a∧ty σ H1 λy H2=>∃ kvs k v,H2 a=some (.dK kvs)∧y=kV k∧valV kvs k=some v∧Q v (upd H2 a (.dK (zdm kvs k)))):zoO td ty σ H Q:=h
theorem zrr {σ:St}{H:Hp}{Q:VK}(h:∀ p,H p=none→Q (.ref p) (upd H p (.dK []))):zoM σ H Q:=h
theorem zi8 {κ:Type} [DecidableEq κ] (k j:κ):∀ kvs:List (κ × V),valV (zdm kvs k) j=if j=k then none else valV kvs j
 | []=>by simp[zdm,valV]
 | p::r=>by
  have ih:=zi8 k j r
  by_cases e:p.1=k
  ·rw[zmt e,ih]
   by_cases z:j=k
   ·rw[if_pos z,if_pos z]
   ·rw[if_neg z,if_neg z,zbS (λw=>z (w.symm.trans e))]
  ·rw[zmu e]
   by_cases w:p.1=j
   ·rw[zbY w,zbY w,if_neg (λz=>e (w.trans z))]
   ·rw[zbS w,zbS w,ih]
section
variable {X:Cx}{e:Expr}{te:TE}{a:Str}{k1:Nat}{p1 p2 pos:Pos}
theorem zoX (he:PE X e te) (ha:a.length≤400):PE X (.JoinedStr [.Constant (.str a) k1 p1,.FormattedValue e (-1) none p2] pos) (tFs te):=by
 intro pins s σ H Q I h
 have e0:(Str.empty++a).length=a.length:=by rw[strLen_append];show 0+a.length=_;omega
 refine PySem.wpAny_JoinedStr ?_
 show Joins _ _ _ [eval (.Constant (.str a) k1 p1) X.env,eval (.FormattedValue e (-1) none p2) X.env] _ _ _
 refine Calls.Constant_str ⟨a,_,rfl,by rw[e0];exact zan (by omega),?_⟩
 refine PySem.wpAny_FormattedValue_plain (thn (he pins _ σ H _ (I.tok _) h) λv s1 ⟨x,H1,I1,rx,i,ex,hi,q⟩=>?_)
 subst ex
 obtain⟨t,rfl⟩:=rx
 have l2:=zgD hi
 have e1:((Str.empty++a)++Str.ofString (toString i)).length=a.length+(Str.ofString (toString i)).length:=by rw[strLen_append,e0]
 refine PySem.wpAny_formatField_int (zi6 hi) ⟨_,_,rfl,by rw[show ((Str.empty++a)++_).length=_ from e1];exact zan (by omega),?_⟩
 exact⟨by rw[show ((Str.empty++a)++_).length=_ from e1];exact zan (by omega),.str _,H1,((I1.tok _).tok _).tok _,⟨_,rfl⟩,q _⟩
end
section
variable {X:Cx}{k j:Nat}{C:Addr}{ps:List Str}{sp:Sp}{x:Str}{p pos:Pos}
theorem zrs (G:Mkr X.prog X.w X.K X.mg X.base x C ps j sp) (hr:Room k X.A) (hg:Gl X x) (hj:j+1≤k:=by decide) (hdb:(x == ("__debug__" : Str))=false:=by decide):PE X (.Call (.Name x p) [] [] pos) (zl6 C sp [] E0 tNil):=by
 obtain⟨f,fd,M,F,hb,hm⟩:=G.ex
 exact znJ M F (hr.mono hj) hg hm hb .nil zfV hdb
end
theorem zrt {C:Addr}{m:Str}{sp:Sp}{E:XK}{ta:TE}{t:TA}{σ:St}{H:Hp}{Q:VK}(h:ta σ H λx H1=>MethI C m x H1 (t σ H1 λvs H2=>sp (x::vs) H2 Q E)):zpi C m sp [] E ta t σ H Q:=by
 have e:(λ(x:V) (vs:List V) (H2:Hp)=>sp (x::(vs++[])) H2 Q E)=λx vs H2=>sp (x::vs) H2 Q E:=by funext x vs H2;rw[List.append_nil]
 show ta σ H λx H1=>MethI C m x H1 (t σ H1 λvs H2=>(λ(x:V) (vs:List V) (H2:Hp)=>sp (x::(vs++[])) H2 Q E) x vs H2)
 rw[e];exact h
theorem zpO {σ:St}{H:Hp}{Q:VK}{td ty tx:TE}(h:td σ H λx H1=>∃ a,x=.ref a∧IsD H1 a∧ty σ H1 λy H2=>tx σ H2 λz H3=>∃ kvs k,H3 a=some (.dK kvs)∧y=kV k∧(∀ v,valV kvs k=some v→Q v (upd H3 a (.dK (zdm kvs k))))∧(valV kvs k=none→Q z H3)):zoP td ty tx σ H Q:=h
end L2

namespace L2
open PySem PySem.Spec PyProof.Rows PySem.SeqAt
theorem ndS {N:List Str}(h:N.Nodup:=by decide +kernel):N.Nodup:=h
theorem COk.m {sc0:Scope}{N:List Str}{scope:Scope}{N':List Str}{ms:List Bool}(kind:scope.kind=.function:=by rfl) (nocell:∀ y∈scope.names,y.2≠.cell:=by decide +kernel)
  (nm:∀ y∈scope.names,y.2=.local→scope.names.lookup y.1=some .local:=by decide +kernel) (fr:∀ y∈scope.names,y.2=.free→sc0.names.lookup y.1=some .cell∨sc0.names.lookup y.1=some .free:=by decide +kernel)
  (len:ms.length=N'.length:=by rfl) (sl:zgy N scope N' ms (N.map some)=true:=by decide +kernel):COk sc0 N scope N' ms:=COk.mk' kind nocell nm fr len sl
def zgF:Value→Bool
 | .none=>true
 | _=>false
def zhH:V→Bool
 | .non=>true
 | _=>false
theorem zod {K:Fg}{H:Hp}{d:D}{x:V}{u:Value}(h:Rep K H d x) (r:RelV x u):zgF u=zhH x∧zgF u=pyEq d .non:=by
 cases d with
 | non=>unfold Rep at h;subst h;cases r;exact⟨rfl,by unfold pyEq;rfl⟩
 | bl b=>unfold Rep at h;subst h;cases r;exact⟨rfl,by unfold pyEq;rfl⟩
 | int i=>unfold Rep at h;subst h;obtain⟨t,rfl⟩:=r;exact⟨rfl,by unfold pyEq;rfl⟩
 | str z=>unfold Rep at h;subst h;obtain⟨t,rfl⟩:=r;exact⟨rfl,by unfold pyEq;rfl⟩
 | lst ds=>unfold Rep at h;obtain⟨a,xs,rfl,_⟩:=h;cases r;exact⟨rfl,by unfold pyEq;rfl⟩
 | tup ds=>unfold Rep at h;obtain⟨a,xs,rfl,_⟩:=h;cases r;exact⟨rfl,by unfold pyEq;rfl⟩
def rInN (K:Fg) (neg:Bool):R2:=λx y H Q=>x=.non∧∃ p xs ds,y=.ref p∧SqL K H p xs∧Reps K H ds xs∧deps ds≤40∧Q (.bl (if neg then !xs.any zhH else xs.any zhH)) H
section
variable {X:Cx}{k:Nat}{pins:List (Addr × Obj)}{σ:St}{H:Hp}{s:Shared}
theorem zi9 (I:Inv X pins σ H s) {A:Around}(hu:A.units+40<cLine):∀ {ds:List D}{xs:List V}{us:List Value},Reps X.K H ds xs→Vals xs us→deps ds≤40→(∀ u∈us,EqAt A s u .none (zgF u))∧us.any zgF=xs.any zhH
 | [],_,_,h,r,_=>by unfold Reps at h;subst h;cases r;exact⟨λu hu=>(by cases hu),rfl⟩
 | d::ds,_,_,h,r,hd=>by
  unfold Reps at h
  obtain⟨x,xs,rfl,h1,h2⟩:=h
  cases r with
  | cons rx rs=>
   rename_i u us
   unfold deps at hd
   have ih:=zi9 I hu h2 rs (Nat.le_trans (Nat.le_max_right _ _) hd)
   have e:=zod h1 rx
   refine⟨λw hw=>?_,by rw[List.any_cons,List.any_cons,e.1,ih.2]⟩
   rcases List.mem_cons.mp hw with rfl | hw
   ·rw[e.2]
    exact zmz I 40 d .non A x .non w .none (Nat.le_trans (Nat.le_max_left _ _) hd) hu h1 (by unfold Rep;rfl) rx rfl
   ·exact ih.1 w hw
theorem zmN (hr:Room k X.A):OpR X (compareOp .NotIn) (rInN X.K true):=by
 intro pins s σ H x y v u Q I rx ry h
 obtain⟨rfl,p,xs,ds,rfl,hq,hd,hn,q⟩:=h
 cases ry
 cases rx
 obtain⟨its,r,pl,hz⟩:=I.list hq
 obtain⟨m1,m2⟩:=zi9 I (A:=X.A.in1) (by have:=hr.units;show X.A.units+1+40<cLine;omega) hd r hn
 refine notIn_listAt zgF pl.isList (λw hw=>m1 w (by simpa using hw)) ⟨.bl _,H,I,rfl,?_⟩
 rw[show its.toArray.any zgF=its.any zgF by simp,m2]
 exact q
theorem zh8 (K:Fg) (hr:Room k X.A) (hK:X.K=K:=by rfl):OpR X (compareOp .NotIn) (rInN K true):=by subst hK;exact zmN hr
end
theorem zh9 {K:Fg}{H:Hp}{Q:VK}{a:Addr}{xs:List V}{ds:List D}(h:SqL K H a xs) (h1:Reps K H ds xs) (h2:deps ds≤40) (q:Q (.bl (!xs.any zhH)) H):rInN K true .non (.ref a) H Q:=⟨rfl,a,xs,ds,rfl,h,h1,h2,q⟩
theorem i_pop {H:Hp}{Q:VK}{a:Addr}{xs:List V}{y:V}(h:H a=some (.lst xs)) (e:xs[xs.length - 1]?=some y) (q:Q y (upd H a (.lst xs.dropLast))):rPop (.ref a) [] H Q:=⟨a,xs,y,rfl,rfl,h,e,q⟩
mutual
theorem RepF.hasL {H:Hp} : ∀ (d:D) {v:V}{fp:List Addr},RepF H d v fp→∀ a∈fp,∃ xs,H a=some (.lst xs)
 | .non,_,_,h,a,m=>by unfold RepF at h;rw[h.2] at m;cases m
 | .bl _,_,_,h,a,m=>by unfold RepF at h;rw[h.2] at m;cases m
 | .int _,_,_,h,a,m=>by unfold RepF at h;rw[h.2] at m;cases m
 | .str _,_,_,h,a,m=>by unfold RepF at h;rw[h.2] at m;cases m
 | .lst ds,_,_,h,b,m=>by
  unfold RepF at h
  obtain⟨a,xs,r,h1,h0,h2,h3⟩:=h
  subst h0
  rcases List.mem_cons.mp m with rfl | m
  ·exact⟨_,h2⟩
  ·exact zak.hasL ds h3 b m
 | .tup ds,_,_,h,b,m=>by
  unfold RepF at h
  obtain⟨a,xs,h1,h2,h3⟩:=h
  exact zak.hasL ds h3 b m
theorem zak.hasL {H:Hp} : ∀ (ds:List D) {vs:List V}{fp:List Addr},zak H ds vs fp→∀ a∈fp,∃ xs,H a=some (.lst xs)
 | [],_,_,h,a,m=>by unfold zak at h;rw[h.2] at m;cases m
 | d::ds,_,_,h,b,m=>by
  unfold zak at h
  obtain⟨v,r,f,g,h1,h0,h2,h3⟩:=h
  subst h0
  rcases zma.mp m with m | m
  ·exact RepF.hasL d h2 b m
  ·exact zak.hasL ds h3 b m
end
end L2

namespace L2
open PySem PySem.Spec PySem.Calls PyProof.Rows PySem.W
structure Kn (u:TS) (D:Ends) (NX:St→Hp→Prop):Prop where
 on:∀ σ H,u D σ H→NX σ H
theorem zoY {t u:TS}{D:Ends}{σ:St}{H:Hp}(h:∀ NX:St→Hp→Prop,Kn u D NX→t {D with nx:=NX} σ H):tSeq t u D σ H:=h _ ⟨λ_ _ q=>q⟩
theorem goOn {u:TS}{D:Ends}{NX:St→Hp→Prop}{σ:St}{H:Hp}(k:Kn u D NX) (h:u D σ H):NX σ H:=k.on _ _ h
theorem i_ifK {c:TT}{t u:TS}{D:Ends}{σ:St}{H:Hp}(h:∀ T:St→Hp→Prop,Kn t D T→∀ U:St→Hp→Prop,Kn u D U→c σ H λb H1=>if b=true then T σ H1 else U σ H1):tIfS c t u D σ H:=h _ ⟨λ_ _ q=>q⟩ _ ⟨λ_ _ q=>q⟩
end L2

namespace L2
open PySem PySem.Spec PySem.Calls PyProof.Rows PySem.W
theorem zru {K:Fg}{a:Addr}{n q:Str}{ps:Arguments}{b:List Stmt}{sc:Scope}(h:zaU K a=some (zo7 n q ps b sc)) (hc:zar K a q=true) :
  ∃ oc od sl kV dc pm an cd ct,K.lookup a=some ⟨oc,od,.func (fnOf n q ps b sc .none kV dc pm an cd ct),sl⟩∧codeIn K cd q=true∧keepIn K (.ref a)=true:=by
 unfold zaU at h
 unfold zar at hc
 split at h
 ·rename_i oc od f sl e
  rw[e] at hc
  simp only[Bool.and_eq_true] at hc
  obtain⟨c1,c2⟩:=hc
  obtain⟨f1,f2,f3,f4,f5,f6,f7,f8,f9,f10,f11,f12,f13,f14,f15⟩:=f
  have h:=Option.some.inj h
  unfold zo7 at h
  simp only[Prod.mk.injEq] at h
  obtain⟨rfl,rfl,rfl,rfl,rfl,rfl,rfl,rfl,rfl⟩:=h
  exact⟨oc,od,sl,_,_,_,_,_,_,e,c1,c2⟩
 ·cases h
theorem exc_of {K:Fg}{C:Addr}{bm:List Value}{newId:String}(h:zgj K C bm newId=true) :
  ∃ nm q N bs hdct sn sub ab col dd k0 k1 k2 k3 k5,K.lookup C=some (excClassObj nm q C N bs bm hdct sn sub ab col dd k0 k1 k2 k3 k5 newId):=by
 unfold zgj at h
 split at h
 ·rename_i cl dd c sl e
  simp only[Bool.and_eq_true] at h
  obtain⟨⟨⟨h1,h2⟩,h3⟩,h4⟩:=h
  obtain⟨c1,c2,c3,c4,c5,c6,c7,c8,c9,c10,c11⟩:=c
  have h1:=eq_of_beq h1
  have h2:c3=.ref C::bm:=eq_of_beq h2
  have h30:c11=false:=by cases c11 <;> first | rfl | cases h3
  subst h1 h2 h30
  split at h4
  ·rename_i k0 k1 k2 k3 v k5 es
   have h4:=eq_of_beq h4
   subst h4
   have es:sl=#[k0,k1,k2,k3,some (.builtin newId),k5]:=by rw[←Array.toArray_toList (xs:=sl),es]
   subst es
   exact⟨_,_,_,_,_,_,_,_,_,_,_,_,_,_,_,e⟩
  ·cases h4
 ·cases h
theorem tup_of {K:Fg}{a:Addr}{vs:List Value}(h:zhx K a vs=true):∃ dd n ss,K.lookup a=some ⟨.type "tuple",dd,.seq vs.toArray n,ss⟩:=by
 unfold zhx at h
 split at h
 ·rename_i cl dd xs n ss e
  simp only[Bool.and_eq_true] at h
  obtain⟨h1,h2⟩:=h
  have h1:=eq_of_beq h1
  have h2:xs.toList=vs:=eq_of_beq h2
  subst h1 h2
  exact⟨dd,n,ss,by rw[Array.toArray_toList];exact e⟩
 ·cases h
theorem walk_ofE {l:PySem.W.OpenLaw}{n k:Nat}{q:Program}{loose:List Str}{XP:(Str→Option Value)→Heap→Prop}{YP:World→Heap→Prop}{d:DefRec}{S:Fg→Prop}{CX:CXT}{sp:Fg→Sp}{x:Str}
  (hn:l.most=some n) (hn2:n≤sizeLine) (hdf:d.params.defaults=[]) (hr:Room k callerA)
  (hY:∀ (w:World) (h:Heap),YP w h→∃ K:Fg,K.In h∧S K)
  (F:∀ (w:World) (K:Fg) (mg:Str→Option Value) (fa:Addr) (h:Heap),S K→K.In h→h.Ns mainGlobals mg→mg d.name=some (.ref fa)→
   ∃ fd:FuncData,(∀ (s:Shared) (u:Value),BindsTo s fd ⟨[u],[]⟩ [(x,u)])∧
    ∀ base:Heap,K.In base→base.Ns mainGlobals mg→FnOk l.prog w K mg base CX k fa fd [x] (sp K))
  (hsp:∀ (K:Fg) (H:Hp) (a:Addr) (ns:List Int),ns.length≤n→Only H→SqL K H a (ns.map V.int)→sp K [.ref a] H (λv _=>v=.bl true) λ_ _ _=>False)
  (hCX:∀ (H:Hp) (s:Shared) (e:Value) (s':Shared),CX [] H s (λ_ _ _=>False) e s'→False) :
  PySem.W.WalkO q loose XP YP l.row.toRowW d [] (λf vs=>PySem.call f vs):=by
 refine Att.attach_call hn hdf λw s₀ s₁ mg mb fa o pm cd doc a vs ns G Y ho hd hcd hmg hobj hints hlen hg=>?_
 obtain⟨K,KX,hS⟩:=hY w _ Y
 obtain⟨fd,hb,hF⟩:=F w K mg fa _ hS KX G.T.g hmg
 exact znR KX G.T.g G.T.b G.T.builtins G.T.nolimit hg hobj hints (Nat.le_trans hlen hn2) hr hF hb (λH hO hS=>hsp K H a ns hlen hO hS) λH e s'=>hCX H s₁ e s'
end L2

set_option maxHeartbeats 0
namespace L2
open PySem PySem.Spec PySem.Calls PyProof.Rows
section
variable {prog:Program}{w:World}{A:Around}{E:Value→Shared→Prop}{h:Heap}{g:Array GenState}{d:Drawn}{t:Nat}{os:OsState}{a:Addr}{o:Obj}
end
section
variable {prog:Program}{w:World}{A:Around}{E:Value→Shared→Prop}{h:Heap}{g:Array GenState}{d:Drawn}{t:Nat}{os:OsState}{a:Addr}{o:Obj}{its:Array Value}{n:Nat}
end
end L2

namespace L2
open PySem PySem.Spec PySem.Calls PyProof.Rows
section
variable {prog:Program}{w:World}{K:Type} [DecidableEq K] {knd:KeyKind prog w K}{A:Around}
end
end L2

namespace L2
open PySem PySem.Spec PySem.Calls PyProof.Rows
section
variable {prog:Program}{w:World}{K:Type} [DecidableEq K] {knd:KeyKind prog w K}{A:Around}{E:Value→Shared→Prop}{s:Shared}
end
end L2

namespace L2
open PySem PySem.Spec PySem.Calls PyProof.Rows PySem.W
def rIsB:R2:=λx y H Q=>∃ i j,x=.bl i∧y=.bl j∧Q (.bl (decide (i=j))) H
theorem zrv {X:Cx} : OpR X (compareOp .Is) rIsB:=by
 intro pins s σ H x y v u Q I rx ry h
 obtain⟨i,j,rfl,rfl,q⟩:=h
 cases rx
 cases ry
 exact is_bool (zbf I q (by cases i <;> cases j <;> rfl))
end L2

namespace L2
open PySem PySem.Spec PySem.Calls PyProof.Rows PySem.W
theorem zlu:typeLookup (.type "list_reverseiterator") "__len__"=pure none:=by rw[typeLookup_type,builtinLookup_eq_fast];kernel_rfl
theorem zoe:typeLookup (.type "list_reverseiterator") "__length_hint__"=pure (some (.builtin "list_reverseiterator.__length_hint__")):=by rw[typeLookup_type,builtinLookup_eq_fast];kernel_rfl
theorem zpP:isSubtype (.type "list_reverseiterator") (.type "list_reverseiterator")=pure true:=by rw[isSubtype_type];kernel_rfl
theorem zmO:splitId "list_reverseiterator.__length_hint__"=some ("list_reverseiterator","__length_hint__"):=by kernel_rfl
section
variable {prog:Program}{w:World}{A:Around}{E:Value→Shared→Prop}{s:Shared}{R:Result→Shared→Prop}
theorem zpQ {S I l:Addr}{items:Array Value}{c₀:Nat}(hh:A.handled=none) (hit:s.heap.IsRevIter I l ((items.size:Int) - 1)) (hl:s.heap.IsList l items) (hne:l≠I) (hSl:S≠l) (hSI:S≠I)
  (hS:s.heap.get? S=some {cls:=.type "list",data:=.seq #[] c₀}) (hn:items.size≤sizeLine)
  (hR:∀ s' acc' c',Moved (S::[I]) (λa b=>b=a) s s'→s'.heap.get? S=some {cls:=.type "list",dict:=none,data:=.seq acc' c',slots:=#[]}→ItemsOf (λi v=>items[items.size - 1 - i]?=some v) acc' items.size→R (.ok (.ret .none)) s') :
  wpAny (model prog w) A.in1 (Builtin.List.listExtendWith (.ref S) (.ref I) .none)
   (λfin s'=>match fin with | .done f=>R (.ok f) s' | .again c'=>c'.quiet=true∧codeAny (model prog w) A c' R s') (λe s'=>R (.error e) s') s:=by
 have ty:=hit.typeIs
 unfold Builtin.List.listExtendWith
 refine wpAny_bind (wpAny_typeOf ty ?_)
 have h1:Builtin.List.listSameRef (.ref S) (.ref I)=false:=by simp[Builtin.List.listSameRef,hSI]
 have h2:(Value.type "list_reverseiterator"== Value.type "list")=false:=by decide
 have h3:(Value.type "list_reverseiterator"== Value.type "tuple")=false:=by decide
 simp only[h1,h2,h3,Bool.or_false,Bool.false_eq_true,if_false]
 refine wpAny_bind (wpAny_pyIter_revIter hit ?_)
 refine wpAny_bind (wpAny_holding ?_)
 have f1:=zlu
 have f2:=zoe
 have f3:=zpP
 unfold Builtin.List.listLengthHint
 refine wpAny_bind (wpAny_specialOf ty f1 ?_)
 rw[if_neg (by decide +kernel)]
 rw[if_neg (by decide)]
 refine wpAny_bind (wpAny_specialOf ty f2 ?_)
 simp only[zmO]
 refine wpAny_bind (wpAny_isInstance (T:="list_reverseiterator") (b:=true) ty f3 ?_)
 rw[if_neg (by decide)]
 rw[if_pos (by decide +kernel)]
 rw[if_neg (by decide +kernel)]
 refine wpAny_pure ?_
 rw[if_neg (by decide +kernel)]
 have W:=(Walks.listRev (prog:=prog) (w:=w) (A:=A.in1) hh I l hne items).toS
 refine wpAny_pure ⟨plainId_quiet F.plain_extend_loop _,codeAny_extend_loopS W hn S (by simp[hSl,hSI]) _ items.size 0 _ _ _ rfl (Nat.zero_le _) ⟨Nat.zero_le _,by simpa using hit,hl⟩ hS (ItemsOf.nil _) λs' acc' c' hm hS' hacc=>hR s' acc' c' hm hS' hacc⟩
theorem zia {I l:Addr}{items:Array Value}{Q:Value→Shared→Prop}(hh:A.handled=none) (hit:s.heap.IsRevIter I l ((items.size:Int) - 1)) (hl:s.heap.IsList l items) (hne:l≠I) (hn:items.size≤sizeLine)
  (hQ:∀ s' acc' c',Moved (s.heap.objs.size::[I]) (λa b=>b=a) {s with heap:=s.heap.push {cls:=.type "list",data:=.seq #[]}} s'→s'.heap.get? s.heap.objs.size=some {cls:=.type "list",dict:=none,data:=.seq acc' c',slots:=#[]}→ItemsOf (λi v=>items[items.size - 1 - i]?=some v) acc' items.size→Q (.ref s.heap.objs.size) s') :
  wpAny (model prog w) A (call (.type "list") [.ref I]) Q E s:=by
 refine callType_codes (Q₁:=λobj s₁=>obj=.ref s.heap.objs.size∧s₁={s with heap:=s.heap.push {cls:=.type "list",data:=.seq #[]}}) F.called_list (F.typeCall_list_1 _) F.entry_list_init
  (code_list_new _ ⟨rfl,rfl⟩) λobj s₁ h₁=>?_
 obtain⟨rfl,rfl⟩:=h₁
 have hS:(s.heap.push {cls:=.type "list",data:=.seq #[]}).get? s.heap.objs.size=some {cls:=.type "list",data:=.seq #[]}:=Heap.get?_push_size _ rfl
 refine⟨⟨_,hS,rfl⟩,F.args_list_init_2 _ _,?_⟩
 have lI:I<s.heap.objs.size:=by obtain⟨o,ho,_⟩:=hit;exact Heap.lt_size ho
 have ll:l<s.heap.objs.size:=by obtain⟨o,ho,_⟩:=hl;exact Heap.lt_size ho
 show wpAny _ A.in1.in1 (do let old ←Builtin.List.listItems (.ref s.heap.objs.size);Builtin.List.listUpdate (.ref s.heap.objs.size) (λ_=>#[]);letGo old.toList.reverse;Builtin.List.listExtendWith (.ref s.heap.objs.size) (.ref I) .none) _ _ _
 refine wpAny_bind ?_
 unfold Builtin.List.listItems
 refine wpAny_bind (wpAny_seqItems hS rfl (wpAny_pure ?_))
 show wpAny _ A.in1.in1 (updateSeq s.heap.objs.size (λ_=>#[]) >>= λ_=>letGo (#[]:Array Value).toList.reverse >>= λ_=>Builtin.List.listExtendWith (.ref s.heap.objs.size) (.ref I) .none) _ _ _
 refine wpAny_bind (wpAny_updateSeq hS rfl ?_)
 have hS₂:=Heap.get?_update_self (Obj.mapSeq (λ_=>(#[]:Array Value))) hS rfl
 have oth:∀ b o,b≠s.heap.objs.size→s.heap.get? b=some o→((s.heap.push {cls:=.type "list",data:=.seq #[]}).update s.heap.objs.size (Obj.mapSeq (λ_=>(#[]:Array Value)))).get? b=some o:=
  λb o hb e=>(Heap.get?_update_other _ _ (Ne.symm hb)).trans (Heap.get?_push_of_some _ e)
 refine wpAny_bind (wpAny_letGo ?_)
 refine zpQ (A:=A.in1) hh (hit.at λo e=>oth I o (Nat.ne_of_lt lI) e) (hl.at λo e=>oth l o (Nat.ne_of_lt ll) e) hne (Ne.symm (Nat.ne_of_lt ll)) (Ne.symm (Nat.ne_of_lt lI)) hS₂ hn λs' acc' c' hm hS' hacc=>?_
 refine⟨rfl,hQ s' acc' c' ⟨λb o hb e=>hm.heap b o hb ?_,hm.gens,hm.drawn,hm.os,hm.toks⟩ hS' hacc⟩
 exact (Heap.get?_update_other _ _ (λz=>hb (by rw[←z];exact List.mem_cons_self))).trans e
end
theorem zja:∀ {xs:List V}{us:List Value}{x:V}{u:Value},Vals xs us→RelV x u→Vals (xs++[x]) (us++[u])
 | _,_,_,_,.nil,r=>.cons r .nil
 | _,_,_,_,.cons a b,r=>.cons a (zja b r)
theorem zkV:∀ {xs:List V}{us:List Value},Vals xs us→Vals xs.reverse us.reverse
 | _,_,.nil=>.nil
 | _,_,.cons r rr=>by rw[List.reverse_cons,List.reverse_cons];exact zja (zkV rr) r
def zpR (K:Fg) (ta:TA):TE:=λσ H Q=>ta σ H λvs H1=>∃ p xs,vs=[.ref p]∧SqL K H1 p xs∧∀ l,H1 l=none→Q (.ref l) (upd H1 l (.lst xs.reverse))
theorem zpS {X:Cx}{a:Expr}{ta:TA}{p p2 pos pos2:Pos}(hc:X.calm=true) (hl:Gl X "list") (hml:X.mg "list"=none) (hg:Gl X "reversed") (hm:X.mg "reversed"=none) (ha:PA X [a] ta) (hs:starEach [a] X.env=[(false,eval a X.env)]:=by rfl)
  (hs2:starEach [Expr.Call (.Name "reversed" p2) [a] [] pos2] X.env=[(false,eval (.Call (.Name "reversed" p2) [a] [] pos2) X.env)]:=by rfl) :
  PE X (.Call (.Name "list" p) [.Call (.Name "reversed" p2) [a] [] pos2] [] pos) (zpR X.K ta):=by
 intro pins s σ H Q I h
 refine wpAny_Call_Name_kw (zgl I hl hml zcS ?_ (by decide) (by decide))
 refine PyProof.Rows.callWith_type1 ?_ hs2 rfl
 rw[hs2]
 show wpAny _ _ (spliced ((false,eval (.Call (.Name "reversed" p2) [a] [] pos2) X.env)::[])) _ _ s
 refine Calls.spliced_cons ?_
 refine Call_ (zgl I hg hm zh1 (PyProof.Rows.callWith_type1 (thn (ha pos2 pins s σ H _ I h) λus s1 ⟨vs,H1,I1,r1,q1⟩=>?_) hs rfl))
 obtain⟨l1,xs,e,hx,q⟩:=q1
 subst e
 obtain⟨u,e,ru⟩:=zhT r1
 subst e
 cases ru
 obtain⟨its,rx,px,zx⟩:=I1.list hx
 have hln:=rx.length
 refine call_reversed_list px.isList ?_
 refine Calls.spliced_nil ?_
 have kp:∀ b o,s1.heap.get? b=some o→(s1.heap.push (revObj l1 ((its.toArray.size:Int) - 1))).get? b=some o:=λb o e=>Heap.get?_push_of_some _ e
 have st:(s1.heap.push (revObj l1 ((its.toArray.size:Int) - 1))).IsRevIter s1.heap.objs.size l1 ((its.toArray.size:Int) - 1):=⟨_,Heap.get?_push_size _ rfl,rfl,rfl⟩
 have ll:l1<s1.heap.objs.size:=by obtain⟨o,ho,_⟩:=px.isList;exact Heap.lt_size ho
 refine zia (s:={s1 with heap:=s1.heap.push (revObj l1 ((its.toArray.size:Int) - 1))}) (I1.ok.hd hc) st (px.isList.at λo e=>kp l1 o e) (Nat.ne_of_lt ll) (by rw[zst];omega) λs' acc c' hm hS' hacc=>?_
 have sz:(s1.heap.push (revObj l1 ((its.toArray.size:Int) - 1))).objs.size=s1.heap.objs.size+1:=Heap.size_push ..
 obtain⟨h',g',d',t',o'⟩:=s'
 obtain⟨m1,m2,m3,m4,m5⟩:=hm
 dsimp only at m1 m2 m3 m4 m5 hS'
 subst m2 m3 m4
 have keep:∀ b o,s1.heap.get? b=some o→h'.get? b=some o:=λb o e=>by
  have lt:b<s1.heap.objs.size:=Heap.lt_size e
  refine m1 b o (λz=>?_) (Heap.get?_push_of_some _ (kp b o e))
  rcases List.mem_cons.mp z with z | z
  ·rw[z,sz] at lt;exact absurd lt (Nat.not_lt.mpr (Nat.le_succ _))
  ·rw[zms.mp z] at lt;exact Nat.lt_irrefl _ lt
 have ea:acc.toList=its.reverse:=by
  refine List.ext_getElem? λj=>?_
  have hz:acc.size=its.length:=by rw[hacc.1,zst]
  by_cases hj:j<its.length
  ·obtain⟨v,hv⟩:∃ v,acc[j]?=some v:=⟨_,Array.getElem?_eq_getElem (by omega)⟩
   have:=hacc.2 j v hv
   rw[Array.getElem?_toList,hv,List.getElem?_reverse hj,←this]
   simp
  ·rw[List.getElem?_eq_none (by rw[Array.length_toList];omega),List.getElem?_eq_none (by rw[List.length_reverse];omega)]
 refine⟨.ref (s1.heap.push (revObj l1 ((its.toArray.size:Int) - 1))).objs.size,_,I1.laid (t':=t') (o:=.lst xs.reverse) keep (by rw[sz];omega) (show zb5 X.prog X.w _ _ _ (.lst xs.reverse) from ⟨by rw[List.length_reverse];exact zx,acc.toList,c',by rw[ea];exact zkV rx,by rw[Array.toArray_toList];exact hS'⟩),rfl,q _ (I1.hok.fresh (by rw[sz];omega))⟩
theorem zoZ {X:Cx}(K:Fg) {a:Expr}{ta:TA}{p p2 pos pos2:Pos}(hc:X.calm=true) (hl:Gl X "list") (hml:X.mg "list"=none) (hg:Gl X "reversed") (hm:X.mg "reversed"=none) (ha:PA X [a] ta) (hK:X.K=K:=by rfl) (hs:starEach [a] X.env=[(false,eval a X.env)]:=by rfl)
  (hs2:starEach [Expr.Call (.Name "reversed" p2) [a] [] pos2] X.env=[(false,eval (.Call (.Name "reversed" p2) [a] [] pos2) X.env)]:=by rfl) :
  PE X (.Call (.Name "list" p) [.Call (.Name "reversed" p2) [a] [] pos2] [] pos) (zpR K ta):=by subst hK;exact zpS hc hl hml hg hm ha hs hs2
theorem zo0 {K:Fg}{ta:TA}{σ:St}{H:Hp}{Q:VK}(h:ta σ H λvs H1=>∃ p xs,vs=[.ref p]∧SqL K H1 p xs∧∀ l,H1 l=none→Q (.ref l) (upd H1 l (.lst xs.reverse))):zpR K ta σ H Q:=h
end L2

namespace My
def mix (c k m:Int):Int:=(c % 2147483647+12345) * (48271+6 * k) % 1000000007 / 7 % m
def zof (i:Int):Int:=if i=0 then 1000000000 else if i=1 then -1000000000 else if i=2 then 999999999 else -999999999
def number (c k:Int):Int:=
 if mix c k 9=0 then c % 2000000001 - 1000000000
 else if mix c k 9=1 then zof (mix c (k+1) 4)
 else mix c (k+2) 9 - 4
theorem zb0 {c k m:Int}(h:0<m):0≤mix c k m:=Int.emod_nonneg _ (by omega)
theorem zfd {c k m:Int}(h:0<m):mix c k m<m:=Int.emod_lt_of_pos _ h
theorem zog (i:Int):-1000000000≤zof i∧zof i≤1000000000:=by
 unfold zof
 split
 ·omega
 ·split
  ·omega
  ·split <;> omega
theorem zgG (c k:Int):-1000000000≤number c k∧number c k≤1000000000:=by
 unfold number
 split
 ·have h1:=Int.emod_nonneg c (show (2000000001:Int)≠0 by decide)
  have h2:=Int.emod_lt_of_pos c (show (0:Int)<2000000001 by decide)
  omega
 ·split
  ·exact zog _
  ·have h1:=zb0 (c:=c) (k:=k+2) (m:=9) (by decide)
   have h2:=zfd (c:=c) (k:=k+2) (m:=9) (by decide)
   omega
def cell (ns:List Int) (k:Int):Int:=ns.getD k.toNat 0
end My

namespace My
def zah (i:Int):List Int:=0::(List.range 8).map λ(k:Nat)=>if (0+(k:Int))=i then 1 else 0
def addW (w:Int) (t l:List Int):List Int:=List.zipWith (λs n=>s+n * w) t l
def zbQ (ps:List (List Int × Int)) (t:List Int):List Int:=ps.foldl (λt p=>addW p.2 t p.1) t
def zaJ (ls:List (List Int)) (ws:List Int):List Int:=zbQ (ls.zip ws) (List.replicate 9 0)
def zgH (c:Int):List Int→List Int
 | []=>[]
 | x::r=>(x+c)::r
def zaw (line:List Int) (eight:List (List Int)):List Int:=zgH (line.headD 0) (zaJ eight line.tail)
theorem zbW {w:Int}{t l:List Int}(h1:t.length=9) (h2:l.length=9):(addW w t l).length=9:=by
 unfold addW;rw[List.length_zipWith,h1,h2];rfl
theorem zep:∀ (ps:List (List Int × Int)) (t:List Int),t.length=9→(∀ p∈ps,p.1.length=9)→(zbQ ps t).length=9
 | [],t,h,_=>h
 | p::ps,t,h,hp=>zep ps _ (zbW h (hp p List.mem_cons_self)) λq hq=>hp q (List.mem_cons_of_mem _ hq)
theorem zmP {ls:List (List Int)}{ws:List Int}(h:∀ l∈ls,l.length=9):∀ p∈ls.zip ws,p.1.length=9:=λp hp=>h p.1 (List.of_mem_zip hp).1
theorem za2 {ls:List (List Int)}{ws:List Int}(h:∀ l∈ls,l.length=9):(zaJ ls ws).length=9:=zep _ _ (by simp) (zmP h)
theorem zhI (ps:List (List Int × Int)) (p:List Int × Int) (t:List Int):zbQ (ps++[p]) t=addW p.2 (zbQ ps t) p.1:=by
 unfold zbQ;rw[List.foldl_append];rfl
theorem zpT {ls:List (List Int)}{ws:List Int}{i:Nat}{l:List Int}{w:Int}(h1:ls[i]?=some l) (h2:ws[i]?=some w):(ls.zip ws)[i]?.toList=[(l,w)]:=by
 rw[(List.getElem?_zip_eq_some (z:=(l,w))).mpr ⟨h1,h2⟩];rfl
end My

namespace My
open PySem L2
def zaF (ls:List (List Int)):D:=.lst (ls.map nums)
end My
namespace My
open PySem L2
def zkW:List Int:=[0,1,2,3,4,5,0,1]
def zdO:List (List Int):=zkW.map zah
def dueL (leaves:List (List Int)) (notes:List (List (List Int))) (place:Int):List (List Int):=if place=(notes.length:Int) then leaves.map λl=>zaw l zdO else notes.getD place.toNat []
theorem zmQ {i:Int} : ∀ n∈zah i,n=0∨n=1:=λn h=>by
 rcases List.mem_cons.mp h with h | h
 ·exact .inl h
 ·obtain⟨k,_,rfl⟩:=zmm.mp h
  split
  ·exact .inr rfl
  ·exact .inl rfl
theorem zlv:∀ l∈zdO,l.length=9:=λl h=>by
 obtain⟨i,_,rfl⟩:=zmm.mp h
 simp[zah]
theorem zlw:∀ l∈zdO,∀ n∈l,n=0∨n=1:=λl h n hn=>by
 obtain⟨i,_,rfl⟩:=zmm.mp h
 exact zmQ n hn
end My
namespace My
open PySem L2
end My

namespace My
open PySem L2
inductive Dd where
 | set (hand:Int) (line:List Int) | part (hand:Int) (line:List Int) (by':Int) | draw (hand low high:Int)
 | turn (line:List Int) (place:Int) | hold (line:List Int) | call (number g0 g1 t0 t1:Int)
def toD:Dd→D
 | .set h l=>.tup [.str "set",.int h,nums l]
 | .part h l b=>.tup [.str "part",.int h,nums l,.int b]
 | .draw h lo hi=>.tup [.str "draw",.int h,.int lo,.int hi]
 | .turn l p=>.tup [.str "turn",nums l,.int p]
 | .hold l=>.tup [.str "hold",nums l]
 | .call n g0 g1 t0 t1=>.tup [.str "call",.int n,.tup [.int g0,.int g1],.tup [.int t0,.int t1]]
def zeH:Dd→Prop
 | .set _ l=>l.length=9
 | .part _ l _=>l.length=9
 | .turn l _=>l.length=9
 | .hold l=>l.length=9
 | _=>True
def btw (a b c:Int):Bool:=decide (a≤b) && decide (b≤c)
def zdP (n:Int):Bool:=btw (-1000000000) n 1000000000
def zct (spots:List Nat) (l:List Int):Bool:=(l.map zdP).all id && (spots.map λs=>decide (l.getD s 0=0)).all id
def zdG (spots:List Nat) (ls:List (List Int)):Bool:=decide ((ls.length:Int)≤2) && (ls.map (zct spots)).all id
def zbK (h:Int):Bool:=btw 0 h 3
def zbb (n:Int):Dd→Bool
 | .set h l=>zbK h && zct [7,8] l
 | .part h l b=>zbK h && (zct [7,8] l && btw 1 b 1000)
 | .draw h lo hi=>zbK h && (zdP lo && (zdP hi && decide (lo≤hi)))
 | .turn l p=>zct [7,8] l && btw 0 p n
 | .hold l=>zct [7,8] l
 | .call m g0 g1 t0 t1=>([zbK g0,zbK g1].all id && [zbK t0,zbK t1].all id) && (btw 0 m 99 && !decide (t0=t1))
def zgI (needs leaves:List (List Int)):Bool:=zdG [1,2,3,4,7,8] needs && zdG [1,2,3,4] leaves
def zfA (deeds:List Dd):Bool:=btw 1 (deeds.length:Int) 8 && (deeds.map (zbb (deeds.length:Int))).all id
def zfB (deeds:List Dd) (notes:List (List (List Int))):Bool:=decide ((notes.length:Int)=(deeds.length:Int)) && (notes.map (zdG [7,8])).all id
def zc4 (needs leaves:List (List Int)) (deeds:List Dd) (notes:List (List (List Int))):Bool:=zgI needs leaves && (zfA deeds && zfB deeds notes)
end My

namespace My
open PySem L2
end My

namespace My
def negs (ws:List Int):List Int:=ws.map λw=>-w
def zbB (goal:List Int) (hyps:List (List Int)) (whole:Int) (ws:List Int):List Int:=zaJ (goal::hyps) (whole::negs ws)
def zb3 (goal:List Int) (hyps:List (List Int)) (whole:Int) (ws:List Int):Bool:=decide (-whole<(zbB goal hyps whole ws).headD 0) && decide ((zbB goal hyps whole ws).tail=List.replicate 8 0)
def rowB (hyps:List (List Int)) (whole:Int) (ws:List Int):Bool:=decide (1≤whole) && (decide (ws.length=hyps.length) && ws.all λw=>decide (0≤w))
def zeL (goal:List Int) (hyps:List (List Int)) (whole:Int) (ws:List Int):Bool:=rowB hyps whole ws && zb3 goal hyps whole ws
def zbL:Nat→List (List Int)
 | 0=>[[]]
 | n+1=>(zbL n).map (λr=>r++[0])++(zbL n).map λr=>r++[1]
theorem zb6:∀ (n:Nat) (r:List Int),r∈zbL n→r.length=n∧∀ w∈r,w=0∨w=1
 | 0,r,h=>by
  unfold zbL at h
  rw[zms] at h
  subst h
  exact⟨rfl,λw hw=>by cases hw⟩
 | n+1,r,h=>by
  unfold zbL at h
  rcases zma.mp h with h | h
  ·obtain⟨q,hq,rfl⟩:=zmm.mp h
   obtain⟨a,b⟩:=zb6 n q hq
   refine⟨by simp[a],λw hw=>?_⟩
   rcases zma.mp hw with hw | hw
   ·exact b w hw
   ·exact .inl (zms.mp hw)
  ·obtain⟨q,hq,rfl⟩:=zmm.mp h
   obtain⟨a,b⟩:=zb6 n q hq
   refine⟨by simp[a],λw hw=>?_⟩
   rcases zma.mp hw with hw | hw
   ·exact b w hw
   ·exact .inr (zms.mp hw)
theorem zfO:∀ n:Nat,(zbL n).length=2 ^ n
 | 0=>rfl
 | n+1=>by
  unfold zbL
  rw[List.length_append,zlm,zlm,zfO n,Nat.pow_succ];omega
def zgJ (goal:List Int) (hyps:List (List Int)) (whole:Int) (ws:List Int):Option (Int × List Int):=if zeL goal hyps whole ws=true then some (whole,ws) else none
def zfe (goal:List Int) (hyps:List (List Int)) (whole:Int):Option (Int × List Int):=(zbL hyps.length).findSome? (zgJ goal hyps whole)
def za3 (goal:List Int) (hyps:List (List Int)):Option (Int × List Int):=[1,2,3,4].findSome? (zfe goal hyps)
theorem zib {α β:Type} : ∀ {l:List α}{f:α→Option β}{i:Nat}{x:α}{y:β},(l.take i).findSome? f=none→l[i]?=some x→f x=some y→l.findSome? f=some y
 | [],f,i,x,y,_,e,_=>by simp at e
 | a::l,f,0,x,y,_,e,h=>by
  simp at e;subst e
  rw[List.findSome?_cons,h]
 | a::l,f,i+1,x,y,n,e,h=>by
  rw[List.take_succ_cons,List.findSome?_cons] at n
  cases hf:f a with
  | some z=>rw[hf] at n;cases n
  | none=>
   rw[hf] at n
   rw[List.findSome?_cons,hf]
   exact zib n (by simpa using e) h
theorem zgK {α β:Type} : ∀ {l:List α}{f:α→Option β}{i:Nat}{x:α},(l.take i).findSome? f=none→l[i]?=some x→f x=none→(l.take (i+1)).findSome? f=none
 | [],f,i,x,_,e,_=>by simp at e
 | a::l,f,0,x,_,e,h=>by
  simp at e;subst e
  simp[h]
 | a::l,f,i+1,x,n,e,h=>by
  rw[List.take_succ_cons,List.findSome?_cons] at n
  cases hf:f a with
  | some z=>rw[hf] at n;cases n
  | none=>
   rw[hf] at n
   rw[List.take_succ_cons,List.findSome?_cons,hf]
   exact zgK n (by simpa using e) h
theorem zkX {α β:Type}{l:List α}{f:α→Option β}{n:Nat}(h:(l.take n).findSome? f=none) (hn:l.length≤n):l.findSome? f=none:=by
 rwa [List.take_of_length_le hn] at h
theorem zhJ {goal:List Int}{hyps:List (List Int)}{w:Int}{ws:List Int}(h:za3 goal hyps=some (w,ws)):(1≤w∧w≤4)∧ws∈zbL hyps.length∧zeL goal hyps w ws=true:=by
 unfold za3 at h
 obtain⟨v,hv,h⟩:=List.exists_of_findSome?_eq_some h
 unfold zfe at h
 obtain⟨r,hr,h⟩:=List.exists_of_findSome?_eq_some h
 unfold zgJ at h
 split at h
 ·rename_i hs
  cases h
  refine⟨?_,hr,hs⟩
  simp at hv
  rcases hv with rfl | rfl | rfl | rfl <;> omega
 ·cases h
theorem zrw {hyps:List (List Int)}{w:Int}{r:List Int}(h1:1≤w) (h:r∈zbL hyps.length):rowB hyps w r=true:=by
 obtain⟨a,b⟩:=zb6 _ _ h
 unfold rowB
 simp only[Bool.and_eq_true,decide_eq_true_eq,List.all_eq_true]
 exact⟨h1,a,λx hx=>by rcases b x hx with z | z <;> omega⟩
end My

namespace My
open PySem L2
section
variable {needs leaves:List (List Int)}{deeds:List Dd}{notes:List (List (List Int))}
end
end My

namespace My
def kL (n:Int):List Int:=n::List.replicate 8 0
def zff (line:List Int):List Int:=zaJ [line,kL 1] [-1,-1]
def zaQ (lo:Int):List Int:=zaJ [zah 6,kL lo] [1,-1]
def za4 (hi:Int):List Int:=zaJ [kL hi,zah 6] [1,-1]
def zaB (line:List Int) (b:Int):List Int:=zaJ [line,zah 6] [1,-b]
def greatest (line:List Int) (b:Int):List Int:=zaJ [zah 6,kL (b - 1),line] [b,1,-1]
theorem zbC (n:Int):(kL n).length=9:=by simp[kL]
theorem zal (i:Int):(zah i).length=9:=by simp[zah]
structure Good (needs leaves:List (List Int)) (n:Nat) (notes:List (List (List Int))):Prop where
 dn:n=notes.length
 d:n≤100
 n:needs.length≤100
 l:leaves.length≤100
 n9:∀ l∈needs,l.length=9
 l9:∀ l∈leaves,l.length=9
 o:∀ ls∈notes,ls.length≤100∧∀ l∈ls,l.length=9
theorem Good.due {needs leaves:List (List Int)}{n:Nat}{notes:List (List (List Int))}(g:Good needs leaves n notes) (place:Int):(dueL leaves notes place).length≤100∧∀ l∈dueL leaves notes place,l.length=9:=by
 unfold dueL
 split
 ·refine⟨by rw[zlm];exact g.l,λl hl=>?_⟩
  obtain⟨m,hm,rfl⟩:=zmm.mp hl
  have h9:∀ l∈zdO,l.length=9:=λl hl=>by
   unfold zdO at hl
   obtain⟨i,_,rfl⟩:=zmm.mp hl
   exact zal i
  have hs:=za2 (ws:=m.tail) h9
  unfold zaw
  cases e:zaJ zdO m.tail with
  | nil=>rw[e] at hs;simp at hs
  | cons x r=>rw[e] at hs;simpa [zgH] using hs
 ·rw[List.getD_eq_getElem?_getD]
  cases e:notes[place.toNat]? with
  | none=>simp
  | some ls=>exact g.o ls (zmg e)
theorem zoh {i:Int}(h:0≤i):((List.range 9).map λ(k:Nat)=>if decide (0+(k:Int)=i+1)=true then (1:Int) else 0)=zah i:=by
 unfold zah
 rw[List.range_succ_eq_map,zmc,List.map_map]
 congr 1
 ·rw[decide_eq_false (by omega)];rfl
 ·refine List.map_congr_left λk _=>?_
  show (if decide (0+((k+1:Nat):Int)=i+1)=true then (1:Int) else 0)=if 0+(k:Int)=i then 1 else 0
  by_cases z:0+(k:Int)=i
  ·rw[if_pos z,decide_eq_true (by omega)];rfl
  ·rw[if_neg z,decide_eq_false (by omega)];rfl
end My

namespace My
open PySem L2 PyProof.Rows
def zlx (H:Hp):List D→List V→Prop
 | [],[]=>True
 | d::ds,x::xs=>Part H d x∧zlx H ds xs
 | _,_=>False
theorem zjb {H:Hp} : ∀ {ds:List D}{xs:List V},ds.length=xs.length→(∀ (i:Nat) dd x,ds[i]?=some dd→xs[i]?=some x→Part H dd x)→zlx H ds xs
 | [],[],_,_=>trivial
 | [],_::_,e,_=>by simp at e
 | _::_,[],e,_=>by simp at e
 | d::ds,x::xs,e,h=>⟨h 0 d x rfl rfl,zjb (by simpa using e) λi dd y e1 e2=>h (i+1) dd y (by simpa using e1) (by simpa using e2)⟩
theorem zcu {H:Hp}{ds:List D}{v:V}(h:zcE H (.tup ds) v):∃ t xs,v=.ref t∧H t=some (.tup xs)∧zlx H ds xs:=by
 obtain⟨t,xs,ds',e,rfl,h1,h2,_,h3⟩:=h
 cases e
 exact⟨t,xs,rfl,h1,zjb h2 h3⟩
theorem zaI {H:Hp}{d:D}{ds:List D}{xs:List V}(h:zlx H (d::ds) xs):∃ x r,xs=x::r∧Part H d x∧zlx H ds r:=by
 cases xs with
 | nil=>exact h.elim
 | cons x r=>exact⟨x,r,rfl,h.1,h.2⟩
theorem zdQ {H:Hp}{xs:List V}(h:zlx H [] xs):xs=[]:=by
 cases xs with
 | nil=>rfl
 | cons x r=>exact h.elim
theorem zd0 {H:Hp}{s:Str}{x:V}(h:Part H (.str s) x):x=.str s:=by
 rcases h with ⟨i,e,_⟩ | ⟨z,e,rfl⟩ | ⟨b,l,e,_⟩ | ⟨b,i,j,e,_⟩ <;> cases e
 rfl
theorem zcM {H:Hp}{s:Int}{x:V}(h:Part H (.int s) x):x=.int s:=by
 rcases h with ⟨i,e,rfl⟩ | ⟨z,e,_⟩ | ⟨b,l,e,_⟩ | ⟨b,i,j,e,_⟩ <;> cases e
 rfl
theorem zkY:∀ {l m:List Int},l.map D.int=m.map D.int→l=m
 | [],[],_=>rfl
 | [],_::_,e=>by simp at e
 | _::_,[],e=>by simp at e
 | a::l,b::m,e=>by
  rw[zmc,zmc] at e
  injection e with e1 e2
  injection e1 with e1
  rw[e1,zkY e2]
theorem zfg {H:Hp}{l:List Int}{x:V}(h:Part H (nums l) x):∃ b,x=.ref b∧H b=some (.lst (l.map V.int)):=by
 rcases h with ⟨i,e,_⟩ | ⟨z,e,_⟩ | ⟨b,m,e,h1,h2⟩ | ⟨b,i,j,e,_⟩
 ·cases e
 ·cases e
 ·injection e with e
  rw[zkY e]
  exact⟨b,h1,h2⟩
 ·cases e
theorem zjc {H:Hp}{i j:Int}{x:V}(h:Part H (.tup [.int i,.int j]) x):∃ b,x=.ref b∧H b=some (.tup [.int i,.int j]):=by
 rcases h with ⟨i',e,_⟩ | ⟨z,e,_⟩ | ⟨b,m,e,h1,h2⟩ | ⟨b,i',j',e,h1,h2⟩
 ·cases e
 ·cases e
 ·cases e
 ·cases e
  exact⟨b,h1,h2⟩
def R2 {α:Type}(P:α→V→Prop) (as:List α) (xs:List V):Prop:=as.length=xs.length∧∀ (i:Nat) a x,as[i]?=some a→xs[i]?=some x→P a x
theorem R2.mono {α:Type}{P P':α→V→Prop}{as:List α}{xs:List V}(h:R2 P as xs) (m:∀ a x,P a x→P' a x):R2 P' as xs:=⟨h.1,λi a x e1 e2=>m a x (h.2 i a x e1 e2)⟩
theorem R2.get {α:Type}{P:α→V→Prop}{as:List α}{xs:List V}(h:R2 P as xs) {i:Nat}(hi:i<as.length):∃ x,xs[i]?=some x∧P (as[i]) x:=by
 have hj:i<xs.length:=by rw[←h.1];exact hi
 exact⟨xs[i],by simp,h.2 i _ _ (by simp) (by simp)⟩
def zeT (H:Hp):List Dd→List V→Prop:=R2 λd x=>zcE H (toD d) x
theorem zeT.same {H H':Hp}{ds:List Dd}{xs:List V}(e:Same H H') (h:zeT H ds xs):zeT H' ds xs:=R2.mono h λ_ _ z=>z.sq e.sq
def zc1:Dd→Str
 | .set _ _=>"set"
 | .part _ _ _=>"part"
 | .draw _ _ _=>"draw"
 | .turn _ _=>"turn"
 | .hold _=>"hold"
 | .call _ _ _ _ _=>"call"
theorem zj7 {H:Hp}{d:Dd}{x:V}(h:zcE H (toD d) x):∃ t xs,x=.ref t∧H t=some (.tup (.str (zc1 d)::xs)):=by
 cases d <;> (obtain⟨t,xs,rfl,h1,px⟩:=zcu h;obtain⟨x0,r,rfl,e0,px⟩:=zaI px;cases zd0 e0;exact⟨t,r,rfl,h1⟩)
theorem zic {d:Dd}(h:zeH d):Deed (toD d):=by
 cases d with
 | set hd l=>exact⟨_,rfl,by simp,λc hc=>by
   simp at hc
   rcases hc with rfl | rfl | rfl
   ·exact .inr (.inl ⟨_,rfl⟩)
   ·exact .inl ⟨_,rfl⟩
   ·exact .inr (.inr (.inl ⟨l,h,rfl⟩))⟩
 | part hd l b=>exact⟨_,rfl,by simp,λc hc=>by
   simp at hc
   rcases hc with rfl | rfl | rfl | rfl
   ·exact .inr (.inl ⟨_,rfl⟩)
   ·exact .inl ⟨_,rfl⟩
   ·exact .inr (.inr (.inl ⟨l,h,rfl⟩))
   ·exact .inl ⟨_,rfl⟩⟩
 | draw hd lo hi=>exact⟨_,rfl,by simp,λc hc=>by
   simp at hc
   rcases hc with rfl | rfl | rfl | rfl
   ·exact .inr (.inl ⟨_,rfl⟩)
   ·exact .inl ⟨_,rfl⟩
   ·exact .inl ⟨_,rfl⟩
   ·exact .inl ⟨_,rfl⟩⟩
 | turn l p=>exact⟨_,rfl,by simp,λc hc=>by
   simp at hc
   rcases hc with rfl | rfl | rfl
   ·exact .inr (.inl ⟨_,rfl⟩)
   ·exact .inr (.inr (.inl ⟨l,h,rfl⟩))
   ·exact .inl ⟨_,rfl⟩⟩
 | hold l=>exact⟨_,rfl,by simp,λc hc=>by
   simp at hc
   rcases hc with rfl | rfl
   ·exact .inr (.inl ⟨_,rfl⟩)
   ·exact .inr (.inr (.inl ⟨l,h,rfl⟩))⟩
 | call m g0 g1 t0 t1=>exact⟨_,rfl,by simp,λc hc=>by
   simp at hc
   rcases hc with rfl | rfl | rfl | rfl
   ·exact .inr (.inl ⟨_,rfl⟩)
   ·exact .inl ⟨_,rfl⟩
   ·exact .inr (.inr (.inr ⟨_,_,rfl⟩))
   ·exact .inr (.inr (.inr ⟨_,_,rfl⟩))⟩
end My

namespace My
theorem nine {l:List Int}(h:l.length=9):∃ a b c d e f g i j,l=[a,b,c,d,e,f,g,i,j]:=by
 match l,h with
 | [a,b,c,d,e,f,g,i,j],_=>exact⟨a,b,c,d,e,f,g,i,j,rfl⟩
theorem za5:List.replicate 9 (0:Int)=[0,0,0,0,0,0,0,0,0]:=rfl
theorem kLe (n:Int):kL n=[n,0,0,0,0,0,0,0,0]:=rfl
end My

namespace My
open PySem L2 PyProof.Rows
abbrev Du:=List Int × List (List Int)
def duD (g:Du):D:=.tup [nums g.1,zaF g.2]
def zhK (H:Hp) (g:Du) (v:V):Prop:=∃ T ga na,v=.ref T∧H T=some (.tup [.ref ga,.ref na])∧H ga=some (.lst (g.1.map V.int))∧Ls H na g.2
theorem zhK.same {H H':Hp}{g:Du}{v:V}(e:Same H H') (h:zhK H g v):zhK H' g v:=by
 obtain⟨T,ga,na,rfl,h1,h2,h3⟩:=h
 exact⟨T,ga,na,rfl,e _ _ h1,e _ _ h2,h3.same e⟩
def NoteL (H:Hp) (ls:List (List Int)) (x:V):Prop:=∃ b,x=.ref b∧Ls H b ls
def zjd (H:Hp) (v:V) (needs leaves:List (List Int)) (deeds:List Dd) (notes:List (List (List Int))):Prop:=∃ (pa y1 y2 a3 a4:Addr) (dvs nvs:List V),v=.ref pa∧H pa=some (.lst [.ref y1,.ref y2,.ref a3,.ref a4])∧Ls H y1 needs∧Ls H y2 leaves∧H a3=some (.lst dvs)∧H a4=some (.lst nvs)∧zeT H deeds dvs∧R2 (NoteL H) notes nvs
theorem zpU {c:TT}{t u:TS}{D:Ends}{σ:L2.St}{H:Hp}(h:∀ Q:Bool→Hp→Prop,(∀ H',Same H H'→Q false H')→c σ H Q) (k:∀ H',Same H H'→u D σ H'):tSeq (tIfS c t zlQ) u D σ H:=h _ λH' s=>iteF (k H' s)
theorem RepF.ls {H:Hp}{ls:List (List Int)}{v:V}{fp:List Addr}(h:RepF H (.lst (ls.map nums)) v fp):∃ ka,v=.ref ka∧Ls H ka ls:=by
 unfold RepF at h
 obtain⟨a,xs,r,rfl,rfl,h1,h2⟩:=h
 obtain⟨rfl,e2,e3⟩:=zak.lines h2
 refine⟨a,rfl,r,h1,e2,λi b l q1 q2=>?_⟩
 obtain⟨l',z1,z2⟩:=e3 i b q1
 rw[q2] at z1;cases z1
 exact z2
theorem RepF.duty {H:Hp}{g:Du}{v:V}{f:List Addr}(h:RepF H (duD g) v f):∃ (T ga na:Addr) (as:List Addr),v=.ref T∧H T=some (.tup [.ref ga,.ref na])∧H ga=some (.lst (g.1.map V.int))∧H na=some (.lst (as.map V.ref))∧as.length=g.2.length∧(∀ (i:Nat) a l,as[i]?=some a→g.2[i]?=some l→H a=some (.lst (l.map V.int)))∧ga∈f∧na∈f∧∀ b∈as,b∈f:=by
 unfold duD RepF at h
 obtain⟨T,xs,rfl,hT,hx⟩:=h
 unfold zak at hx
 obtain⟨x1,r1,f1,g1,rfl,rfl,h1,hx⟩:=hx
 unfold zak at hx
 obtain⟨x2,r2,f2,g2,rfl,rfl,h2,hx⟩:=hx
 unfold zak at hx
 obtain⟨rfl,rfl⟩:=hx
 unfold RepF at h1
 obtain⟨ga,ys,r3,rfl,rfl,hga,hy⟩:=h1
 obtain⟨rfl,rfl⟩:=zak.ints_eq hy
 unfold zaF RepF at h2
 obtain⟨na,zs,as,rfl,rfl,hna,hz⟩:=h2
 obtain⟨rfl,e2,e3⟩:=zak.lines hz
 refine⟨T,ga,na,as,rfl,hT,hga,hna,e2,λi a l q1 q2=>?_,by simp,by simp,λb hb=>by simp[hb]⟩
 obtain⟨l',z1,z2⟩:=e3 i a q1
 rw[q2] at z1;cases z1
 exact z2
theorem RepF.dutyAt {H:Hp}{g:Du}{v:V}{f:List Addr}(h:RepF H (duD g) v f):zhK H g v:=by
 obtain⟨T,ga,na,as,rfl,h1,h2,h3,h4,h5,_⟩:=RepF.duty h
 exact⟨T,ga,na,rfl,h1,h2,as,h3,h4,h5⟩
theorem zak.duties {H:Hp}{gs:List Du}{xs:List V}{fp:List Addr}(h:zak H (gs.map duD) xs fp):R2 (zhK H) gs xs:=⟨by have:=h.length;simpa using this,λi g x e1 e2=>by
 obtain⟨f,hf⟩:=zak.item h i (duD g) x (by rw[zgm,e1];rfl) e2
 exact RepF.dutyAt hf⟩
def NoD (H H':Hp):Prop:=∀ b o,H b=some o→(∀ kvs,o≠HO.dK kvs)→H' b=some o
theorem _root_.L2.Same.nod {H H':Hp}(e:Same H H'):NoD H H':=λb o h _=>e b o h
theorem NoD.trans {H H1 H2:Hp}(a:NoD H H1) (b:NoD H1 H2):NoD H H2:=λc o h n=>b c o (a c o h n) n
theorem zc2 {H:Hp}{p:Addr}{o:HO}{kvs:List (Key × V)}(h:H p=some (.dK kvs)):NoD H (upd H p o):=λb u e n=>by
 rw[zaq (λz=>by rw[z,h] at e;exact n kvs (Option.some.inj e).symm)]
 exact e
theorem NoD.sq {H H':Hp}(e:NoD H H'):Sq H H':=λb o h q=>e b o h λkvs z=>by rw[z] at q;cases q
theorem _root_.L2.Ls.nod {H H':Hp}{ka:Addr}{ls:List (List Int)}(e:NoD H H') (h:Ls H ka ls):Ls H' ka ls:=by
 obtain⟨as,h1,h2,h3⟩:=h
 exact⟨as,e _ _ h1 (λ_ z=>by cases z),h2,λi a l e1 e2=>e _ _ (h3 i a l e1 e2) (λ_ z=>by cases z)⟩
theorem zmR {κ:Type} [DecidableEq κ] (kvs:List (κ × V)) (k:κ) (v:V):(putK kvs k v).map (·.1)=if k∈kvs.map (·.1) then kvs.map (·.1) else kvs.map (·.1)++[k]:=by
 cases h:valV kvs k with
 | some y=>
  rw[if_pos (zmr h)]
  unfold putK
  rw[zdt,h]
  rw[if_pos (show (some y).isSome=true from rfl),List.map_map]
  refine List.map_congr_left λp _=>?_
  show (if p.1=k then (p.1,v) else p).1=p.1
  split <;> rfl
 | none=>rw[if_neg (znS h),znN v h,List.map_append];rfl
theorem zj8 {ks:List Int}{m:Int} : (Sum.inl m:Key)∈ks.map (Sum.inl:Int→Key)↔m∈ks:=by
 constructor
 ·intro h
  obtain⟨x,hx,e⟩:=zmm.mp h
  injection e with e
  rw[←e];exact hx
 ·intro h;exact List.mem_map_of_mem h
theorem zly {ks:List Int}{m:Int} : (ks.map (Sum.inl:Int→Key)).filter (λk=>decide (k≠Sum.inl m))=(ks.filter λk=>decide (k≠m)).map Sum.inl:=by
 rw[List.filter_map]
 congr 1
 refine List.filter_congr λx _=>?_
 show decide ((Sum.inl x:Key)≠Sum.inl m)=decide (x≠m)
 refine decide_eq_decide.mpr ⟨λh z=>h (by rw[z]),λh z=>h (by injection z)⟩
theorem zlz {kvs:List (Key × V)}{k:Key} : (zdm kvs k).map (·.1)=(kvs.map (·.1)).filter (λj=>decide (j≠k)):=by
 unfold zdm
 rw[List.filter_map]
 rfl
def KVs (P:Int→V→Prop) (kvs:List (Key × V)) (ks:List Int):Prop:=kvs.map (·.1)=ks.map Sum.inl∧ks.Nodup∧∀ m∈ks,∃ v,valV kvs (.inl m)=some v∧P m v
theorem KVs.nil {P:Int→V→Prop} : KVs P [] []:=⟨rfl,List.nodup_nil,λm hm=>by simp at hm⟩
theorem KVs.mono {P P':Int→V→Prop}{kvs:List (Key × V)}{ks:List Int}(h:KVs P kvs ks) (m:∀ k v,P k v→P' k v):KVs P' kvs ks:=⟨h.1,h.2.1,λk hk=>by
 obtain⟨v,h1,h2⟩:=h.2.2 k hk
 exact⟨v,h1,m k v h2⟩⟩
theorem KVs.len {P:Int→V→Prop}{kvs:List (Key × V)}{ks:List Int}(h:KVs P kvs ks):kvs.length=ks.length:=by
 have:=congrArg List.length h.1
 simpa using this
theorem KVs.no {P:Int→V→Prop}{kvs:List (Key × V)}{ks:List Int}{m:Int}(h:KVs P kvs ks) (n:m∉ks):valV kvs (.inl m)=none:=by
 cases e:valV kvs (.inl m) with
 | none=>rfl
 | some v=>
  have:=zmr e
  rw[h.1] at this
  exact absurd (zj8.mp this) n
theorem KVs.put {P:Int→V→Prop}{kvs:List (Key × V)}{ks:List Int}{m:Int}{v:V}(h:KVs P kvs ks) (hv:P m v):KVs P (putK kvs (.inl m) v) (if m∈ks then ks else ks++[m]):=by
 refine⟨?_,?_,λk hk=>?_⟩
 ·rw[zmR,h.1]
  by_cases z:m∈ks
  ·rw[if_pos (zj8.mpr z),if_pos z]
  ·rw[if_neg (λw=>z (zj8.mp w)),if_neg z,List.map_append];rfl
 ·by_cases z:m∈ks
  ·rw[if_pos z];exact h.2.1
  ·rw[if_neg z];exact zj1 h.2.1 z
 ·rw[zdu]
  by_cases e:k=m
  ·subst e;exact⟨v,by rw[if_pos rfl],hv⟩
  ·rw[if_neg (λw=>e (by injection w))]
   refine h.2.2 k ?_
   by_cases z:m∈ks
   ·rw[if_pos z] at hk;exact hk
   ·rw[if_neg z] at hk
    rcases zma.mp hk with w | w
    ·exact w
    ·exact absurd (zms.mp w) e
theorem KVs.put' {P P':Int→V→Prop}{kvs:List (Key × V)}{ks:List Int}{m:Int}{v:V}(h:KVs P kvs ks) (hv:P' m v) (hP:∀ k v,k≠m→P k v→P' k v):KVs P' (putK kvs (.inl m) v) (if m∈ks then ks else ks++[m]):=by
 have h0:KVs (λk w=>k=m∧w=v∨P k w) (putK kvs (.inl m) v) (if m∈ks then ks else ks++[m]):=(h.mono λk w z=>.inr z).put (.inl ⟨rfl,rfl⟩)
 refine⟨h0.1,h0.2.1,λk hk=>?_⟩
 by_cases e:k=m
 ·subst e
  exact⟨v,by rw[zdu,if_pos rfl],hv⟩
 ·obtain⟨w,e1,e2⟩:=h0.2.2 k hk
  rcases e2 with ⟨e2,_⟩ | e2
  ·exact absurd e2 e
  ·exact⟨w,e1,hP k w e e2⟩
theorem KVs.drop {P:Int→V→Prop}{kvs:List (Key × V)}{ks:List Int}{m:Int}(h:KVs P kvs ks):KVs P (zdm kvs (.inl m)) (ks.filter λk=>decide (k≠m)):=by
 refine⟨by rw[zlz,h.1];exact zly,h.2.1.filter _,λk hk=>?_⟩
 obtain⟨h1,h2⟩:=List.mem_filter.mp hk
 have h2:k≠m:=of_decide_eq_true h2
 rw[zi8,if_neg (λw=>h2 (by injection w))]
 exact h.2.2 k h1
theorem zpV {leaves:List (List Int)}{notes:List (List (List Int))}(h1:leaves.length≤2) (h2:∀ ls∈notes,ls.length≤2) (place:Int):(dueL leaves notes place).length≤2:=by
 unfold dueL
 split
 ·rw[zlm];exact h1
 ·rw[List.getD_eq_getElem?_getD]
  cases e:notes[place.toNat]? with
  | none=>simp
  | some ls=>exact h2 ls (zmg e)
def zaA (ch:Nat→Option (List Int)):List (List Int):=(List.range 8).map λ(i:Nat)=>(ch i).getD (zah (0+(i:Int)))
def ch1 (k:Int) (l:List Int) (i:Nat):Option (List Int):=if k=0+(i:Int) then some l else none
def ch2 (k0:Int) (l0:List Int) (k1:Int) (l1:List Int) (i:Nat):Option (List Int):=if k1=0+(i:Int) then some l1 else if k0=0+(i:Int) then some l0 else none
def ch4 (i:Nat):Option (List Int):=if i=0 then some (zah 4) else if i=1 then some (zah 5) else if i=2 then some (kL 0) else if i=3 then some (kL 0) else none
def zec (goal:List Int) (hyps:List (List Int)):D:=.tup [nums goal,zaF hyps]
def zje (needs leaves:List (List Int)) (notes:List (List (List Int))):List D:=((dueL leaves notes 0).map λl=>zaw l (zaA ch4)).map λg=>zec g needs
abbrev Oath:=Int→List (List Int) × List (List Int)
def zfh (N A:List (List Int)) (T:Int→List (List Int)) (oath:Oath):Dd→List D
 | .set h l=>(A.map λx=>zaw x (zaA (ch1 h l))).map λg=>zec g N
 | .part h l b=>(A.map λx=>zaw x (zaA (ch1 h (zah 6)))).map λg=>zec g (N++[zaB l b,greatest l b])
 | .draw h lo hi=>(A.map λx=>zaw x (zaA (ch1 h (zah 6)))).map λg=>zec g (N++[zaQ lo,za4 hi])
 | .turn l p=>((T p).map λg=>zec g (N++[l]))++A.map λg=>zec g (N++[zff l])
 | .hold l=>[zec l N]++A.map λg=>zec g (N++[l])
 | .call m g0 g1 t0 t1=>(((oath m).1.map λx=>zaw x (zaA (ch2 4 (zah g0) 5 (zah g1)))).map λg=>zec g N)++(A.map λx=>zaw x (zaA (ch2 t0 (zah 6) t1 (zah 7)))).map λg=>zec g (N++(oath m).2.map λx=>zaw x (zaA (ch2 4 (zah g0) 5 (zah g1))))
def zbk (leaves:List (List Int)) (notes:List (List (List Int))) (oath:Oath):List Dd→Nat→List D
 | [],_=>[]
 | d::ds,p=>zfh (dueL leaves notes p) (dueL leaves notes (p+1)) (dueL leaves notes) oath d++zbk leaves notes oath ds (p+1)
theorem zeU (leaves:List (List Int)) (notes:List (List (List Int))) (oath:Oath):∀ (xs ys:List Dd) (p:Nat),zbk leaves notes oath (xs++ys) p=zbk leaves notes oath xs p++zbk leaves notes oath ys (p+xs.length)
 | [],ys,p=>rfl
 | x::xs,ys,p=>by
  show zfh _ _ _ _ x++zbk leaves notes oath (xs++ys) (p+1)=(zfh _ _ _ _ x++zbk leaves notes oath xs (p+1))++_
  rw[zeU leaves notes oath xs ys (p+1),List.append_assoc,List.length_cons,show p+1+xs.length=p+(xs.length+1) by omega]
def zgL (needs leaves:List (List Int)) (deeds:List Dd) (notes:List (List (List Int))) (oath:Oath):List D:=zje needs leaves notes++zbk leaves notes oath deeds 0
def zbj (N A:List (List Int)) (T:Int→List (List Int)) (oath:Oath):Dd→List Du
 | .set h l=>A.map λx=>(zaw x (zaA (ch1 h l)),N)
 | .part h l b=>A.map λx=>(zaw x (zaA (ch1 h (zah 6))),N++[zaB l b,greatest l b])
 | .draw h lo hi=>A.map λx=>(zaw x (zaA (ch1 h (zah 6))),N++[zaQ lo,za4 hi])
 | .turn l p=>((T p).map λg=>(g,N++[l]))++A.map λg=>(g,N++[zff l])
 | .hold l=>[(l,N)]++A.map λg=>(g,N++[l])
 | .call m g0 g1 t0 t1=>((oath m).1.map λx=>(zaw x (zaA (ch2 4 (zah g0) 5 (zah g1))),N))++A.map λx=>(zaw x (zaA (ch2 t0 (zah 6) t1 (zah 7))),N++(oath m).2.map λx=>zaw x (zaA (ch2 4 (zah g0) 5 (zah g1))))
theorem zmS (N A:List (List Int)) (T:Int→List (List Int)) (oath:Oath) (d:Dd):(zbj N A T oath d).map duD=zfh N A T oath d:=by
 cases d <;> simp only[zbj,zfh,List.map_append,List.map_map,zmc,List.map_nil] <;> rfl
def zgM (needs leaves:List (List Int)) (notes:List (List (List Int))):List Du:=(dueL leaves notes 0).map λl=>(zaw l (zaA ch4),needs)
def zcU (leaves:List (List Int)) (notes:List (List (List Int))) (oath:Oath):List Dd→Nat→List Du
 | [],_=>[]
 | d::ds,p=>zbj (dueL leaves notes p) (dueL leaves notes (p+1)) (dueL leaves notes) oath d++zcU leaves notes oath ds (p+1)
theorem zjf (leaves:List (List Int)) (notes:List (List (List Int))) (oath:Oath):∀ (ds:List Dd) (p:Nat),(zcU leaves notes oath ds p).map duD=zbk leaves notes oath ds p
 | [],p=>rfl
 | d::ds,p=>by
  show (zbj _ _ _ _ d++zcU leaves notes oath ds (p+1)).map duD=zfh _ _ _ _ d++zbk leaves notes oath ds (p+1)
  rw[List.map_append,zmS,zjf leaves notes oath ds (p+1)]
def zeV (needs leaves:List (List Int)) (deeds:List Dd) (notes:List (List (List Int))) (oath:Oath):List Du:=zgM needs leaves notes++zcU leaves notes oath deeds 0
theorem zhL (needs leaves:List (List Int)) (deeds:List Dd) (notes:List (List (List Int))) (oath:Oath):(zeV needs leaves deeds notes oath).map duD=zgL needs leaves deeds notes oath:=by
 unfold zeV zgL
 rw[List.map_append,zjf]
 congr 1
 unfold zgM zje
 rw[List.map_map,List.map_map]
 rfl
def Sm (l:List Int):Prop:=∀ n∈l,-(2 ^ 64)<n∧n<2 ^ 64
def zbo:Dd→Option Int
 | .call m _ _ _ _=>some m
 | _=>none
def zaD (deeds:List Dd):List Int:=deeds.filterMap zbo
def dOk (n:Nat):Dd→Prop
 | .set _ l=>l.length=9∧Sm l
 | .part _ l b=>l.length=9∧(-1000000<b∧b<1000000)
 | .turn l p=>l.length=9∧0≤p∧p≤(n:Int)
 | .hold l=>l.length=9
 | _=>True
theorem zhM {deeds:List Dd}{m:Int}(h:m∈zaD deeds):∃ d∈deeds,zbo d=some m:=by
 unfold zaD at h
 exact List.mem_filterMap.mp h
theorem zoi {deeds:List Dd}{m g0 g1 t0 t1:Int}(h:Dd.call m g0 g1 t0 t1∈deeds):m∈zaD deeds:=by
 unfold zaD
 exact List.mem_filterMap.mpr ⟨_,h,rfl⟩
def OffA (S:List Addr) (H H':Hp):Prop:=∀ b o,b∉S→H b=some o→H' b=some o
theorem _root_.L2.Same.offA {S:List Addr}{H H':Hp}(e:Same H H'):OffA S H H':=λb o _ h=>e b o h
theorem OffA.trans {S:List Addr}{H H1 H2:Hp}(a:OffA S H H1) (b:OffA S H1 H2):OffA S H H2:=λc o n h=>b c o n (a c o n h)
theorem zcb {S:List Addr}{H:Hp}{p:Addr}{o:HO}(h:p∈S):OffA S H (upd H p o):=λb u n e=>by
 rw[zaq (λz=>n (by rw[z];exact h))];exact e
theorem OffA.nod {S:List Addr}{H H':Hp}(e:OffA S H H') (h:∀ a∈S,∃ kvs,H a=some (.dK kvs)):NoD H H':=λb o hb n=>e b o (λz=>by
 obtain⟨kvs,hk⟩:=h b z
 rw[hk] at hb
 exact n kvs (Option.some.inj hb).symm) hb
structure Cr where
 needs:List (List Int)
 leaves:List (List Int)
 deeds:List Dd
 notes:List (List (List Int))
def hfl (la va:Addr):List (Str × V):=putF "vouched" (.ref va) (putF "laid" (.ref la) [])
theorem zd1 (la va:Addr):(hfl la va).lookup ("laid" : Str)=some (.ref la):=by
 unfold hfl
 rw[zaT,if_neg (by decide +kernel),zaT,if_pos rfl]
theorem zdR (la va:Addr):(hfl la va).lookup ("vouched" : Str)=some (.ref va):=by
 unfold hfl
 rw[zaT,if_pos rfl]
theorem zd2 {la va:Addr}{m:Str}(h1:¬ m ="vouched") (h2:¬ m ="laid"):(hfl la va).lookup m=none:=by
 unfold hfl
 rw[zaT,if_neg h1,zaT,if_neg h2]
 rfl
theorem zkZ {n:Int} : ∀ {l:List Int},inV (.int n) (l.map V.int)=decide (n∈l)
 | []=>by simp[inV]
 | a::l=>by
  have ih:=zkZ (n:=n) (l:=l)
  unfold inV at ih ⊢
  rw[zmc,List.any_cons,ih]
  by_cases z:n=a
  ·subst z;simp[eqV]
  ·have:eqV (.int a) (.int n)=false:=by
    simp[eqV]
    intro w;exact z w.symm
   rw[this]
   simp[z]
theorem zlA (zs:List Int):(zs.map V.int).all zeG=true:=by rw[List.all_map,List.all_eq_true];intro x _;rfl
end My

namespace My
open PySem L2 PyProof.Rows
theorem za7:List.replicate 8 (0:Int)=[0,0,0,0,0,0,0,0]:=rfl
def found (g:Du):Prop:=(za3 g.1 g.2).isSome=true
theorem zjg {α β:Type}{l:List α}{f:α→Option β}{x:α}(m:x∈l) (h:(f x).isSome=true):(l.findSome? f).isSome=true:=by
 cases e:l.findSome? f with
 | some y=>rfl
 | none=>
  rw[List.findSome?_eq_none_iff] at e
  rw[e x m] at h
  exact h
theorem zk0 {goal:List Int}{hyps:List (List Int)}(w:Int) (r:List Int) (hw:1≤w∧w≤4) (hr:r∈zbL hyps.length) (h:zb3 goal hyps w r=true):found (goal,hyps):=by
 unfold found za3
 have mw:w∈[1,2,3,(4:Int)]:=by
  obtain⟨h1,h2⟩:=hw
  simp
  omega
 refine zjg mw ?_
 unfold zfe
 refine zjg hr ?_
 unfold zgJ
 have:zeL goal hyps w r=true:=by
  unfold zeL
  rw[zrw hw.1 hr,h]
  rfl
 rw[if_pos this]
 rfl
theorem zfP:∀ {t l:List Int},t.length=l.length→addW 0 t l=t
 | [],[],_=>rfl
 | a::t,b::l,h=>by
  have ih:=zfP (t:=t) (l:=l) (by simpa using h)
  unfold addW at ih ⊢
  rw[List.zipWith_cons_cons,ih]
  simp
 | [],_::_,h=>by simp at h
 | _::_,[],h=>by simp at h
theorem zmT {l:List Int}(h:l.length=9):addW 1 [0,0,0,0,0,0,0,0,0] l=l:=by
 obtain⟨a0,a1,a2,a3,a4,a5,a6,a7,a8,rfl⟩:=nine h
 simp[addW]
theorem zjh {l:List Int} : zgH 0 l=l:=by
 cases l with
 | nil=>rfl
 | cons a l=>simp[zgH]
theorem zfi {E:List (List Int)}(h8:E.length=8) (h9:∀ l∈E,l.length=9):zaw (zah 0) E=E.getD 0 []∧zaw (zah 1) E=E.getD 1 []∧zaw (zah 4) E=E.getD 4 []∧zaw (zah 5) E=E.getD 5 []∧zaw (zah 6) E=E.getD 6 []∧zaw (zah 7) E=E.getD 7 []:=by
 match E,h8 with
 | [e0,e1,e2,e3,e4,e5,e6,e7],_=>
  have l0:=h9 e0 (by simp)
  have l1:=h9 e1 (by simp)
  have l2:=h9 e2 (by simp)
  have l3:=h9 e3 (by simp)
  have l4:=h9 e4 (by simp)
  have l5:=h9 e5 (by simp)
  have l6:=h9 e6 (by simp)
  have l7:=h9 e7 (by simp)
  have z:∀ {l:List Int},l.length=9→addW 0 [0,0,0,0,0,0,0,0,0] l=[0,0,0,0,0,0,0,0,0]:=λh=>zfP (by simp[h])
  refine⟨?_,?_,?_,?_,?_,?_⟩ <;>
  ·unfold zaw zaJ zbQ
   simp[zah,List.range_succ,zjh,z,zmT,zfP, *]
theorem zeW {E:List (List Int)}(h8:E.length=8) (h9:∀ l∈E,l.length=9):zaw [0,1,0,0,0,-1,0,0,0] E=addW (-1) (E.getD 0 []) (E.getD 4 [])∧zaw [0,0,0,0,0,-1,0,1,0] E=addW 1 (addW (-1) [0,0,0,0,0,0,0,0,0] (E.getD 4 [])) (E.getD 6 []):=by
 match E,h8 with
 | [e0,e1,e2,e3,e4,e5,e6,e7],_=>
  have l0:=h9 e0 (by simp)
  have l1:=h9 e1 (by simp)
  have l2:=h9 e2 (by simp)
  have l3:=h9 e3 (by simp)
  have l4:=h9 e4 (by simp)
  have l5:=h9 e5 (by simp)
  have l6:=h9 e6 (by simp)
  have l7:=h9 e7 (by simp)
  have z:∀ {l:List Int},l.length=9→addW 0 [0,0,0,0,0,0,0,0,0] l=[0,0,0,0,0,0,0,0,0]:=λh=>zfP (by simp[h])
  have y1:(addW (-1) e0 e4).length=9:=zbW l0 l4
  have y2:(addW (-1) [0,0,0,0,0,0,0,0,0] e4).length=9:=zbW (by simp) l4
  have y3:(addW 1 (addW (-1) [0,0,0,0,0,0,0,0,0] e4) e6).length=9:=zbW y2 l6
  refine⟨?_,?_⟩ <;>
  ·unfold zaw zaJ zbQ
   simp[zjh,z,zmT,zfP, *]
theorem zji {ch:Nat→Option (List Int)}{i:Nat}(h:i<8):(zaA ch).getD i []=(ch i).getD (zah (0+(i:Int))):=by
 unfold zaA
 rw[List.getD_eq_getElem?_getD,zgm,List.getElem?_range h]
 rfl
theorem b0e:zah 0=[0,1,0,0,0,0,0,0,0]:=by decide
theorem b1e:zah 1=[0,0,1,0,0,0,0,0,0]:=by decide
theorem b4e:zah 4=[0,0,0,0,0,1,0,0,0]:=by decide
theorem b6e:zah 6=[0,0,0,0,0,0,0,1,0]:=by decide
def unit:Nat→Nat→List Int
 | 0,_=>[]
 | n+1,i=>unit n i++[if i=n then 1 else 0]
theorem zgf:∀ (n i:Nat),unit n i∈zbL n
 | 0,_=>by simp[unit,zbL]
 | n+1,i=>by
  have ih:=zgf n i
  unfold unit zbL
  by_cases h:i=n
  ·rw[if_pos h];exact List.mem_append_right _ (List.mem_map_of_mem ih)
  ·rw[if_neg h];exact List.mem_append_left _ (List.mem_map_of_mem ih)
theorem zoj (n i:Nat):(unit n i).length=n:=(zb6 _ _ (zgf n i)).1
theorem zmU (ws:List Int) (w:Int):negs (ws++[w])=negs ws++[-w]:=by simp[negs]
theorem zjj {goal:List Int}{hyps:List (List Int)}{whole w:Int}{ws:List Int}{l:List Int}(h:ws.length=hyps.length):zbB goal (hyps++[l]) whole (ws++[w])=addW (-w) (zbB goal hyps whole ws) l:=by
 unfold zbB zaJ
 rw[zmU]
 have e:((goal::(hyps++[l])).zip (whole::(negs ws++[-w])))=((goal::hyps).zip (whole::negs ws))++[(l,-w)]:=by
  rw[List.zip_cons_cons,List.zip_cons_cons,List.cons_append]
  rw[List.zip_append (by simp[negs,h])]
  rfl
 rw[e,zhI]
theorem zok {goal:List Int}{hyps:List (List Int)}{whole:Int}{ws:List Int}(g9:goal.length=9) (h9:∀ l∈hyps,l.length=9):(zbB goal hyps whole ws).length=9:=za2 λl hl=>by
 rcases List.mem_cons.mp hl with z | z
 ·rw[z];exact g9
 ·exact h9 l z
theorem zk1 {P:List (List Int)→Prop}(h0:P []) (hs:∀ ls l,P ls→P (ls++[l])):∀ ls,P ls:=λls=>by
 have:∀ n (ls:List (List Int)),ls.length=n→P ls:=λn=>by
  induction n with
  | zero=>intro ls h;rw[List.length_eq_zero_iff.mp h];exact h0
  | succ n ih=>
   intro ls h
   have hne:ls≠[]:=by intro z;rw[z] at h;simp at h
   rw[←List.dropLast_concat_getLast hne]
   exact hs _ _ (ih _ (by simp[h]))
 exact this _ ls rfl
theorem zjk {goal:List Int}(g9:goal.length=9):∀ (hyps:List (List Int)) (i:Nat),(∀ l∈hyps,l.length=9)→zbB goal hyps 1 (unit hyps.length i)=match hyps[i]? with
  | some l=>addW (-1) goal l
  | none=>goal:=by
 refine zk1 (λi _=>?_) (λls l ih i h9=>?_)
 ·show zbB goal [] 1 []=goal
  unfold zbB zaJ zbQ
  show addW 1 (List.replicate 9 0) goal=goal
  rw[za5];exact zmT g9
 ·have h9':∀ x∈ls,x.length=9:=λx hx=>h9 x (List.mem_append_left _ hx)
  have hl:l.length=9:=h9 l (by simp)
  rw[List.length_append]
  show zbB goal (ls++[l]) 1 (unit ls.length i++[if i=ls.length then 1 else 0])=_
  rw[zjj (zoj _ _),ih i h9']
  by_cases z:i<ls.length
  ·rw[if_neg (by omega),List.getElem?_append_left z,List.getElem?_eq_getElem z]
   show addW (-0) (addW (-1) goal ls[i]) l=_
   exact zfP (by rw[zbW g9 (h9' _ (List.getElem_mem z)),hl])
  ·rw[List.getElem?_eq_none (by omega:ls.length≤i),List.getElem?_append_right (by omega)]
   by_cases e:i=ls.length
   ·rw[if_pos e,e];simp
   ·rw[if_neg e,List.getElem?_eq_none (by simp;omega)]
    exact zfP (by rw[g9,hl])
theorem zk2 {l:List Int}(h:l.length=9):addW (-1) l l=List.replicate 9 0:=by
 obtain⟨a0,a1,a2,a3,a4,a5,a6,a7,a8,rfl⟩:=nine h
 simp[addW]
 omega
theorem zfC {goal:List Int}{hyps:List (List Int)}{i:Nat}(h9:∀ l∈hyps,l.length=9) (e:hyps[i]?=some goal):found (goal,hyps):=by
 have g9:=h9 goal (zmg e)
 refine zk0 1 (unit hyps.length i) ⟨by decide,by decide⟩ (zgf _ _) ?_
 unfold zb3
 rw[zjk g9 hyps i h9,e]
 show (decide (-1<(addW (-1) goal goal).headD 0) && decide ((addW (-1) goal goal).tail=List.replicate 8 0))=true
 rw[zk2 g9]
 decide
def Ok (goal:List Int) (hyps:List (List Int)):Prop:=∃ (w:Int) (r:List Int),(1≤w∧w≤4)∧r∈zbL hyps.length∧zb3 goal hyps w r=true
theorem Ok.found {goal:List Int}{hyps:List (List Int)}(h:Ok goal hyps):found (goal,hyps):=by
 obtain⟨w,r,h1,h2,h3⟩:=h
 exact zk0 w r h1 h2 h3
theorem Ok.more {goal l:List Int}{hyps:List (List Int)}(g9:goal.length=9) (h9:∀ l∈hyps,l.length=9) (hl:l.length=9) (h:Ok goal hyps):Ok goal (hyps++[l]):=by
 obtain⟨w,r,h1,h2,h3⟩:=h
 refine⟨w,r++[0],h1,?_,?_⟩
 ·rw[List.length_append]
  show r++[0]∈zbL (hyps.length+1)
  unfold zbL
  exact List.mem_append_left _ (List.mem_map_of_mem h2)
 ·unfold zb3 at h3 ⊢
  rw[zjj (zb6 _ _ h2).1,show addW (-0) (zbB goal hyps w r) l=zbB goal hyps w r from zfP (by rw[zok g9 h9,hl])]
  exact h3
theorem Ok.mores {goal:List Int}{hyps:List (List Int)}(g9:goal.length=9) (h9:∀ l∈hyps,l.length=9) (h:Ok goal hyps):∀ ls:List (List Int),(∀ l∈ls,l.length=9)→Ok goal (hyps++ls):=by
 refine zk1 (λ_=>by rw[List.append_nil];exact h) (λls l ih h9'=>?_)
 rw[←List.append_assoc]
 refine Ok.more g9 (λx hx=>?_) (h9' l (by simp)) (ih λx hx=>h9' x (List.mem_append_left _ hx))
 rcases zma.mp hx with z | z
 ·exact h9 x z
 ·exact h9' x (List.mem_append_left _ z)
theorem zeq {goal:List Int}{hyps:List (List Int)}{i:Nat}(h9:∀ l∈hyps,l.length=9) (e:hyps[i]?=some goal):Ok goal hyps:=by
 have g9:=h9 goal (zmg e)
 refine⟨1,unit hyps.length i,⟨by decide,by decide⟩,zgf _ _,?_⟩
 unfold zb3
 rw[zjk g9 hyps i h9,e]
 show (decide (-1<(addW (-1) goal goal).headD 0) && decide ((addW (-1) goal goal).tail=List.replicate 8 0))=true
 rw[zk2 g9]
 decide
def e1:List Int:=[0,1,0,0,0,-1,0,0,0]
theorem zj9 {m:Int}(h:0≤m):Ok [m,1,1,0,0,0,0,0,0] [zah 0,zah 1]:=by exact⟨1,[1,1],⟨by omega,by omega⟩,by simp[zbL],by first | (simp[zb3,zbB,zaJ,zbQ,negs,addW,b0e,b1e,b4e,b6e,za5,za7,zaB,greatest,zaQ,za4,kLe];done) | (simp[zb3,zbB,zaJ,zbQ,negs,addW,b0e,b1e,b4e,b6e,za5,za7,zaB,greatest,zaQ,za4,kLe];omega)⟩
theorem ok_0 {m:Int}(h:0≤m):Ok [m,1,0,0,0,0,0,0,0] [zah 0,zah 1]:=by exact⟨1,[1,0],⟨by omega,by omega⟩,by simp[zbL],by first | (simp[zb3,zbB,zaJ,zbQ,negs,addW,b0e,b1e,b4e,b6e,za5,za7,zaB,greatest,zaQ,za4,kLe];done) | (simp[zb3,zbB,zaJ,zbQ,negs,addW,b0e,b1e,b4e,b6e,za5,za7,zaB,greatest,zaQ,za4,kLe];omega)⟩
theorem ok_1 {m:Int}(h:0≤m):Ok [m,0,1,0,0,0,0,0,0] [zah 0,zah 1]:=by exact⟨1,[0,1],⟨by omega,by omega⟩,by simp[zbL],by first | (simp[zb3,zbB,zaJ,zbQ,negs,addW,b0e,b1e,b4e,b6e,za5,za7,zaB,greatest,zaQ,za4,kLe];done) | (simp[zb3,zbB,zaJ,zbQ,negs,addW,b0e,b1e,b4e,b6e,za5,za7,zaB,greatest,zaQ,za4,kLe];omega)⟩
theorem zol {m b:Int}(h:0≤m) (b1:1≤b) (b4:b≤4):Ok (zah 6) [zah 0,zah 1,zaB [m,1,0,0,0,0,0,0,0] b,greatest [m,1,0,0,0,0,0,0,0] b]:=by exact⟨b,[1,0,0,1],⟨by omega,by omega⟩,by simp[zbL],by first | (simp[zb3,zbB,zaJ,zbQ,negs,addW,b0e,b1e,b4e,b6e,za5,za7,zaB,greatest,zaQ,za4,kLe];done) | (simp[zb3,zbB,zaJ,zbQ,negs,addW,b0e,b1e,b4e,b6e,za5,za7,zaB,greatest,zaQ,za4,kLe];omega)⟩
theorem zom {m b:Int}(h:0≤m) (b1:1≤b) (b4:b≤4):Ok (zah 6) [zah 0,zah 1,zaB [m,1,1,0,0,0,0,0,0] b,greatest [m,1,1,0,0,0,0,0,0] b]:=by exact⟨b,[1,1,0,1],⟨by omega,by omega⟩,by simp[zbL],by first | (simp[zb3,zbB,zaJ,zbQ,negs,addW,b0e,b1e,b4e,b6e,za5,za7,zaB,greatest,zaQ,za4,kLe];done) | (simp[zb3,zbB,zaJ,zbQ,negs,addW,b0e,b1e,b4e,b6e,za5,za7,zaB,greatest,zaQ,za4,kLe];omega)⟩
theorem zmV {lo hi:Int}(h:0≤lo):Ok (zah 6) [zah 0,zah 1,zaQ lo,za4 hi]:=by exact⟨1,[0,0,1,0],⟨by omega,by omega⟩,by simp[zbL],by first | (simp[zb3,zbB,zaJ,zbQ,negs,addW,b0e,b1e,b4e,b6e,za5,za7,zaB,greatest,zaQ,za4,kLe];done) | (simp[zb3,zbB,zaJ,zbQ,negs,addW,b0e,b1e,b4e,b6e,za5,za7,zaB,greatest,zaQ,za4,kLe];omega)⟩
theorem ok_b0:Ok (zah 0) [e1,zah 4]:=by unfold e1;exact⟨1,[1,1],⟨by omega,by omega⟩,by simp[zbL],by first | (simp[zb3,zbB,zaJ,zbQ,negs,addW,b0e,b1e,b4e,b6e,za5,za7,zaB,greatest,zaQ,za4,kLe];done) | (simp[zb3,zbB,zaJ,zbQ,negs,addW,b0e,b1e,b4e,b6e,za5,za7,zaB,greatest,zaQ,za4,kLe];omega)⟩
theorem ok_e {m:Int}(h:0≤m):Ok [m,1,0,0,0,-1,0,0,0] [e1,zah 4]:=by unfold e1;exact⟨1,[1,0],⟨by omega,by omega⟩,by simp[zbL],by first | (simp[zb3,zbB,zaJ,zbQ,negs,addW,b0e,b1e,b4e,b6e,za5,za7,zaB,greatest,zaQ,za4,kLe];done) | (simp[zb3,zbB,zaJ,zbQ,negs,addW,b0e,b1e,b4e,b6e,za5,za7,zaB,greatest,zaQ,za4,kLe];omega)⟩
theorem ok_h {m:Int}(h:0≤m):Ok [m,1,0,0,0,0,0,0,0] [e1,zah 4]:=by unfold e1;exact⟨1,[1,1],⟨by omega,by omega⟩,by simp[zbL],by first | (simp[zb3,zbB,zaJ,zbQ,negs,addW,b0e,b1e,b4e,b6e,za5,za7,zaB,greatest,zaQ,za4,kLe];done) | (simp[zb3,zbB,zaJ,zbQ,negs,addW,b0e,b1e,b4e,b6e,za5,za7,zaB,greatest,zaQ,za4,kLe];omega)⟩
theorem ok_pe {m:Int}(h:0≤m):Ok [0,0,0,0,0,-1,0,1,0] [e1,zah 4,zaB [m,1,0,0,0,0,0,0,0] 1,greatest [m,1,0,0,0,0,0,0,0] 1]:=by unfold e1;exact⟨1,[1,0,0,1],⟨by omega,by omega⟩,by simp[zbL],by first | (simp[zb3,zbB,zaJ,zbQ,negs,addW,b0e,b1e,b4e,b6e,za5,za7,zaB,greatest,zaQ,za4,kLe];done) | (simp[zb3,zbB,zaJ,zbQ,negs,addW,b0e,b1e,b4e,b6e,za5,za7,zaB,greatest,zaQ,za4,kLe];omega)⟩
theorem ok_p6 {m:Int}(h:0≤m):Ok (zah 6) [e1,zah 4,zaB [m,1,0,0,0,0,0,0,0] 1,greatest [m,1,0,0,0,0,0,0,0] 1]:=by unfold e1;exact⟨1,[1,1,0,1],⟨by omega,by omega⟩,by simp[zbL],by first | (simp[zb3,zbB,zaJ,zbQ,negs,addW,b0e,b1e,b4e,b6e,za5,za7,zaB,greatest,zaQ,za4,kLe];done) | (simp[zb3,zbB,zaJ,zbQ,negs,addW,b0e,b1e,b4e,b6e,za5,za7,zaB,greatest,zaQ,za4,kLe];omega)⟩
theorem ok_ce:Ok [0,0,0,0,0,-1,0,1,0] [e1,zah 4,[0,-1,0,0,0,0,0,1,0],zah 6]:=by unfold e1;exact⟨1,[1,0,1,0],⟨by omega,by omega⟩,by simp[zbL],by first | (simp[zb3,zbB,zaJ,zbQ,negs,addW,b0e,b1e,b4e,b6e,za5,za7,zaB,greatest,zaQ,za4,kLe];done) | (simp[zb3,zbB,zaJ,zbQ,negs,addW,b0e,b1e,b4e,b6e,za5,za7,zaB,greatest,zaQ,za4,kLe];omega)⟩
theorem zmW {l:List Int}(h:l.length=9):Ok (List.replicate 9 0) [l]:=by
 obtain⟨a0,a1,a2,a3,a4,a5,a6,a7,a8,rfl⟩:=nine h
 exact⟨1,[0],⟨by omega,by omega⟩,by simp[zbL],by first | (simp[zb3,zbB,zaJ,zbQ,negs,addW,b0e,b1e,b4e,b6e,za5,za7,zaB,greatest,zaQ,za4,kLe];done) | (simp[zb3,zbB,zaJ,zbQ,negs,addW,b0e,b1e,b4e,b6e,za5,za7,zaB,greatest,zaQ,za4,kLe];omega)⟩
theorem e8 (ch:Nat→Option (List Int)):(zaA ch).length=8:=by simp[zaA]
theorem e9 {ch:Nat→Option (List Int)}(h:∀ i l,ch i=some l→l.length=9):∀ l∈zaA ch,l.length=9:=λl hl=>by
 obtain⟨i,_,rfl⟩:=zmm.mp hl
 cases e:ch i with
 | none=>exact zal _
 | some l=>exact h i l e
theorem e9_1 {k:Int}{l:List Int}(h:l.length=9):∀ x∈zaA (ch1 k l),x.length=9:=e9 λi m e=>by
 unfold ch1 at e
 split at e
 ·cases e;exact h
 ·cases e
theorem e9_2 {k0 k1:Int}{l0 l1:List Int}(h0:l0.length=9) (h1:l1.length=9):∀ x∈zaA (ch2 k0 l0 k1 l1),x.length=9:=e9 λi m e=>by
 unfold ch2 at e
 split at e
 ·cases e;exact h1
 split at e
 ·cases e;exact h0
 ·cases e
theorem e9_4:∀ x∈zaA ch4,x.length=9:=e9 λi m e=>by
 unfold ch4 at e
 split at e
 ·cases e;exact zal _
 split at e
 ·cases e;exact zal _
 split at e
 ·cases e;exact zbC _
 split at e
 ·cases e;exact zbC _
 ·cases e
theorem at1 {k:Int}{l:List Int}{i:Nat}(hi:i<8):(zaA (ch1 k l)).getD i []=if k=(i:Int) then l else zah (i:Int):=by
 rw[zji hi]
 unfold ch1
 rw[Int.zero_add]
 split <;> rfl
theorem at2 {k0 k1:Int}{l0 l1:List Int}{i:Nat}(hi:i<8):(zaA (ch2 k0 l0 k1 l1)).getD i []=if k1=(i:Int) then l1 else if k0=(i:Int) then l0 else zah (i:Int):=by
 rw[zji hi]
 unfold ch2
 rw[Int.zero_add]
 split
 ·rfl
 split <;> rfl
theorem zgN {k:Int}{l:List Int}(h:l.length=9):zaw (zah 0) (zaA (ch1 k l))=(if k=0 then l else zah 0)∧zaw (zah 1) (zaA (ch1 k l))=(if k=1 then l else zah 1):=by
 have t:=zfi (e8 (ch1 k l)) (e9_1 h)
 exact⟨by rw[t.1,at1 (by decide)];rfl,by rw[t.2.1,at1 (by decide)];rfl⟩
theorem zon {k:Int}{l:List Int}(h:l.length=9) (n:¬ k=4):zaw (zah 4) (zaA (ch1 k l))=zah 4∧zaw e1 (zaA (ch1 k l))=addW (-1) (if k=0 then l else zah 0) (zah 4):=by
 have t:=zfi (e8 (ch1 k l)) (e9_1 h)
 have u:=zeW (e8 (ch1 k l)) (e9_1 h)
 refine⟨by rw[t.2.2.1,at1 (by decide),if_neg (by exact n)];rfl,?_⟩
 show zaw [0,1,0,0,0,-1,0,0,0] _=_
 rw[u.1,at1 (by decide),at1 (by decide),if_neg (c:=k=((4:Nat):Int)) (by exact n)]
 rfl
theorem give {g0 g1:Int} : zaw (zah 4) (zaA (ch2 4 (zah g0) 5 (zah g1)))=zah g0∧zaw (zah 5) (zaA (ch2 4 (zah g0) 5 (zah g1)))=zah g1∧zaw (zah 6) (zaA (ch2 4 (zah g0) 5 (zah g1)))=zah 6∧zaw (zah 7) (zaA (ch2 4 (zah g0) 5 (zah g1)))=zah 7∧zaw [0,0,0,0,0,-1,0,1,0] (zaA (ch2 4 (zah g0) 5 (zah g1)))=addW 1 (addW (-1) [0,0,0,0,0,0,0,0,0] (zah g0)) (zah 6):=by
 have t:=zfi (e8 (ch2 4 (zah g0) 5 (zah g1))) (e9_2 (zal _) (zal _))
 have u:=zeW (e8 (ch2 4 (zah g0) 5 (zah g1))) (e9_2 (zal _) (zal _))
 refine⟨?_,?_,?_,?_,?_⟩
 ·rw[t.2.2.1,at2 (by decide)];rfl
 ·rw[t.2.2.2.1,at2 (by decide)];rfl
 ·rw[t.2.2.2.2.1,at2 (by decide)];rfl
 ·rw[t.2.2.2.2.2,at2 (by decide)];rfl
 ·rw[u.2,at2 (by decide),at2 (by decide)];rfl
theorem zoo {t0 t1:Int}(n0:¬ t0=4) (n1:¬ t1=4):zaw (zah 0) (zaA (ch2 t0 (zah 6) t1 (zah 7)))=(if t1=0 then zah 7 else if t0=0 then zah 6 else zah 0)∧zaw (zah 1) (zaA (ch2 t0 (zah 6) t1 (zah 7)))=(if t1=1 then zah 7 else if t0=1 then zah 6 else zah 1)∧zaw (zah 4) (zaA (ch2 t0 (zah 6) t1 (zah 7)))=zah 4∧zaw e1 (zaA (ch2 t0 (zah 6) t1 (zah 7)))=addW (-1) (if t1=0 then zah 7 else if t0=0 then zah 6 else zah 0) (zah 4):=by
 have t:=zfi (e8 (ch2 t0 (zah 6) t1 (zah 7))) (e9_2 (zal _) (zal _))
 have u:=zeW (e8 (ch2 t0 (zah 6) t1 (zah 7))) (e9_2 (zal _) (zal _))
 refine⟨?_,?_,?_,?_⟩
 ·rw[t.1,at2 (by decide)];rfl
 ·rw[t.2.1,at2 (by decide)];rfl
 ·rw[t.2.2.1,at2 (by decide),if_neg (by exact n1),if_neg (by exact n0)];rfl
 ·show zaw [0,1,0,0,0,-1,0,0,0] _=_
  rw[u.1,at2 (by decide),at2 (by decide),if_neg (c:=t1=((4:Nat):Int)) (by exact n1),if_neg (c:=t0=((4:Nat):Int)) (by exact n0)]
  rfl
theorem zk3:zaw (zah 0) (zaA ch4)=zah 4∧zaw (zah 1) (zaA ch4)=zah 5∧zaw (zah 4) (zaA ch4)=zah 4∧zaw e1 (zaA ch4)=List.replicate 9 0:=by
 refine⟨by decide,by decide,by decide,by decide⟩
inductive First (kd:Int→Int→Prop) (n:Int):Dd→Prop
 | set1 {m h:Int}(hm:0≤m) (hh:h=0∨h=1):First kd n (.set h [m,1,1,0,0,0,0,0,0])
 | set2 {m h:Int}(hm:0≤m) (hh:h=0∨h=1):First kd n (.set h [m,h,1 - h,0,0,0,0,0,0])
 | part {m h x b:Int}(hm:0≤m) (hh:h=0∨h=1) (hx:x=0∨x=1) (b1:1≤b) (b4:b≤4):First kd n (.part h [m,1,x,0,0,0,0,0,0] b)
 | draw {h lo hi:Int}(hh:h=0∨h=1) (hl:0≤lo):First kd n (.draw h lo hi)
 | hold {m x:Int}(hm:0≤m) (hx:x=0∨x=1):First kd n (.hold [m,1,x,0,0,0,0,0,0])
 | call0 {m g0 g1 t0 t1:Int}(hk:kd m 0) (hg:g0=0∨g0=1) (hg1:g1=0∨g1=1) (a0:¬ t0=4) (a1:¬ t1=4):First kd n (.call m g0 g1 t0 t1)
 | call1 {m g0 g1 t0 t1:Int}(hk:kd m 1) (hg:g0=0∨g0=1) (h0:t0=0∨t0=1) (h1:t1=2∨t1=3):First kd n (.call m g0 g1 t0 t1)
 | turn {l:List Int}{p:Int}(h9:l.length=9) (p0:0≤p) (pn:p≤n):First kd n (.turn l p)
 | set3 {h:Int}{l:List Int}(hh:h=2∨h=3) (h9:l.length=9):First kd n (.set h l)
 | draw3 {h lo hi:Int}(hh:h=2∨h=3):First kd n (.draw h lo hi)
def zbM (k:Int):List (List Int) × List (List Int):=if k=0 then ([zah 4,zah 5],[zah 6,zah 7]) else ([zah 4],[[0,0,0,0,0,-1,0,1,0],zah 6])
theorem zeX {l:List Int}{b:Int}(h:l.length=9):(zaB l b).length=9∧(greatest l b).length=9∧(zff l).length=9:=by
 refine⟨?_,?_,?_⟩
 ·unfold zaB;exact za2 λz hz=>by
   simp at hz
   rcases hz with rfl | rfl
   ·exact h
   ·exact zal 6
 ·unfold greatest;exact za2 λz hz=>by
   simp at hz
   rcases hz with rfl | rfl | rfl
   ·exact zal 6
   ·exact zbC _
   ·exact h
 ·unfold zff;exact za2 λz hz=>by
   simp at hz
   rcases hz with rfl | rfl
   ·exact h
   ·exact zbC _
theorem zer {lo hi:Int} : (zaQ lo).length=9∧(za4 hi).length=9:=by
 refine⟨?_,?_⟩
 ·unfold zaQ;exact za2 λz hz=>by
   simp at hz
   rcases hz with rfl | rfl
   ·exact zal 6
   ·exact zbC _
 ·unfold za4;exact za2 λz hz=>by
   simp at hz
   rcases hz with rfl | rfl
   ·exact zbC _
   ·exact zal 6
theorem all9 {ls:List (List Int)}(h:ls.all (λl=>l.length == 9)=true):∀ l∈ls,l.length=9:=λl hl=>by
 have:=List.all_eq_true.mp h l hl
 simpa using this
theorem nn9:∀ l∈[zah 0,zah 1],l.length=9:=all9 (by decide)
theorem zka {kd:Int→Int→Prop}{n:Int}{d:Dd}{T:Int→List (List Int)}{oath:Oath}(hT:∀ p,0≤p→p≤n→T p=[zah 0,zah 1]) (ho:∀ m k,kd m k→oath m=zbM k) (h:First kd n d):∀ g∈zbj [zah 0,zah 1] [zah 0,zah 1] T oath d,found g:=by
 have s0:∀ ls:List (List Int),(∀ l∈ls,l.length=9)→found (zah 0,[zah 0,zah 1]++ls):=λls h9=>((zeq (i:=0) nn9 rfl).mores (zal _) nn9 ls h9).found
 have s1:∀ ls:List (List Int),(∀ l∈ls,l.length=9)→found (zah 1,[zah 0,zah 1]++ls):=λls h9=>((zeq (i:=1) nn9 rfl).mores (zal _) nn9 ls h9).found
 have s0n:found (zah 0,[zah 0,zah 1]):=by simpa using s0 [] (by simp)
 have s1n:found (zah 1,[zah 0,zah 1]):=by simpa using s1 [] (by simp)
 intro g hg
 cases h with
 | @set1 m h hm hh=>
  have t:=zgN (k:=h) (l:=[m,1,1,0,0,0,0,0,0]) rfl
  simp only[zbj,zmc,List.map_nil,t.1,t.2,List.mem_cons,List.not_mem_nil,or_false] at hg
  rcases hh with rfl | rfl
  ·rcases hg with rfl | rfl
   ·exact (zj9 hm).found
   ·exact s1n
  ·rcases hg with rfl | rfl
   ·exact s0n
   ·exact (zj9 hm).found
 | @set2 m h hm hh=>
  rcases hh with rfl | rfl
  ·have t:=zgN (k:=0) (l:=[m,0,1 - 0,0,0,0,0,0,0]) rfl
   simp only[zbj,zmc,List.map_nil,t.1,t.2,List.mem_cons,List.not_mem_nil,or_false] at hg
   rcases hg with rfl | rfl
   ·exact (ok_1 hm).found
   ·exact s1n
  ·have t:=zgN (k:=1) (l:=[m,1,1 - 1,0,0,0,0,0,0]) rfl
   simp only[zbj,zmc,List.map_nil,t.1,t.2,List.mem_cons,List.not_mem_nil,or_false] at hg
   rcases hg with rfl | rfl
   ·exact s0n
   ·exact (ok_0 hm).found
 | @part m h x b hm hh hx b1 b4=>
  have t:=zgN (k:=h) (l:=zah 6) (zal 6)
  simp only[zbj,zmc,List.map_nil,t.1,t.2,List.mem_cons,List.not_mem_nil,or_false] at hg
  have nl:=zeX (l:=[m,1,x,0,0,0,0,0,0]) (b:=b) rfl
  have n9:∀ l∈[zaB [m,1,x,0,0,0,0,0,0] b,greatest [m,1,x,0,0,0,0,0,0] b],l.length=9:=λl hl=>by
   simp only[List.mem_cons,List.not_mem_nil,or_false] at hl
   rcases hl with rfl | rfl
   ·exact nl.1
   ·exact nl.2.1
  have key:found (zah 6,[zah 0,zah 1]++[zaB [m,1,x,0,0,0,0,0,0] b,greatest [m,1,x,0,0,0,0,0,0] b]):=by
   rcases hx with rfl | rfl
   ·exact (zol hm b1 b4).found
   ·exact (zom hm b1 b4).found
  rcases hh with rfl | rfl
  ·rcases hg with rfl | rfl
   ·exact key
   ·exact s1 _ n9
  ·rcases hg with rfl | rfl
   ·exact s0 _ n9
   ·exact key
 | @draw h lo hi hh hl=>
  have t:=zgN (k:=h) (l:=zah 6) (zal 6)
  simp only[zbj,zmc,List.map_nil,t.1,t.2,List.mem_cons,List.not_mem_nil,or_false] at hg
  have n9:∀ l∈[zaQ lo,za4 hi],l.length=9:=λl hl=>by
   simp only[List.mem_cons,List.not_mem_nil,or_false] at hl
   rcases hl with rfl | rfl
   ·exact (zer (hi:=0)).1
   ·exact (zer (lo:=0)).2
  rcases hh with rfl | rfl
  ·rcases hg with rfl | rfl
   ·exact (zmV hl).found
   ·exact s1 _ n9
  ·rcases hg with rfl | rfl
   ·exact s0 _ n9
   ·exact (zmV hl).found
 | @hold m x hm hx=>
  simp only[zbj,zmc,List.map_nil,List.mem_cons,zma,List.not_mem_nil,or_false] at hg
  have n9:∀ l∈[[m,1,x,0,0,0,0,0,0]],l.length=9:=λl hl=>by rw[zms.mp hl];rfl
  rcases hg with rfl | rfl | rfl
  ·rcases hx with rfl | rfl
   ·exact (ok_0 hm).found
   ·exact (zj9 hm).found
  ·exact s0 _ n9
  ·exact s1 _ n9
 | @call0 m g0 g1 t0 t1 hk hg0 hg1 a0 a1=>
  have t:=zoo a0 a1
  have v:=give (g0:=g0) (g1:=g1)
  simp only[zbj,ho _ _ hk,zbM,if_true,zmc,List.map_nil,t.1,t.2.1,v.1,v.2.1,v.2.2.1,v.2.2.2.1,List.mem_cons,zma,List.not_mem_nil,or_false] at hg
  have n9:∀ l∈[zah 6,zah 7],l.length=9:=all9 (by decide)
  have a9:∀ l∈[zah 0,zah 1]++[zah 6,zah 7],l.length=9:=all9 (by decide)
  have s6:found (zah 6,[zah 0,zah 1]++[zah 6,zah 7]):=(zeq (i:=2) a9 rfl).found
  have s7:found (zah 7,[zah 0,zah 1]++[zah 6,zah 7]):=(zeq (i:=3) a9 rfl).found
  rcases hg with (rfl | rfl) | rfl | rfl
  ·rcases hg0 with rfl | rfl
   ·exact s0n
   ·exact s1n
  ·rcases hg1 with rfl | rfl
   ·exact s0n
   ·exact s1n
  ·split
   ·exact s7
   split
   ·exact s6
   ·exact s0 _ n9
  ·split
   ·exact s7
   split
   ·exact s6
   ·exact s1 _ n9
 | @call1 m g0 g1 t0 t1 hk hg0 h0 h1=>
  have t:=zoo (t0:=t0) (t1:=t1) (by omega) (by omega)
  have v:=give (g0:=g0) (g1:=g1)
  simp only[zbj,ho _ _ hk,zbM,show ((1:Int)=0)=False by simp,if_false,zmc,List.map_nil,t.1,t.2.1,v.1,v.2.2.1,v.2.2.2.2,List.mem_cons,zma,List.not_mem_nil,or_false] at hg
  have g9:(addW 1 (addW (-1) [0,0,0,0,0,0,0,0,0] (zah g0)) (zah 6)).length=9:=zbW (zbW rfl (zal _)) (zal _)
  have n9:∀ l∈[addW 1 (addW (-1) [0,0,0,0,0,0,0,0,0] (zah g0)) (zah 6),zah 6],l.length=9:=λl hl=>by
   simp only[List.mem_cons,List.not_mem_nil,or_false] at hl
   rcases hl with rfl | rfl
   ·exact g9
   ·exact zal 6
  have a9:∀ l∈[zah 0,zah 1]++[addW 1 (addW (-1) [0,0,0,0,0,0,0,0,0] (zah g0)) (zah 6),zah 6],l.length=9:=λl hl=>by
   rcases zma.mp hl with z | z
   ·exact nn9 l z
   ·exact n9 l z
  have s6:found (zah 6,[zah 0,zah 1]++[addW 1 (addW (-1) [0,0,0,0,0,0,0,0,0] (zah g0)) (zah 6),zah 6]):=(zeq (i:=3) a9 rfl).found
  rcases hg with rfl | rfl | rfl
  ·rcases hg0 with rfl | rfl
   ·exact s0n
   ·exact s1n
  ·rcases h1 with rfl | rfl <;> rcases h0 with rfl | rfl <;> first | exact s6 | exact s0 _ n9
  ·rcases h1 with rfl | rfl <;> rcases h0 with rfl | rfl <;> first | exact s6 | exact s1 _ n9
 | @turn l0 p h9 p0 pn=>
  simp only[zbj,hT _ p0 pn,zmc,List.map_nil,List.mem_cons,zma,List.not_mem_nil,or_false] at hg
  have n1:∀ l∈[l0],l.length=9:=λl hl=>by rw[zms.mp hl];exact h9
  have n2:∀ l∈[zff l0],l.length=9:=λl hl=>by rw[zms.mp hl];exact (zeX (b:=0) h9).2.2
  rcases hg with (rfl | rfl) | rfl | rfl
  ·exact s0 _ n1
  ·exact s1 _ n1
  ·exact s0 _ n2
  ·exact s1 _ n2
 | @set3 h l hh h9=>
  have t:=zgN (k:=h) h9
  simp only[zbj,zmc,List.map_nil,t.1,t.2,List.mem_cons,List.not_mem_nil,or_false] at hg
  rcases hh with rfl | rfl <;> (rcases hg with rfl | rfl;exact s0n;exact s1n)
 | @draw3 h lo hi hh=>
  have t:=zgN (k:=h) (l:=zah 6) (zal 6)
  simp only[zbj,zmc,List.map_nil,t.1,t.2,List.mem_cons,List.not_mem_nil,or_false] at hg
  have n9:∀ l∈[zaQ lo,za4 hi],l.length=9:=λl hl=>by
   simp only[List.mem_cons,List.not_mem_nil,or_false] at hl
   rcases hl with rfl | rfl
   ·exact (zer (hi:=0)).1
   ·exact (zer (lo:=0)).2
  rcases hh with rfl | rfl <;> (rcases hg with rfl | rfl;exact s0 _ n9;exact s1 _ n9)
inductive Second (kd:Int→Int→Prop) (n:Int):Dd→Prop
 | set0 {m:Int}(hm:0≤m):Second kd n (.set 0 [m,1,0,0,0,0,0,0,0])
 | part {m:Int}(hm:0≤m):Second kd n (.part 0 [m,1,0,0,0,0,0,0,0] 1)
 | hold {m x:Int}(hm:0≤m) (hx:x=0∨x=1):Second kd n (.hold [m,1,0,0,0,-x,0,0,0])
 | set1 {h:Int}{l:List Int}(hh:h=1∨h=2∨h=3) (h9:l.length=9):Second kd n (.set h l)
 | call0 {m t0:Int}(hk:kd m 0) (h0:t0=2∨t0=3):Second kd n (.call m 0 0 t0 1)
 | call1 {m g1 t0 t1:Int}(hk:kd m 1) (h0:t0=0∨t0=1) (h1:t1=2∨t1=3):Second kd n (.call m 0 g1 t0 t1)
 | turn {l:List Int}{p:Int}(h9:l.length=9) (p0:0≤p) (pn:p≤n):Second kd n (.turn l p)
 | draw3 {h lo hi:Int}(hh:h=2∨h=3):Second kd n (.draw h lo hi)
theorem ne9:∀ l∈[e1,zah 4],l.length=9:=all9 (by decide)
theorem zjl {kd:Int→Int→Prop}{n:Int}{d:Dd}{A:List (List Int)}{T:Int→List (List Int)}{oath:Oath}(hA:∀ x∈A,x=e1∨x=zah 4∨x=zah 0) (hT:∀ p,0≤p→p≤n→∀ x∈T p,x=e1∨x=zah 4∨x=zah 0) (ho:∀ m k,kd m k→oath m=zbM k) (h:Second kd n d):∀ g∈zbj [e1,zah 4] A T oath d,found g:=by
 have se:∀ ls:List (List Int),(∀ l∈ls,l.length=9)→found (e1,[e1,zah 4]++ls):=λls h9=>((zeq (i:=0) ne9 rfl).mores rfl ne9 ls h9).found
 have s4:∀ ls:List (List Int),(∀ l∈ls,l.length=9)→found (zah 4,[e1,zah 4]++ls):=λls h9=>((zeq (i:=1) ne9 rfl).mores (zal _) ne9 ls h9).found
 have s0:∀ ls:List (List Int),(∀ l∈ls,l.length=9)→found (zah 0,[e1,zah 4]++ls):=λls h9=>(ok_b0.mores (zal _) ne9 ls h9).found
 have any:∀ x,(x=e1∨x=zah 4∨x=zah 0)→∀ ls:List (List Int),(∀ l∈ls,l.length=9)→found (x,[e1,zah 4]++ls):=λx hx ls h9=>by
  rcases hx with rfl | rfl | rfl
  ·exact se ls h9
  ·exact s4 ls h9
  ·exact s0 ls h9
 have anyn:∀ x,(x=e1∨x=zah 4∨x=zah 0)→found (x,[e1,zah 4]):=λx hx=>by simpa using any x hx [] (by simp)
 have keep:addW (-1) (zah 0) (zah 4)=e1:=by decide
 intro g hg
 cases h with
 | @set0 m hm=>
  have t:=zgN (k:=0) (l:=[m,1,0,0,0,0,0,0,0]) rfl
  have u:=zon (k:=0) (l:=[m,1,0,0,0,0,0,0,0]) rfl (by decide)
  obtain⟨x,hx,rfl⟩:=zmm.mp hg
  rcases hA x hx with rfl | rfl | rfl
  ·rw[u.2]
   have e:addW (-1) (if (0:Int)=0 then [m,1,0,0,0,0,0,0,0] else zah 0) (zah 4)=[m,1,0,0,0,-1,0,0,0]:=by simp[addW,b4e]
   rw[e];exact (ok_e hm).found
  ·rw[u.1];exact anyn _ (.inr (.inl rfl))
  ·rw[t.1];exact (ok_h hm).found
 | @part m hm=>
  have t:=zgN (k:=0) (l:=zah 6) (zal 6)
  have u:=zon (k:=0) (l:=zah 6) (zal 6) (by decide)
  have nl:=zeX (l:=[m,1,0,0,0,0,0,0,0]) (b:=1) rfl
  have n9:∀ l∈[zaB [m,1,0,0,0,0,0,0,0] 1,greatest [m,1,0,0,0,0,0,0,0] 1],l.length=9:=λl hl=>by
   simp only[List.mem_cons,List.not_mem_nil,or_false] at hl
   rcases hl with rfl | rfl
   ·exact nl.1
   ·exact nl.2.1
  obtain⟨x,hx,rfl⟩:=zmm.mp hg
  rcases hA x hx with rfl | rfl | rfl
  ·rw[u.2]
   have e:addW (-1) (if (0:Int)=0 then zah 6 else zah 0) (zah 4)=[0,0,0,0,0,-1,0,1,0]:=by decide
   rw[e];exact (ok_pe hm).found
  ·rw[u.1];exact s4 _ n9
  ·rw[t.1];exact (ok_p6 hm).found
 | @hold m x hm hx=>
  have n9:∀ l∈[[m,1,0,0,0,-x,0,0,0]],l.length=9:=λl hl=>by rw[zms.mp hl];rfl
  rcases zma.mp hg with z | z
  ·rw[zms.mp z]
   rcases hx with rfl | rfl
   ·exact (ok_h hm).found
   ·exact (ok_e hm).found
  ·obtain⟨y,hy,rfl⟩:=zmm.mp z
   exact any y (hA y hy) _ n9
 | @set1 h l hh h9=>
  have t:=zgN (k:=h) h9
  have u:=zon (k:=h) h9 (by omega)
  obtain⟨x,hx,rfl⟩:=zmm.mp hg
  rcases hA x hx with rfl | rfl | rfl
  ·rw[u.2,if_neg (by omega),keep];exact anyn _ (.inl rfl)
  ·rw[u.1];exact anyn _ (.inr (.inl rfl))
  ·rw[t.1,if_neg (by omega)];exact anyn _ (.inr (.inr rfl))
 | @call0 m t0 hk h0=>
  have t:=zoo (t0:=t0) (t1:=1) (by omega) (by decide)
  have v:=give (g0:=0) (g1:=0)
  have n9:∀ l∈[zah 6,zah 7],l.length=9:=all9 (by decide)
  simp only[zbj,ho _ _ hk,zbM,if_true,zmc,List.map_nil,v.1,v.2.1,v.2.2.1,v.2.2.2.1] at hg
  rcases zma.mp hg with z | z
  ·simp only[List.mem_cons,List.not_mem_nil,or_false] at z
   rcases z with rfl | rfl <;> exact anyn _ (.inr (.inr rfl))
  ·obtain⟨x,hx,rfl⟩:=zmm.mp z
   rcases hA x hx with rfl | rfl | rfl
   ·rw[t.2.2.2,if_neg (by decide),if_neg (by omega),keep];exact se _ n9
   ·rw[t.2.2.1];exact s4 _ n9
   ·rw[t.1,if_neg (by decide),if_neg (by omega)];exact s0 _ n9
 | @call1 m g1 t0 t1 hk h0 h1=>
  have t:=zoo (t0:=t0) (t1:=t1) (by omega) (by omega)
  have v:=give (g0:=0) (g1:=g1)
  have e6:addW 1 (addW (-1) [0,0,0,0,0,0,0,0,0] (zah 0)) (zah 6)=[0,-1,0,0,0,0,0,1,0]:=by decide
  have n9:∀ l∈[[0,-1,0,0,0,0,0,1,0],zah 6],l.length=9:=all9 (by decide)
  have a9:∀ l∈[e1,zah 4]++[[0,-1,0,0,0,0,0,1,0],zah 6],l.length=9:=all9 (by decide)
  simp only[zbj,ho _ _ hk,zbM,show ((1:Int)=0)=False by simp,if_false,zmc,List.map_nil,v.1,v.2.2.1,v.2.2.2.2,e6] at hg
  rcases zma.mp hg with z | z
  ·simp only[List.mem_cons,List.not_mem_nil,or_false] at z
   rw[z];exact anyn _ (.inr (.inr rfl))
  ·obtain⟨x,hx,rfl⟩:=zmm.mp z
   rcases hA x hx with rfl | rfl | rfl
   ·rw[t.2.2.2,if_neg (by omega)]
    rcases h0 with rfl | rfl
    ·have e:addW (-1) (if (0:Int)=0 then zah 6 else zah 0) (zah 4)=[0,0,0,0,0,-1,0,1,0]:=by decide
     rw[e];exact ok_ce.found
    ·rw[if_neg (by decide),keep];exact se _ n9
   ·rw[t.2.2.1];exact s4 _ n9
   ·rw[t.1,if_neg (by omega)]
    rcases h0 with rfl | rfl
    ·exact (zeq (i:=3) a9 rfl).found
    ·rw[if_neg (by decide)];exact s0 _ n9
 | @turn l p h9 p0 pn=>
  have n1:∀ x∈[l],x.length=9:=λx hl=>by rw[zms.mp hl];exact h9
  have n2:∀ x∈[zff l],x.length=9:=λx hl=>by rw[zms.mp hl];exact (zeX (b:=0) h9).2.2
  rcases zma.mp hg with z | z
  ·obtain⟨x,hx,rfl⟩:=zmm.mp z
   exact any x (hT p p0 pn x hx) _ n1
  ·obtain⟨x,hx,rfl⟩:=zmm.mp z
   exact any x (hA x hx) _ n2
 | @draw3 h lo hi hh=>
  have t:=zgN (k:=h) (l:=zah 6) (zal 6)
  have u:=zon (k:=h) (l:=zah 6) (zal 6) (by omega)
  have n9:∀ l∈[zaQ lo,za4 hi],l.length=9:=λl hl=>by
   simp only[List.mem_cons,List.not_mem_nil,or_false] at hl
   rcases hl with rfl | rfl
   ·exact (zer (hi:=0)).1
   ·exact (zer (lo:=0)).2
  obtain⟨x,hx,rfl⟩:=zmm.mp hg
  rcases hA x hx with rfl | rfl | rfl
  ·rw[u.2,if_neg (by omega),keep];exact se _ n9
  ·rw[u.1];exact s4 _ n9
  ·rw[t.1,if_neg (by omega)];exact s0 _ n9
def zbg (c:Int):Int:=if c / 8 % 3=0 then 0 else if c / 8 % 3=1 then 1 else c / 48 % 1000000001
def zid (c:Int):List Int:=((List.range 7).map λ(k:Nat)=>number c (5 * (0+(k:Int))))++[0,0]
def zdS (c count:Int):Dd:=
 if c % 3=0 then .turn (zid (c / 7)) (mix c 30 (count+1))
 else if c % 3=1 then .set (2+c / 3 % 2) (zid (c / 7))
 else .draw (2+c / 3 % 2) (number (c / 5) 31) (if number (c / 7) 32>number (c / 5) 31 then number (c / 7) 32 else number (c / 5) 31)
def atN (c:Int) (numbers:List Int):Nat:=(c / 48 % (numbers.length:Int)).toNat
def zeb (c count:Int) (numbers kinds:List Int):Dd:=
 if c % 8=0 then .set (c / 24 % 2) [zbg c,1,1,0,0,0,0,0,0]
 else if c % 8=1 then .set (c / 24 % 2) [zbg c,c / 24 % 2,1 - c / 24 % 2,0,0,0,0,0,0]
 else if c % 8=2 then .part (c / 24 % 2) [zbg c,1,c / 48 % 2,0,0,0,0,0,0] (1+c / 96 % 4)
 else if c % 8=3 then .draw (c / 24 % 2) (c / 48 % 3) (if zbg c>2 then zbg c else 2)
 else if c % 8=4 then .hold [zbg c,1,c / 24 % 2,0,0,0,0,0,0]
 else if c % 8=5 then (if kinds.getD (atN c numbers) 0=0 then .call (numbers.getD (atN c numbers) 0) (c / 24 % 2) (c / 96 % 2) (c / 192 % 4) ((c / 192 % 4+1+c / 768 % 3) % 4) else .call (numbers.getD (atN c numbers) 0) (c / 24 % 2) (c / 96 % 4) (c / 384 % 2) (2+c / 768 % 2))
 else zdS (c / 8) count
def zc3 (c count:Int) (numbers kinds:List Int):Dd:=
 if c % 8=0∨c % 8=1 then .set 0 [zbg c,1,0,0,0,0,0,0,0]
 else if c % 8=2 then .part 0 [zbg c,1,0,0,0,0,0,0,0] 1
 else if c % 8=3 then .hold [zbg c,1,0,0,0,-(c / 24 % 2),0,0,0]
 else if c % 8=4 then .set 1 (zid (c / 24))
 else if c % 8=5 then (if kinds.getD (atN c numbers) 0=0 then .call (numbers.getD (atN c numbers) 0) 0 0 (2+c / 96 % 2) 1 else .call (numbers.getD (atN c numbers) 0) 0 (c / 96 % 4) (c / 384 % 2) (2+c / 768 % 2))
 else zdS (c / 8) count
theorem zd3 (c:Int):0≤zbg c∧zbg c≤1000000000:=by
 unfold zbg
 split
 ·omega
 split <;> omega
theorem zdx (c:Int):(zid c).length=9:=by simp[zid]
def zk4 (numbers kinds:List Int) (m k:Int):Prop:=∃ i:Nat,numbers[i]?=some m∧kinds[i]?=some k
theorem zmX {numbers kinds:List Int}{c:Int}(h:numbers.length=kinds.length) (h1:0<numbers.length):zk4 numbers kinds (numbers.getD (atN c numbers) 0) (kinds.getD (atN c numbers) 0):=by
 have a1:=Int.emod_nonneg (c / 48) (show (numbers.length:Int)≠0 by omega)
 have a2:=Int.emod_lt_of_pos (c / 48) (show 0<(numbers.length:Int) by omega)
 have hl:atN c numbers<numbers.length:=by unfold atN;omega
 refine⟨atN c numbers,?_,?_⟩
 ·rw[List.getD_eq_getElem?_getD,List.getElem?_eq_getElem hl];rfl
 ·rw[List.getD_eq_getElem?_getD,List.getElem?_eq_getElem (by omega)];rfl
theorem zkb {kd:Int→Int→Prop}{c n:Int}(hn:0≤n):First kd n (zdS c n):=by
 have m1:=zb0 (c:=c) (k:=30) (m:=n+1) (by omega)
 have m2:=zfd (c:=c) (k:=30) (m:=n+1) (by omega)
 unfold zdS
 split
 ·exact .turn (zdx _) m1 (by omega)
 split
 ·exact .set3 (by omega) (zdx _)
 ·exact .draw3 (by omega)
theorem zjm {kd:Int→Int→Prop}{c n:Int}(hn:0≤n):Second kd n (zdS c n):=by
 have m1:=zb0 (c:=c) (k:=30) (m:=n+1) (by omega)
 have m2:=zfd (c:=c) (k:=30) (m:=n+1) (by omega)
 unfold zdS
 split
 ·exact .turn (zdx _) m1 (by omega)
 split
 ·exact .set1 (by omega) (zdx _)
 ·exact .draw3 (by omega)
theorem zop {numbers kinds:List Int}{c n:Int}(hn:0≤n) (h:numbers.length=kinds.length) (h1:0<numbers.length) (hk:∀ k∈kinds,k=0∨k=1):First (zk4 numbers kinds) n (zeb c n numbers kinds):=by
 have m:=(zd3 c).1
 have ka:=zmX (c:=c) h h1
 unfold zeb
 split
 ·exact .set1 m (by omega)
 split
 ·exact .set2 m (by omega)
 split
 ·exact .part m (by omega) (by omega) (by omega) (by omega)
 split
 ·exact .draw (by omega) (by omega)
 split
 ·exact .hold m (by omega)
 split
 ·split
  ·rename_i z
   rw[z] at ka
   exact .call0 ka (by omega) (by omega) (by omega) (by omega)
  ·rename_i z
   obtain⟨i,e1,e2⟩:=id ka
   have:=hk _ (zmg e2)
   rw[show kinds.getD (atN c numbers) 0=1 by omega] at ka
   exact .call1 ka (by omega) (by omega) (by omega)
 ·exact zkb hn
theorem zmY {numbers kinds:List Int}{c n:Int}(hn:0≤n) (h:numbers.length=kinds.length) (h1:0<numbers.length) (hk:∀ k∈kinds,k=0∨k=1):Second (zk4 numbers kinds) n (zc3 c n numbers kinds):=by
 have m:=(zd3 c).1
 have ka:=zmX (c:=c) h h1
 unfold zc3
 split
 ·exact .set0 m
 split
 ·exact .part m
 split
 ·exact .hold m (by omega)
 split
 ·exact .set1 (.inl rfl) (zdx _)
 split
 ·split
  ·rename_i z
   rw[z] at ka
   exact .call0 ka (by omega)
  ·rename_i z
   obtain⟨i,e1,e2⟩:=id ka
   have:=hk _ (zmg e2)
   rw[show kinds.getD (atN c numbers) 0=1 by omega] at ka
   exact .call1 ka (by omega) (by omega)
 ·exact zjm hn
section
variable {H H1:Hp}{la t g u:Addr}{l:List Int}
theorem zgO {h:Int}(l0:H la=none) (l1:H1 la=some (.lst (l.map V.int))) (ht:H1 t=none):New H (upd H1 t (.tup [.str "set",.int h,.ref la])) (toD (.set h l)) (.ref t):=
 New.tup (fp:=[la]) (zak.cstr (zak.cint (zak.cany (f:=[la]) (RepF.line (zaf ht _ _ _ l1)) zak.nil))) (by simp) (λb m=>by rw[zms.mp m];exact l0) zad
theorem zk5 {h b:Int}(l0:H la=none) (l1:H1 la=some (.lst (l.map V.int))) (ht:H1 t=none):New H (upd H1 t (.tup [.str "part",.int h,.ref la,.int b])) (toD (.part h l b)) (.ref t):=
 New.tup (fp:=[la]) (zak.cstr (zak.cint (zak.cany (f:=[la]) (RepF.line (zaf ht _ _ _ l1)) (zak.cint zak.nil)))) (by simp) (λb m=>by rw[zms.mp m];exact l0) zad
theorem zk6 {h lo hi:Int}(ht:H1 t=none):New H (upd H1 t (.tup [.str "draw",.int h,.int lo,.int hi])) (toD (.draw h lo hi)) (.ref t):=
 New.tup (fp:=[]) (zak.cstr (zak.cint (zak.cint (zak.cint zak.nil)))) (by simp) (λb m=>by cases m) zad
theorem zoq {p:Int}(l0:H la=none) (l1:H1 la=some (.lst (l.map V.int))) (ht:H1 t=none):New H (upd H1 t (.tup [.str "turn",.ref la,.int p])) (toD (.turn l p)) (.ref t):=
 New.tup (fp:=[la]) (zak.cstr (zak.cany (f:=[la]) (RepF.line (zaf ht _ _ _ l1)) (zak.cint zak.nil))) (by simp) (λb m=>by rw[zms.mp m];exact l0) zad
theorem zk7 (l0:H la=none) (l1:H1 la=some (.lst (l.map V.int))) (ht:H1 t=none):New H (upd H1 t (.tup [.str "hold",.ref la])) (toD (.hold l)) (.ref t):=
 New.tup (fp:=[la]) (zak.cstr (zak.cany (f:=[la]) (RepF.line (zaf ht _ _ _ l1)) zak.nil)) (by simp) (λb m=>by rw[zms.mp m];exact l0) zad
theorem zgg {m g0 g1 t0 t1:Int}(hg:H1 g=some (.tup [.int g0,.int g1])) (hu:H1 u=some (.tup [.int t0,.int t1])) (ht:H1 t=none):New H (upd H1 t (.tup [.str "call",.int m,.ref g,.ref u])) (toD (.call m g0 g1 t0 t1)) (.ref t):=
 New.tup (fp:=[]) (zak.cstr (zak.cint (zak.cany (f:=[]) (RepF.pair (zaf ht _ _ _ hg)) (zak.cany (f:=[]) (RepF.pair (zaf ht _ _ _ hu)) zak.nil)))) (by simp) (λb m=>by cases m) zad
end
theorem zgP {H H1 H2:Hp}{p:Addr}{va vb:V}{la lb:List Int}(s1:Same H H1) (n1:New H H1 (nums la) va) (s2:Same H1 H2) (n2:New H1 H2 (nums lb) vb) (hp:H2 p=none):New H (upd H2 p (.lst [va,vb])) (zaF [la,lb]) (.ref p):=
 ((News.nil.snoc (H1:=H) (Same.refl H) s1 n1).snoc s1 s2 n2).lst (s1.trans s2) hp
theorem zpW {H H1:Hp}{p:Addr}{va:V}{la:List Int}(s1:Same H H1) (n1:New H H1 (nums la) va) (hp:H1 p=none):New H (upd H1 p (.lst [va])) (zaF [la]) (.ref p):=
 (News.nil.snoc (H1:=H) (Same.refl H) s1 n1).lst s1 hp
theorem zak.out4 {H:Hp}{d1 d2 d3 d4:D}{v1 v2 v3 v4:V}{fp:List Addr}(h:zak H [d1,d2,d3,d4] [v1,v2,v3,v4] fp):∃ f1 f2 f3 f4,fp=f1++(f2++(f3++f4))∧RepF H d1 v1 f1∧RepF H d2 v2 f2∧RepF H d3 v3 f3∧RepF H d4 v4 f4:=by
 unfold zak at h
 obtain⟨_,_,f1,g1,e,rfl,h1,h⟩:=h
 cases e
 unfold zak at h
 obtain⟨_,_,f2,g2,e,rfl,h2,h⟩:=h
 cases e
 unfold zak at h
 obtain⟨_,_,f3,g3,e,rfl,h3,h⟩:=h
 cases e
 unfold zak at h
 obtain⟨_,_,f4,g4,e,rfl,h4,h⟩:=h
 cases e
 unfold zak at h
 obtain⟨_,rfl⟩:=h
 exact⟨f1,f2,f3,f4,by simp,h1,h2,h3,h4⟩
theorem zak.in4 {H:Hp}{d1 d2 d3 d4:D}{v1 v2 v3 v4:V}{f1 f2 f3 f4:List Addr}(h1:RepF H d1 v1 f1) (h2:RepF H d2 v2 f2) (h3:RepF H d3 v3 f3) (h4:RepF H d4 v4 f4):zak H [d1,d2,d3,d4] [v1,v2,v3,v4] (f1++(f2++(f3++f4))):=by
 have:=zak.cany h1 (zak.cany h2 (zak.cany h3 (zak.cany h4 (zak.nil (H:=H)))))
 simpa using this
theorem News.perm4 {H H':Hp}{d1 d2 d3 d4:D}{v1 v2 v3 v4:V}(h:News H H' [d3,d1,d4,d2] [v3,v1,v4,v2]):News H H' [d1,d2,d3,d4] [v1,v2,v3,v4]:=by
 obtain⟨fp,h1,h2,h3⟩:=h
 obtain⟨f3,f1,f4,f2,rfl,k3,k1,k4,k2⟩:=zak.out4 h1
 have pm:(f1++(f2++(f3++f4))).Perm (f3++(f1++(f4++f2))):=List.perm_iff_count.mpr λa=>by
  simp only[List.count_append];omega
 exact⟨_,zak.in4 k1 k2 k3 k4,pm.nodup_iff.mpr h2,λa ha=>h3 a (pm.mem_iff.mp ha)⟩
theorem News.perm4' {H H':Hp}{d1 d2 d3 d4:D}{v1 v2 v3 v4:V}(h:News H H' [d3,d4,d1,d2] [v3,v4,v1,v2]):News H H' [d1,d2,d3,d4] [v1,v2,v3,v4]:=by
 obtain⟨fp,h1,h2,h3⟩:=h
 obtain⟨f3,f4,f1,f2,rfl,k3,k4,k1,k2⟩:=zak.out4 h1
 have pm:(f1++(f2++(f3++f4))).Perm (f3++(f4++(f1++f2))):=List.perm_iff_count.mpr λa=>by
  simp only[List.count_append];omega
 exact⟨_,zak.in4 k1 k2 k3 k4,pm.nodup_iff.mpr h2,λa ha=>h3 a (pm.mem_iff.mp ha)⟩
def zeM (k:Int):List (List Int):=if k=0 then [zah 0,zah 1] else [e1,zah 4]
def zie (k c count:Int) (numbers kinds:List Int):Dd:=if k=0 then zeb c count numbers kinds else zc3 c count numbers kinds
def crK (k:Int) (cells numbers kinds:List Int):Cr:=⟨(zbM k).1,(zbM k).2,cells.map λc=>zie k c cells.length numbers kinds,cells.map λ_=>zeM k⟩
def crD (c:Cr):D:=.lst [zaF c.needs,zaF c.leaves,.lst (c.deeds.map toD),.lst (c.notes.map zaF)]
theorem zif:∀ {l m:List Int},l.Nodup→(∀ x∈l,x∈m)→l.length≤m.length
 | [],m,_,_=>Nat.zero_le _
 | x::l,m,nd,h=>by
  obtain⟨n1,n2⟩:=List.nodup_cons.mp nd
  have hx:=h x List.mem_cons_self
  have ih:=zif (l:=l) (m:=m.erase x) n2 λy hy=>(List.mem_erase_of_ne (λz=>n1 (by rw[←z];exact hy))).mpr (h y (List.mem_cons_of_mem _ hy))
  rw[List.length_erase_of_mem hx] at ih
  have:0<m.length:=List.length_pos_of_mem hx
  rw[List.length_cons]
  omega
def zdy (s:Int) (j:Nat):List Int:=(List.range j).map λ(i:Nat)=>(s+(i:Int)) % 100
theorem zkc {s:Int}{j:Nat}(h:j≤100):(zdy s j).Nodup:=by
 unfold zdy List.Nodup
 rw[List.pairwise_map]
 refine List.Pairwise.imp_of_mem (λ{a b} ha hb hab=>?_) List.pairwise_lt_range
 have:=List.mem_range.mp hb
 omega
theorem zmZ {s:Int}{j:Nat}{numbers:List Int}(h:j≤100) (hm:∀ x∈zdy s j,x∈numbers):j≤numbers.length:=by
 have:=zif (zkc h) hm
 simpa [zdy] using this
end My

namespace My
open PySem L2 PyProof.Rows
def flds (v1 v2 v3 v4:V):List (Str × V):=putF "notes" v4 (putF "deeds" v3 (putF "leaves" v2 (putF "needs" v1 [])))
theorem zdz (v1 v2 v3 v4:V):(flds v1 v2 v3 v4).lookup ("needs" : Str)=some v1:=by
 unfold flds
 rw[zaT,if_neg (by decide +kernel),zaT,if_neg (by decide +kernel),zaT,if_neg (by decide +kernel),zaT,if_pos rfl]
theorem zcV (v1 v2 v3 v4:V):(flds v1 v2 v3 v4).lookup ("leaves" : Str)=some v2:=by
 unfold flds
 rw[zaT,if_neg (by decide +kernel),zaT,if_neg (by decide +kernel),zaT,if_pos rfl]
theorem zcN (v1 v2 v3 v4:V):(flds v1 v2 v3 v4).lookup ("deeds" : Str)=some v3:=by
 unfold flds
 rw[zaT,if_neg (by decide +kernel),zaT,if_pos rfl]
theorem zd4 (v1 v2 v3 v4:V):(flds v1 v2 v3 v4).lookup ("notes" : Str)=some v4:=by
 unfold flds
 rw[zaT,if_pos rfl]
theorem zd5 {f:Str}{v:V}{fs:List (Str × V)}{n:Nat}(h:fs.length<n):(putF f v fs).length<n+1:=Nat.lt_of_le_of_lt (zeR f v fs) (by omega)
def zm0 (needs leaves:List (List Int)) (deeds:List D) (notes:List (List (List Int))):List D:=[zaF needs,zaF leaves,.lst deeds,.lst (notes.map zaF)]
def zbF (K:Fg) (cC:Addr) (H:Hp) (p:Addr) (needs leaves:List (List Int)) (deeds:List D) (notes:List (List (List Int))):Prop:=
 ∃ dx w1 w2 w3 w4,H p=some (.ins cC dx (flds w1 w2 w3 w4))∧Rep K H (zaF needs) w1∧Rep K H (zaF leaves) w2∧Rep K H (.lst deeds) w3∧Rep K H (.lst (notes.map zaF)) w4
theorem reps4 {K:Fg}{H:Hp}{d1 d2 d3 d4:D}{w1 w2 w3 w4:V}(h:Reps K H [d1,d2,d3,d4] [w1,w2,w3,w4]):Rep K H d1 w1∧Rep K H d2 w2∧Rep K H d3 w3∧Rep K H d4 w4:=by
 unfold Reps at h
 obtain⟨_,_,e,h1,h⟩:=h
 cases e
 unfold Reps at h
 obtain⟨_,_,e,h2,h⟩:=h
 cases e
 unfold Reps at h
 obtain⟨_,_,e,h3,h⟩:=h
 cases e
 unfold Reps at h
 obtain⟨_,_,e,h4,h⟩:=h
 cases e
 exact⟨h1,h2,h3,h4⟩
theorem zbF.same {K:Fg}{cC:Addr}{H H':Hp}{p:Addr}{needs leaves:List (List Int)}{deeds:List D}{notes:List (List (List Int))}(e:Same H H') (h:zbF K cC H p needs leaves deeds notes):zbF K cC H' p needs leaves deeds notes:=by
 obtain⟨dx,w1,w2,w3,w4,h0,h1,h2,h3,h4⟩:=h
 exact⟨dx,w1,w2,w3,w4,e _ _ h0,Rep.same e _ h1,Rep.same e _ h2,Rep.same e _ h3,Rep.same e _ h4⟩
def zes (K:Fg) (cC:Addr) (H:Hp) (p:Addr) (needs leaves:List (List Int)) (deeds:List Dd) (notes:List (List (List Int))):Prop:=
 zbF K cC H p needs leaves (deeds.map toD) notes∧∃ dx w1 w2 b3 w4 dvs,H p=some (.ins cC dx (flds w1 w2 (.ref b3) w4))∧H b3=some (.lst dvs)∧zeT H deeds dvs
theorem zes.same {K:Fg}{cC:Addr}{H H':Hp}{p:Addr}{needs leaves:List (List Int)}{deeds:List Dd}{notes:List (List (List Int))}(e:Same H H') (h:zes K cC H p needs leaves deeds notes):zes K cC H' p needs leaves deeds notes:=by
 obtain⟨h0,dx,w1,w2,b3,w4,dvs,h1,h2,h3⟩:=h
 exact⟨h0.same e,dx,w1,w2,b3,w4,dvs,e _ _ h1,e _ _ h2,h3.same e⟩
def calls (K:Fg) (cC:Addr) (H:Hp) (kvs:List (Key × V)) (oath:Oath):Dd→Prop
 | .call m _ _ _ _=>∃ o deeds ns,valV kvs (.inl m)=some (.ref o)∧zbF K cC H o (oath m).1 (oath m).2 deeds ns∧Good (oath m).1 (oath m).2 deeds.length ns
 | _=>True
theorem calls.same {K:Fg}{cC:Addr}{H H':Hp}{kvs:List (Key × V)}{oath:Oath}{d:Dd}(h:calls K cC H kvs oath d) (e:Same H H'):calls K cC H' kvs oath d:=by
 cases d with
 | call m g0 g1 t0 t1=>
  obtain⟨o,ds,ns,h1,h2,h3⟩:=h
  exact⟨o,ds,ns,h1,h2.same e,h3⟩
 | _=>trivial
theorem zbF.nod {K:Fg}{cC:Addr}{H H':Hp}{p:Addr}{needs leaves:List (List Int)}{deeds:List D}{notes:List (List (List Int))}(e:NoD H H') (h:zbF K cC H p needs leaves deeds notes):zbF K cC H' p needs leaves deeds notes:=by
 obtain⟨dx,w1,w2,w3,w4,h0,h1,h2,h3,h4⟩:=h
 exact⟨dx,w1,w2,w3,w4,e _ _ h0 (λ_ z=>by cases z),Rep.sq e.sq _ h1,Rep.sq e.sq _ h2,Rep.sq e.sq _ h3,Rep.sq e.sq _ h4⟩
end My

namespace My
open PySem L2 PyProof.Rows
def zor (ls:List (List Int)) (ws:List Int):Prop:=∀ (i:Nat) (l:List Int) (w:Int),ls[i]?=some l→ws[i]?=some w→∀ n∈l,CMul n w
theorem zbs {n:Nat}(h:n≤1000):n<sizeLine:=Nat.lt_of_le_of_lt h (by decide)
structure Cr.Nine (c:Cr):Prop where
 n9:∀ l∈c.needs,l.length=9
 l9:∀ l∈c.leaves,l.length=9
 d9:∀ d∈c.deeds,zeH d
 o9:∀ ls∈c.notes,ls.length≤100∧∀ l∈ls,l.length=9
 n:c.needs.length≤100
 l:c.leaves.length≤100
 d:c.deeds.length≤100
 o:c.notes.length≤100
def Cr.right (c:Cr):Bool:=zc4 c.needs c.leaves c.deeds c.notes
structure Cr.Rt (c:Cr):Prop where
 nine:c.Nine
 r:c.right=true
theorem Cr.Rt.parts {c:Cr}(h:c.Rt):c.needs.length≤2∧c.leaves.length≤2∧(1≤c.deeds.length∧c.deeds.length≤8)∧c.notes.length=c.deeds.length∧(∀ ls∈c.notes,ls.length≤2)∧∀ d∈c.deeds,zbb (c.deeds.length:Int) d=true:=by
 have r:zc4 c.needs c.leaves c.deeds c.notes=true:=h.r
 simp only[zc4,zgI,zfA,zfB,zdG,btw,Bool.and_eq_true,decide_eq_true_eq,List.all_map,List.all_eq_true,Function.comp_apply,id_eq] at r
 obtain⟨⟨⟨a1,_⟩,a2,_⟩,⟨⟨b1,b2⟩,b3⟩,c1,c2⟩:=r
 exact⟨by omega,by omega,⟨by omega,by omega⟩,by omega,λls hl=>by have:=(c2 ls hl).1;omega,b3⟩
theorem sm_of {spots:List Nat}{l:List Int}(h:zct spots l=true):Sm l:=λn hn=>by
 simp only[zct,zdP,btw,Bool.and_eq_true,decide_eq_true_eq,List.all_map,List.all_eq_true,Function.comp_apply,id_eq] at h
 have:=h.1 n hn
 constructor <;> omega
theorem zrx {n:Nat}{d:Dd}(h9:zeH d) (h:zbb (n:Int) d=true):dOk n d:=by
 cases d with
 | set hd l=>
  simp only[zbb,Bool.and_eq_true] at h
  exact⟨h9,sm_of h.2⟩
 | part hd l b=>
  simp only[zbb,btw,Bool.and_eq_true,decide_eq_true_eq] at h
  exact⟨h9,by omega,by omega⟩
 | draw hd lo hi=>trivial
 | turn l p=>
  simp only[zbb,btw,Bool.and_eq_true,decide_eq_true_eq] at h
  exact⟨h9,h.2.1,h.2.2⟩
 | hold l=>exact h9
 | call m g0 g1 t0 t1=>trivial
theorem Cr.Rt.dok {c:Cr}(h:c.Rt):∀ d∈c.deeds,dOk c.deeds.length d:=λd hd=>zrx (h.nine.d9 d hd) (h.parts.2.2.2.2.2 d hd)
theorem Cr.Rt.called {c:Cr}(h:c.Rt) {m:Int}(hm:m∈zaD c.deeds):0≤m∧m≤99:=by
 obtain⟨d,hd,e⟩:=zhM hm
 have k:=h.parts.2.2.2.2.2 d hd
 cases d with
 | call n g0 g1 t0 t1=>
  have e:n=m:=by injection e
  subst e
  simp only[zbb,btw,Bool.and_eq_true,decide_eq_true_eq] at k
  exact k.2.1
 | _=>cases e
theorem Cr.Rt.calledMost {c:Cr}(h:c.Rt):∀ m∈zaD c.deeds,m.natAbs<zbE:=λm hm=>by
 have:=h.called hm
 unfold zbE;omega
theorem Cr.Rt.good {c:Cr}(h:c.Rt):Good c.needs c.leaves c.deeds.length c.notes where
 dn:=h.parts.2.2.2.1.symm
 d:=h.nine.d
 n:=h.nine.n
 l:=h.nine.l
 n9:=h.nine.n9
 l9:=h.nine.l9
 o:=h.nine.o9
def zeN (cr:Int→Cr):Oath:=λm=>((cr m).needs,(cr m).leaves)
def Cr.gs (c:Cr) (cr:Int→Cr):List Du:=zeV c.needs c.leaves c.deeds c.notes (zeN cr)
def zfj (g:Du):Prop:=g.1.length=9∧g.2.length≤4∧∀ l∈g.2,l.length=9
theorem zeY {l:List Int}{E:List (List Int)}(h:∀ x∈E,x.length=9):(zaw l E).length=9:=by
 unfold zaw
 have:=za2 (ls:=E) (ws:=l.tail) h
 cases e:zaJ E l.tail with
 | nil=>rw[e] at this;simp at this
 | cons x r=>rw[e] at this;simpa [zgH] using this
theorem zkd {N A:List (List Int)}{T:Int→List (List Int)}{oath:Oath}{d:Dd}{n:Nat}(hN:N.length≤2∧∀ l∈N,l.length=9) (hA:A.length≤2∧∀ l∈A,l.length=9) (hT:∀ p,(T p).length≤2∧∀ l∈T p,l.length=9) (ok:dOk n d) (ho:∀ m,zbo d=some m→(oath m).1.length≤2∧(oath m).2.length≤2) :
  (zbj N A T oath d).length≤4∧∀ g∈zbj N A T oath d,zfj g:=by
 have two:∀ {x y:List Int}{g:List Int},g.length=9→x.length=9→y.length=9→zfj (g,N++[x,y]):=λ{x y g} hg hx hy=>⟨hg,by simp;omega,λl hl=>by
  simp only[zma,List.mem_cons,List.not_mem_nil,or_false] at hl
  rcases hl with z | z | z
  ·exact hN.2 l z
  ·rw[z];exact hx
  ·rw[z];exact hy⟩
 have one:∀ {x:List Int}{g:List Int},g.length=9→x.length=9→zfj (g,N++[x]):=λ{x g} hg hx=>⟨hg,by simp;omega,λl hl=>by
  simp only[zma,List.mem_cons,List.not_mem_nil,or_false] at hl
  rcases hl with z | z
  ·exact hN.2 l z
  ·rw[z];exact hx⟩
 have nil:∀ {g:List Int},g.length=9→zfj (g,N):=λhg=>⟨hg,by show N.length≤4;omega,hN.2⟩
 have b6:=zal 6
 have b7:=zal 7
 cases d with
 | set h l=>
  refine⟨by simp only[zbj,zlm];omega,λg hg=>?_⟩
  obtain⟨x,hx,rfl⟩:=zmm.mp hg
  exact nil (zeY (e9_1 ok.1))
 | part h l b=>
  refine⟨by simp only[zbj,zlm];omega,λg hg=>?_⟩
  obtain⟨x,hx,rfl⟩:=zmm.mp hg
  exact two (zeY (e9_1 b6)) (zeX ok.1).1 (zeX ok.1).2.1
 | draw h lo hi=>
  refine⟨by simp only[zbj,zlm];omega,λg hg=>?_⟩
  obtain⟨x,hx,rfl⟩:=zmm.mp hg
  exact two (zeY (e9_1 b6)) (zer (hi:=hi)).1 (zer (lo:=lo)).2
 | turn l p=>
  refine⟨by have:=(hT p).1;simp only[zbj,List.length_append,zlm];omega,λg hg=>?_⟩
  rcases zma.mp hg with hg | hg
  ·obtain⟨x,hx,rfl⟩:=zmm.mp hg
   exact one ((hT p).2 x hx) ok.1
  ·obtain⟨x,hx,rfl⟩:=zmm.mp hg
   exact one (hA.2 x hx) (zeX (b:=0) ok.1).2.2
 | hold l=>
  refine⟨by simp only[zbj,List.length_append,zlm,List.length_cons,List.length_nil];omega,λg hg=>?_⟩
  rcases zma.mp hg with hg | hg
  ·rw[zms.mp hg];exact nil ok
  ·obtain⟨x,hx,rfl⟩:=zmm.mp hg
   exact one (hA.2 x hx) ok
 | call m g0 g1 t0 t1=>
  have o2:=ho m rfl
  refine⟨by simp only[zbj,List.length_append,zlm];omega,λg hg=>?_⟩
  rcases zma.mp hg with hg | hg
  ·obtain⟨x,hx,rfl⟩:=zmm.mp hg
   exact nil (zeY (e9_2 (zal g0) (zal g1)))
  ·obtain⟨x,hx,rfl⟩:=zmm.mp hg
   refine⟨zeY (e9_2 b6 b7),?_,λl hl=>?_⟩
   ·simp only[List.length_append,zlm];omega
   ·rcases zma.mp hl with z | z
    ·exact hN.2 l z
    ·obtain⟨y,_,rfl⟩:=zmm.mp z
     exact zeY (e9_2 (zal g0) (zal g1))
theorem zgQ {leaves:List (List Int)}{notes:List (List (List Int))}{oath:Oath}{n:Nat}(hD:∀ p,(dueL leaves notes p).length≤2∧∀ l∈dueL leaves notes p,l.length=9):∀ (ds:List Dd) (p:Nat),(∀ d∈ds,dOk n d)→(∀ d∈ds,∀ m,zbo d=some m→(oath m).1.length≤2∧(oath m).2.length≤2)→(zcU leaves notes oath ds p).length≤4 * ds.length∧∀ g∈zcU leaves notes oath ds p,zfj g
 | [],_,_,_=>⟨Nat.le_refl _,λg hg=>by cases hg⟩
 | d::ds,p,h,ho=>by
  have ih:=zgQ hD ds (p+1) (λe he=>h e (List.mem_cons_of_mem _ he)) λe he=>ho e (List.mem_cons_of_mem _ he)
  have h1:=zkd (d:=d) (hD p) (hD ((p:Int)+1)) hD (h d List.mem_cons_self) (ho d List.mem_cons_self)
  refine⟨?_,λg hg=>?_⟩
  ·show (zbj _ _ _ _ d++zcU leaves notes oath ds (p+1)).length≤_
   rw[List.length_append,List.length_cons]
   omega
  ·rcases zma.mp (show g∈zbj _ _ _ _ d++zcU leaves notes oath ds (p+1) from hg) with z | z
   ·exact h1.2 g z
   ·exact ih.2 g z
theorem Cr.Rt.gs {c:Cr}{cr:Int→Cr}(h:c.Rt) (ho:∀ m∈zaD c.deeds,(cr m).Rt):(c.gs cr).length≤34∧∀ g∈c.gs cr,zfj g:=by
 have hD:∀ p,(dueL c.leaves c.notes p).length≤2∧∀ l∈dueL c.leaves c.notes p,l.length=9:=λp=>⟨zpV h.parts.2.1 h.parts.2.2.2.2.1 p,(h.good.due p).2⟩
 have k:=zgQ (oath:=zeN cr) hD c.deeds 0 h.dok λd hd m e=>by
  have:=ho m (List.mem_filterMap.mpr ⟨d,hd,e⟩)
  exact⟨this.parts.1,this.parts.2.1⟩
 have d8:=h.parts.2.2.1.2
 have h0:=(hD 0).1
 unfold Cr.gs zeV zgM
 refine⟨by rw[List.length_append,zlm];omega,λg hg=>?_⟩
 rcases zma.mp hg with z | z
 ·obtain⟨x,_,rfl⟩:=zmm.mp z
  exact⟨zeY e9_4,by show c.needs.length≤4;have:=h.parts.1;omega,h.nine.n9⟩
 ·exact k.2 g z
def zdi (cC:Addr) (H:Hp) (p:Addr) (c:Cr) (fp:List Addr):Prop:=∃ dx w1 w2 w3 w4 f,fp=p::f∧H p=some (.ins cC dx (flds w1 w2 w3 w4))∧zak H (zm0 c.needs c.leaves (c.deeds.map toD) c.notes) [w1,w2,w3,w4] f
theorem zdi.at {K:Fg}{cC:Addr}{H:Hp}{p:Addr}{c:Cr}{fp:List Addr}(h:zdi cC H p c fp):zbF K cC H p c.needs c.leaves (c.deeds.map toD) c.notes:=by
 obtain⟨dx,w1,w2,w3,w4,f,rfl,hp,r⟩:=h
 obtain⟨h1,h2,h3,h4⟩:=reps4 (zak.reps (K:=K) _ r)
 exact⟨dx,w1,w2,w3,w4,hp,h1,h2,h3,h4⟩
theorem zdi.t {K:Fg}{cC:Addr}{H:Hp}{p:Addr}{c:Cr}{fp:List Addr}(h9:∀ d∈c.deeds,zeH d) (h:zdi cC H p c fp):zes K cC H p c.needs c.leaves c.deeds c.notes:=by
 refine⟨h.at,?_⟩
 obtain⟨dx,w1,w2,w3,w4,f,rfl,hp,r⟩:=h
 obtain⟨x1,x2,x3,x4,f1,f2,f3,f4,e,g1,g2,g3,g4⟩:=zoT r
 cases e
 obtain⟨b3,dvs',r3,rfl,h3',z3⟩:=RepF.lso g3
 refine⟨dx,w1,w2,b3,w4,dvs',hp,h3',by simpa using z3.length,λi d x q1 q2=>?_⟩
 obtain⟨f,hf⟩:=zak.item z3 i (toD d) x (by rw[zgm,q1];rfl) q2
 exact zj5 (zic (h9 d (zmg q1))) hf
theorem zdi.hasN {cC:Addr}{H:Hp}{p:Addr}{c:Cr}{fp:List Addr}(h:zdi cC H p c fp):∀ b∈fp,∃ o,H b=some o∧∀ kvs,o≠HO.dK kvs:=λb hb=>by
 obtain⟨dx,w1,w2,w3,w4,f,rfl,hp,r⟩:=h
 rcases List.mem_cons.mp hb with rfl | hb
 ·exact⟨_,hp,λ_ z=>by cases z⟩
 ·obtain⟨xs,e⟩:=zak.hasL _ r b hb
  exact⟨_,e,λ_ z=>by cases z⟩
theorem zdi.frame {cC:Addr}{H H':Hp}{p:Addr}{c:Cr}{fp:List Addr}(tk:Tups H H') (k:∀ b∈fp,∀ o,H b=some o→H' b=some o) (h:zdi cC H p c fp):zdi cC H' p c fp:=by
 obtain⟨dx,w1,w2,w3,w4,f,rfl,hp,r⟩:=h
 refine⟨dx,w1,w2,w3,w4,f,rfl,k p List.mem_cons_self _ hp,zak.frame tk _ (λb hb=>?_) r⟩
 obtain⟨o,ho⟩:=zak.has _ r b hb
 rw[ho]
 exact k b (List.mem_cons_of_mem _ hb) o ho
theorem zdi.nod {cC:Addr}{H H':Hp}{p:Addr}{c:Cr}{fp:List Addr}(e:NoD H H') (h:zdi cC H p c fp):zdi cC H' p c fp:=by
 obtain⟨dx,w1,w2,w3,w4,f,rfl,hp,r⟩:=h
 exact⟨dx,w1,w2,w3,w4,f,rfl,e _ _ hp (λ_ z=>by cases z),zak.sq e.sq _ r⟩
def CrIn (cC:Addr) (H:Hp) (cr:Int→Cr) (fp:List Addr) (m:Int) (v:V):Prop:=∃ p f,v=.ref p∧zdi cC H p (cr m) f∧∀ b∈f,b∈fp
structure HAt (cH cC:Addr) (H:Hp) (h la va:Addr) (ks:List Int) (cr:Int→Cr) (vs:List Int) (fp:List Addr):Prop where
 ins:∃ dx,H h=some (.ins cH dx (hfl la va))
 laid:∃ kvs,H la=some (.dK kvs)∧KVs (CrIn cC H cr fp) kvs ks
 vou:∃ kvs,H va=some (.dK kvs)∧KVs (λ_ v=>v=.bl true) kvs vs
 ne:la≠va
 rt:∀ m∈ks,(cr m).Rt
 few:ks.length≤60
 sub:∀ m∈vs,m∈ks
 has:∀ b∈fp,∃ o,H b=some o∧∀ kvs,o≠HO.dK kvs
section
variable {cH cC:Addr}{H H':Hp}{h la va:Addr}{ks vs:List Int}{cr:Int→Cr}{fp:List Addr}
theorem HAt.frame (A:HAt cH cC H h la va ks cr vs fp) (tk:Tups H H') (k:∀ b,b∈h::la::va::fp→∀ o,H b=some o→H' b=some o):HAt cH cC H' h la va ks cr vs fp where
 ins:=by obtain⟨dx,e⟩:=A.ins;exact⟨dx,k _ (by simp) _ e⟩
 laid:=by
  obtain⟨kvs,e,q⟩:=A.laid
  exact⟨kvs,k _ (by simp) _ e,q.mono λm v ⟨p,f,e1,e2,e3⟩=>⟨p,f,e1,e2.frame tk λb hb o ho=>k b (by simp[e3 b hb]) o ho,e3⟩⟩
 vou:=by obtain⟨kvs,e,q⟩:=A.vou;exact⟨kvs,k _ (by simp) _ e,q⟩
 ne:=A.ne
 rt:=A.rt
 few:=A.few
 sub:=A.sub
 has:=λb hb=>by obtain⟨o,e,n⟩:=A.has b hb;exact⟨o,k b (by simp[hb]) o e,n⟩
theorem HAt.same (A:HAt cH cC H h la va ks cr vs fp) (e:Same H H'):HAt cH cC H' h la va ks cr vs fp:=A.frame e.tups λb _ o ho=>e b o ho
theorem HAt.putV {kvs:List (Key × V)}{vs':List Int}(A:HAt cH cC H h la va ks cr vs fp) (q:KVs (λ_ v=>v=.bl true) kvs vs') (s:∀ m∈vs',m∈ks):HAt cH cC (upd H va (.dK kvs)) h la va ks cr vs' fp where
 ins:=by
  obtain⟨dx,z⟩:=A.ins
  obtain⟨kv0,hv,_⟩:=A.vou
  exact⟨dx,by rw[zaq (znz z hv (by intro w;cases w))];exact z⟩
 laid:=by
  obtain⟨kv0,hv,_⟩:=A.vou
  obtain⟨kl,z,q⟩:=A.laid
  exact⟨kl,by rw[zaq A.ne];exact z,q.mono λm v ⟨p,f,e1,e2,e3⟩=>⟨p,f,e1,e2.nod (zc2 hv),e3⟩⟩
 vou:=⟨kvs,zad,q⟩
 ne:=A.ne
 rt:=A.rt
 few:=A.few
 sub:=s
 has:=λb hb=>by
  obtain⟨kv0,hv,_⟩:=A.vou
  obtain⟨o,z,n⟩:=A.has b hb
  exact⟨o,zc2 hv b o z n,n⟩
theorem HAt.vfew (A:HAt cH cC H h la va ks cr vs fp):vs.length≤60:=by
 obtain⟨_,_,q⟩:=A.vou
 have:=zif q.2.1 A.sub
 have:=A.few
 omega
end
theorem OffA.putDict {H:Hp}{S:List Addr}{H':Hp}(e:OffA S H H') {T:List Addr}(h:∀ b∈S,b∈T):OffA T H H':=λb o n z=>e b o (λw=>n (h b w)) z
theorem HAt.start {cH cC:Addr}{H:Hp}{h la va dx:Addr}{cr:Int→Cr}(h1:H h=some (.ins cH dx (hfl la va))) (h2:H la=some (.dK [])) (h3:H va=some (.dK [])) (ne:la≠va):HAt cH cC H h la va [] cr [] [] where
 ins:=⟨dx,h1⟩
 laid:=⟨[],h2,KVs.nil⟩
 vou:=⟨[],h3,KVs.nil⟩
 ne:=ne
 rt:=λm hm=>by cases hm
 few:=Nat.zero_le _
 sub:=λm hm=>by cases hm
 has:=λm hm=>by cases hm
theorem zm1 {H H1:Hp}{ha dx:Addr}{u x:HO}(ha0:H ha=none) (dx0:H dx=none) (o1:OffA [ha] (upd (upd H dx u) ha x) H1):Same H H1:=λb o e=>o1 b o (by simp[zaM e ha0]) (by rw[zaq (zaM e ha0),zaq (zaM e dx0)];exact e)
theorem HAt.congr {cH cC:Addr}{H:Hp}{h la va:Addr}{ks vs:List Int}{cr cr':Int→Cr}{fp:List Addr}(A:HAt cH cC H h la va ks cr vs fp) (e:∀ m∈ks,cr m=cr' m):HAt cH cC H h la va ks cr' vs fp where
 ins:=A.ins
 laid:=by
  obtain⟨kvs,h1,q⟩:=A.laid
  refine⟨kvs,h1,q.1,q.2.1,λm hm=>?_⟩
  obtain⟨v,e1,p,f,e2,e3,e4⟩:=q.2.2 m hm
  exact⟨v,e1,p,f,e2,by rw[←e m hm];exact e3,e4⟩
 vou:=A.vou
 ne:=A.ne
 rt:=λm hm=>by rw[←e m hm];exact A.rt m hm
 few:=A.few
 sub:=A.sub
 has:=A.has
def zcg (ks:List Int) (cr:Int→Cr) (n:Int):List Int:=if n∈ks then zaD (cr n).deeds else []
def setC (cr:Int→Cr) (n:Int) (c:Cr):Int→Cr:=λm=>if m=n then c else cr m
theorem zgR:∀ {a b:List (List Int)},zce (a.map nums) (b.map nums)=decide (a=b)
 | [],[]=>by unfold List.map zce;rfl
 | [],_::_=>by rw[zmc];unfold List.map zce;simp
 | _::_,[]=>by rw[zmc];unfold List.map zce;simp
 | m::ms,n::ns=>by
  rw[zmc,zmc]
  unfold zce nums pyEq
  rw[zgR,zfz,Bool.eq_iff_iff]
  simp
theorem zeF {a b:List (List Int)} : pyEq (zaF a) (zaF b)=decide (a=b):=by
 unfold zaF pyEq
 exact zgR
def rowD:Option (Int × List Int)→D
 | none=>.non
 | some (w,ws)=>.tup [.int w,nums ws]
theorem zpX (o:Option (Int × List Int)):dep (rowD o)≤2:=by
 cases o with
 | none=>unfold rowD dep;omega
 | some r=>
  obtain⟨w,ws⟩:=r
  have:=zgb ws
  unfold rowD dep deps deps deps
  simp only[dep]
  unfold dep at this
  omega
theorem zgS (os:List (Option (Int × List Int))):deps (os.map rowD)≤2:=zj4 λd hd=>by
 obtain⟨o,_,rfl⟩:=zmm.mp hd
 exact zpX o
theorem zig {K:Fg}{H:Hp} : ∀ {os:List (Option (Int × List Int))}{xs:List V},Reps K H (os.map rowD) xs→xs.any zhH=os.any Option.isNone
 | [],_,h=>by unfold List.map Reps at h;subst h;rfl
 | o::os,_,h=>by
  rw[zmc] at h
  unfold Reps at h
  obtain⟨v,r,rfl,h1,h2⟩:=h
  rw[List.any_cons,List.any_cons,zig h2]
  congr 1
  cases o with
  | none=>unfold rowD Rep at h1;rw[h1];rfl
  | some z=>obtain⟨w,ws⟩:=z;unfold rowD Rep at h1;obtain⟨a,_,e,_⟩:=h1;rw[e];rfl
end My

namespace My
open PySem L2 PyProof.Rows
theorem zry {K:Fg}{H:Hp}{Q:VK}{n:Int}{a:Addr}{l:List Int}(h:SqL K H a (l.map V.int)) (q:Q (.bl (decide (n∈l))) H):rIn K false (.int n) (.ref a) H Q:=i_in (.inl h) rfl (zlA _) (by rw[zkZ];exact q)
theorem zke {l:List Int}{i:Nat}{m:Int}(nd:l.Nodup) (e:l[i]?=some m):m∉l.take i:=by
 obtain⟨hi,rfl⟩:=zge.mp e
 intro z
 rw[←List.take_append_drop i l,List.drop_eq_getElem_cons hi] at nd
 exact (List.nodup_append.mp nd).2.2 _ z _ List.mem_cons_self rfl
theorem zkf {a b c d e f g:Int}(h:∀ x∈[a,b,c,d,e,f,g],-1000000000≤x∧x≤1000000000):zct [7,8] [a,b,c,d,e,f,g,0,0]=true:=by
 simp only[List.mem_cons,List.not_mem_nil,or_false,forall_eq_or_imp,forall_eq] at h
 simp[zct,zdP,btw]
 omega
theorem zkg (c:Int):zct [7,8] (zid c)=true:=by
 refine zkf (a:=number c (5 * (0+((0:Nat):Int)))) (b:=number c (5 * (0+((1:Nat):Int)))) (c:=number c (5 * (0+((2:Nat):Int)))) (d:=number c (5 * (0+((3:Nat):Int)))) (e:=number c (5 * (0+((4:Nat):Int)))) (f:=number c (5 * (0+((5:Nat):Int)))) (g:=number c (5 * (0+((6:Nat):Int)))) λx hx=>?_
 simp only[List.mem_cons,List.not_mem_nil,or_false] at hx
 rcases hx with rfl | rfl | rfl | rfl | rfl | rfl | rfl <;> exact zgG _ _
theorem zgh {c n:Int}(hn:0≤n):zbb n (zdS c n)=true∧zeH (zdS c n):=by
 unfold zdS
 split
 ·have k1:=zb0 (c:=c) (k:=30) (m:=n+1) (by omega)
  have k2:=zfd (c:=c) (k:=30) (m:=n+1) (by omega)
  refine⟨?_,zdx _⟩
  simp only[zbb,zkg,btw,Bool.true_and,Bool.and_eq_true,decide_eq_true_eq]
  omega
 split
 ·refine⟨?_,zdx _⟩
  simp only[zbb,zbK,zkg,btw,Bool.and_true,Bool.and_eq_true,decide_eq_true_eq]
  omega
 ·have k1:=zgG (c / 5) 31
  have k2:=zgG (c / 7) 32
  refine⟨?_,trivial⟩
  simp only[zbb,zbK,zdP,btw,Bool.and_eq_true,decide_eq_true_eq]
  split <;> omega
theorem zkh {l:List Int}{i:Nat}(h:i<l.length):l.getD i 0∈l:=by
 rw[List.getD_eq_getElem?_getD,List.getElem?_eq_getElem h]
 exact List.getElem_mem h
theorem zo1 {c:Int}{numbers:List Int}(h:0<numbers.length):atN c numbers<numbers.length:=by
 have a1:=Int.emod_nonneg (c / 48) (show ((numbers.length:Nat):Int)≠0 by omega)
 have a2:=Int.emod_lt_of_pos (c / 48) (show (0:Int)<(numbers.length:Int) by omega)
 unfold atN
 omega
theorem zki {c n:Int}{numbers kinds:List Int}(hn:0≤n) (h0:0<numbers.length) (nb:∀ m∈numbers,0≤m∧m<100):zbb n (zeb c n numbers kinds)=true∧zeH (zeb c n numbers kinds)∧∀ m,zbo (zeb c n numbers kinds)=some m→m∈numbers:=by
 have hm:=zd3 c
 have hl:∀ {x y:Int},0≤x∧x≤1→0≤y∧y≤1→zct [7,8] [zbg c,x,y,0,0,0,0,0,0]=true:=λ{x y} hx hy=>zkf λz hz=>by
  simp only[List.mem_cons,List.not_mem_nil,or_false] at hz
  rcases hz with rfl | rfl | rfl | rfl | rfl | rfl | rfl <;> omega
 have mm:=zkh (zo1 (c:=c) h0)
 have mb:=nb _ mm
 unfold zeb
 split
 ·refine⟨?_,rfl,λm e=>by cases e⟩
  simp only[zbb,zbK,btw,hl (x:=1) (y:=1) (by omega) (by omega),Bool.and_true,Bool.and_eq_true,decide_eq_true_eq]
  omega
 split
 ·refine⟨?_,rfl,λm e=>by cases e⟩
  simp only[zbb,zbK,btw,hl (x:=c / 24 % 2) (y:=1 - c / 24 % 2) (by omega) (by omega),Bool.and_true,Bool.and_eq_true,decide_eq_true_eq]
  omega
 split
 ·refine⟨?_,rfl,λm e=>by cases e⟩
  simp only[zbb,zbK,btw,hl (x:=1) (y:=c / 48 % 2) (by omega) (by omega),Bool.true_and,Bool.and_eq_true,decide_eq_true_eq]
  omega
 split
 ·refine⟨?_,trivial,λm e=>by cases e⟩
  simp only[zbb,zbK,zdP,btw,Bool.and_eq_true,decide_eq_true_eq]
  split <;> omega
 split
 ·refine⟨?_,rfl,λm e=>by cases e⟩
  simp only[zbb,hl (x:=1) (y:=c / 24 % 2) (by omega) (by omega)]
 split
 ·split
  ·refine⟨?_,trivial,λm e=>by injection e with e;rw[←e];exact mm⟩
   simp only[zbb,zbK,btw,List.all_cons,List.all_nil,id,Bool.and_true,Bool.and_eq_true,Bool.not_eq_true',decide_eq_true_eq,decide_eq_false_iff_not]
   omega
  ·refine⟨?_,trivial,λm e=>by injection e with e;rw[←e];exact mm⟩
   simp only[zbb,zbK,btw,List.all_cons,List.all_nil,id,Bool.and_true,Bool.and_eq_true,Bool.not_eq_true',decide_eq_true_eq,decide_eq_false_iff_not]
   omega
 ·refine⟨(zgh hn).1,(zgh hn).2,λm e=>?_⟩
  unfold zdS at e
  split at e
  ·cases e
  split at e <;> cases e
theorem zjn {c n:Int}{numbers kinds:List Int}(hn:0≤n) (h0:0<numbers.length) (nb:∀ m∈numbers,0≤m∧m<100):zbb n (zc3 c n numbers kinds)=true∧zeH (zc3 c n numbers kinds)∧∀ m,zbo (zc3 c n numbers kinds)=some m→m∈numbers:=by
 have hm:=zd3 c
 have hl:∀ {x:Int},-1≤x∧x≤1→zct [7,8] [zbg c,1,0,0,0,x,0,0,0]=true:=λ{x} hx=>zkf λz hz=>by
  simp only[List.mem_cons,List.not_mem_nil,or_false] at hz
  rcases hz with rfl | rfl | rfl | rfl | rfl | rfl | rfl <;> omega
 have mm:=zkh (zo1 (c:=c) h0)
 have mb:=nb _ mm
 unfold zc3
 split
 ·refine⟨?_,rfl,λm e=>by cases e⟩
  simp only[zbb,zbK,btw,hl (x:=0) (by omega),Bool.and_true,Bool.and_eq_true,decide_eq_true_eq]
  omega
 split
 ·refine⟨?_,rfl,λm e=>by cases e⟩
  simp only[zbb,zbK,btw,hl (x:=0) (by omega),Bool.true_and,Bool.and_eq_true,decide_eq_true_eq]
  omega
 split
 ·refine⟨?_,rfl,λm e=>by cases e⟩
  simp only[zbb,hl (x:=-(c / 24 % 2)) (by omega)]
 split
 ·refine⟨?_,zdx _,λm e=>by cases e⟩
  simp only[zbb,zbK,btw,zkg,Bool.and_true,Bool.and_eq_true,decide_eq_true_eq]
  omega
 split
 ·split
  ·refine⟨?_,trivial,λm e=>by injection e with e;rw[←e];exact mm⟩
   simp only[zbb,zbK,btw,List.all_cons,List.all_nil,id,Bool.and_true,Bool.and_eq_true,Bool.not_eq_true',decide_eq_true_eq,decide_eq_false_iff_not]
   omega
  ·refine⟨?_,trivial,λm e=>by injection e with e;rw[←e];exact mm⟩
   simp only[zbb,zbK,btw,List.all_cons,List.all_nil,id,Bool.and_true,Bool.and_eq_true,Bool.not_eq_true',decide_eq_true_eq,decide_eq_false_iff_not]
   omega
 ·refine⟨(zgh hn).1,(zgh hn).2,λm e=>?_⟩
  unfold zdS at e
  split at e
  ·cases e
  split at e <;> cases e
theorem zgT {k c n:Int}{numbers kinds:List Int}(hn:0≤n) (h0:0<numbers.length) (nb:∀ m∈numbers,0≤m∧m<100):zbb n (zie k c n numbers kinds)=true∧zeH (zie k c n numbers kinds)∧∀ m,zbo (zie k c n numbers kinds)=some m→m∈numbers:=by
 unfold zie
 split
 ·exact zki hn h0 nb
 ·exact zjn hn h0 nb
structure HPs (many size:Int) (numbers kinds:List Int) (cells:Nat→List Int):Prop where
 n:numbers.length=many.toNat
 k:kinds.length=many.toNat
 nd:numbers.Nodup
 nb:∀ n∈numbers,0≤n∧n<100
 kb:∀ k∈kinds,k=0∨k=1
 c:∀ i,1≤(cells i).length∧(cells i).length≤size.toNat
def crOf (numbers kinds:List Int) (cells:Nat→List Int) (k:Nat):Cr:=crK (kinds.getD k 0) (cells k) numbers kinds
theorem zgU (k:Int):zgI (zbM k).1 (zbM k).2=true∧(∀ l∈(zbM k).1,l.length=9)∧(∀ l∈(zbM k).2,l.length=9)∧(zbM k).1.length≤2∧(zbM k).2.length≤2:=by
 unfold zbM
 split <;> decide
theorem zgV (k:Int):zdG [7,8] (zeM k)=true∧(∀ l∈zeM k,l.length=9)∧(zeM k).length≤2:=by
 unfold zeM
 split <;> decide
theorem rt_of {k:Int}{ds:List Dd}{no:List (List (List Int))}(h1:1≤ds.length) (h8:ds.length≤8) (hd:∀ d∈ds,zbb (ds.length:Int) d=true∧zeH d) (hn:no.length=ds.length) (ho:∀ ls∈no,ls=zeM k):Cr.Rt ⟨(zbM k).1,(zbM k).2,ds,no⟩ where
 nine:=⟨(zgU k).2.1,(zgU k).2.2.1,λd m=>(hd d m).2,λls m=>by rw[ho ls m];exact⟨by have:=(zgV k).2.2;omega,(zgV k).2.1⟩,by have:=(zgU k).2.2.2.1;show (zbM k).1.length≤100;omega,by have:=(zgU k).2.2.2.2;show (zbM k).2.length≤100;omega,by show ds.length≤100;omega,by show no.length≤100;omega⟩
 r:=by
  show zc4 (zbM k).1 (zbM k).2 ds no=true
  unfold zc4
  rw[(zgU k).1,Bool.true_and]
  unfold zfA zfB btw
  simp only[Bool.and_eq_true,decide_eq_true_eq,List.all_map,List.all_eq_true,Function.comp_apply,id_eq]
  refine⟨⟨⟨by omega,by omega⟩,λd m=>(hd d m).1⟩,by omega,λls m=>?_⟩
  rw[ho ls m]
  exact (zgV k).1
theorem HPs.rt {many size:Int}{numbers kinds:List Int}{cells:Nat→List Int}(h:HPs many size numbers kinds cells) (hm:1≤many) (hs:size≤8) (k:Nat):(crOf numbers kinds cells k).Rt:=by
 have hc:=h.c k
 have hn:=h.n
 refine rt_of (by simp[hc.1]) (by simp;omega) (λd m=>?_) (by simp) (λls m=>?_)
 ·obtain⟨c,_,rfl⟩:=zmm.mp m
  rw[zlm]
  have:=zgT (k:=kinds.getD k 0) (c:=c) (n:=(cells k).length) (kinds:=kinds) (by omega) (show 0<numbers.length by omega) h.nb
  exact⟨this.1,this.2.1⟩
 ·obtain⟨c,_,rfl⟩:=zmm.mp m
  rfl
theorem HPs.calls {many size:Int}{numbers kinds:List Int}{cells:Nat→List Int}(h:HPs many size numbers kinds cells) (hm:1≤many) (k:Nat):∀ m∈zaD (crOf numbers kinds cells k).deeds,m∈numbers:=λm mm=>by
 have hn:=h.n
 obtain⟨d,hd,e⟩:=zhM mm
 obtain⟨c,_,rfl⟩:=zmm.mp hd
 exact (zgT (k:=kinds.getD k 0) (c:=c) (n:=(cells k).length) (kinds:=kinds) (by omega) (show 0<numbers.length by omega) h.nb).2.2 m e
theorem due0 (n:Nat) (p:Int) (p0:0≤p) (pn:p≤(n:Int)):dueL [zah 6,zah 7] (List.replicate n [zah 0,zah 1]) p=[zah 0,zah 1]:=by
 unfold dueL
 rw[List.length_replicate]
 split
 ·decide
 ·rw[List.getD_eq_getElem?_getD,List.getElem?_replicate,if_pos (by omega)];rfl
theorem due1 (n:Nat) (p:Int) (p0:0≤p) (pn:p≤(n:Int)):dueL [[0,0,0,0,0,-1,0,1,0],zah 6] (List.replicate n [e1,zah 4]) p=if p=(n:Int) then [e1,zah 0] else [e1,zah 4]:=by
 unfold dueL
 rw[List.length_replicate]
 split
 ·decide
 ·rw[List.getD_eq_getElem?_getD,List.getElem?_replicate,if_pos (by omega)];rfl
theorem zo2 {kd:Int→Int→Prop}{oath:Oath}{N:Nat}(ho:∀ m k,kd m k→oath m=zbM k):∀ (ds:List Dd) (p:Nat),p+ds.length≤N→(∀ d∈ds,First kd (N:Int) d)→∀ g∈zcU [zah 6,zah 7] (List.replicate N [zah 0,zah 1]) oath ds p,found g
 | [],_,_,_=>λg hg=>by cases hg
 | d::ds,p,hp,h=>λg hg=>by
  rw[List.length_cons] at hp
  rcases zma.mp (show g∈zbj _ _ _ _ d++zcU _ _ oath ds (p+1) from hg) with z | z
  ·rw[due0 N p (by omega) (by omega),due0 N ((p:Int)+1) (by omega) (by omega)] at z
   exact zka (kd:=kd) (n:=(N:Int)) (λq q0 qn=>due0 N q q0 qn) ho (h d List.mem_cons_self) g z
  ·exact zo2 ho ds (p+1) (by omega) (λe he=>h e (List.mem_cons_of_mem _ he)) g z
theorem zo3 {kd:Int→Int→Prop}{oath:Oath}{N:Nat}(ho:∀ m k,kd m k→oath m=zbM k):∀ (ds:List Dd) (p:Nat),p+ds.length≤N→(∀ d∈ds,Second kd (N:Int) d)→∀ g∈zcU [[0,0,0,0,0,-1,0,1,0],zah 6] (List.replicate N [e1,zah 4]) oath ds p,found g
 | [],_,_,_=>λg hg=>by cases hg
 | d::ds,p,hp,h=>λg hg=>by
  rw[List.length_cons] at hp
  have three:∀ q:Int,0≤q→q≤(N:Int)→∀ x∈dueL [[0,0,0,0,0,-1,0,1,0],zah 6] (List.replicate N [e1,zah 4]) q,x=e1∨x=zah 4∨x=zah 0:=λq q0 qn x hx=>by
   rw[due1 N q q0 qn] at hx
   split at hx
   ·simp only[List.mem_cons,List.not_mem_nil,or_false] at hx
    rcases hx with z | z
    ·exact .inl z
    ·exact .inr (.inr z)
   ·simp only[List.mem_cons,List.not_mem_nil,or_false] at hx
    rcases hx with z | z
    ·exact .inl z
    ·exact .inr (.inl z)
  rcases zma.mp (show g∈zbj _ _ _ _ d++zcU _ _ oath ds (p+1) from hg) with z | z
  ·have e:=due1 N p (by omega) (by omega)
   rw[if_neg (by omega)] at e
   rw[e] at z
   exact zjl (kd:=kd) (n:=(N:Int)) (three ((p:Int)+1) (by omega) (by omega)) three ho (h d List.mem_cons_self) g z
  ·exact zo3 ho ds (p+1) (by omega) (λe he=>h e (List.mem_cons_of_mem _ he)) g z
theorem zm2 {α β:Type}(l:List α) (b:β):(l.map λ_=>b)=List.replicate l.length b:=by
 induction l with
 | nil=>rfl
 | cons a l ih=>rw[zmc,ih,List.length_cons,List.replicate_succ]
def zbG (gs:List Du):Prop:=∀ g∈gs,found g
theorem zm3 {kd:Int→Int→Prop}{oath:Oath}{N:Nat}{ds:List Dd}(ho:∀ m k,kd m k→oath m=zbM k) (hN:ds.length=N) (h:∀ d∈ds,First kd (N:Int) d):zbG (zeV [zah 4,zah 5] [zah 6,zah 7] ds (List.replicate N [zah 0,zah 1]) oath):=λg hg=>by
 rcases zma.mp (show g∈zgM _ _ _++zcU _ _ _ _ _ from hg) with z | z
 ·unfold zgM at z
  rw[due0 N 0 (by omega) (by omega)] at z
  simp only[zmc,List.map_nil,List.mem_cons,List.not_mem_nil,or_false] at z
  rcases z with rfl | rfl
  ·rw[zk3.1]
   exact zfC (i:=0) (by decide) rfl
  ·rw[zk3.2.1]
   exact zfC (i:=1) (by decide) rfl
 ·exact zo2 ho ds 0 (by omega) h g z
theorem zm4 {kd:Int→Int→Prop}{oath:Oath}{N:Nat}{ds:List Dd}(ho:∀ m k,kd m k→oath m=zbM k) (hN:ds.length=N) (h1:1≤N) (h:∀ d∈ds,Second kd (N:Int) d):zbG (zeV [zah 4] [[0,0,0,0,0,-1,0,1,0],zah 6] ds (List.replicate N [e1,zah 4]) oath):=λg hg=>by
 rcases zma.mp (show g∈zgM _ _ _++zcU _ _ _ _ _ from hg) with z | z
 ·unfold zgM at z
  rw[due1 N 0 (by omega) (by omega),if_neg (by omega)] at z
  simp only[zmc,List.map_nil,List.mem_cons,List.not_mem_nil,or_false] at z
  rcases z with rfl | rfl
  ·rw[zk3.2.2.2]
   exact (zmW (zal 4)).found
  ·rw[zk3.2.2.1]
   exact zfC (i:=0) (by decide) rfl
 ·exact zo3 ho ds 0 (by omega) h g z
theorem HPs.found {many size:Int}{numbers kinds:List Int}{cells:Nat→List Int}(h:HPs many size numbers kinds cells) (hm:1≤many) {k:Nat}(hk:k<many.toNat) {cr:Int→Cr}(ho:∀ (i:Nat) m c,numbers[i]?=some m→kinds[i]?=some c→zeN cr m=zbM c):zbG ((crOf numbers kinds cells k).gs cr):=by
 have hc:=h.c k
 have hn:=h.n
 have hkk:=h.k
 have kk:=h.kb (kinds.getD k 0) (zkh (by omega))
 have ho':∀ m c,zk4 numbers kinds m c→zeN cr m=zbM c:=λm c ⟨i,e1,e2⟩=>ho i m c e1 e2
 unfold Cr.gs crOf crK
 dsimp only
 rw[zm2]
 rcases kk with z | z
 ·rw[z]
  refine zm3 ho' (by rw[zlm]) λd hd=>?_
  obtain⟨c,_,rfl⟩:=zmm.mp hd
  exact zop (by omega) (by omega) (by omega) h.kb
 ·rw[z]
  refine zm4 ho' (by rw[zlm]) hc.1 λd hd=>?_
  obtain⟨c,_,rfl⟩:=zmm.mp hd
  exact zmY (by omega) (by omega) (by omega) h.kb
theorem zjd.nod {H H':Hp}{v:V}{needs leaves:List (List Int)}{deeds:List Dd}{notes:List (List (List Int))}(e:NoD H H') (h:zjd H v needs leaves deeds notes):zjd H' v needs leaves deeds notes:=by
 obtain⟨pa,y1,y2,a3,a4,dvs,nvs,rfl,h1,h2,h3,h4,h5,h6,h7⟩:=h
 have el:∀ {b xs},H b=some (.lst xs)→H' b=some (.lst xs):=λz=>e _ _ z (λ_ w=>by cases w)
 exact⟨pa,y1,y2,a3,a4,dvs,nvs,rfl,el h1,h2.nod e,h3.nod e,el h4,el h5,R2.mono h6 λ_ _ z=>z.sq e.sq,h7.mono λ_ _ ⟨b,e1,e2⟩=>⟨b,e1,e2.nod e⟩⟩
def Cr.at (c:Cr) (H:Hp) (v:V):Prop:=zjd H v c.needs c.leaves c.deeds c.notes
def zcv (H:Hp) (pl:Addr) (ps:List (Int × Cr)):Prop:=∃ vs,H pl=some (.lst vs)∧R2 (λp v=>∃ T w,v=.ref T∧H T=some (.tup [.int p.1,w])∧p.2.at H w) ps vs
theorem zcv.nod {H H':Hp}{pl:Addr}{ps:List (Int × Cr)}(e:NoD H H') (h:zcv H pl ps):zcv H' pl ps:=by
 obtain⟨vs,h1,h2⟩:=h
 exact⟨vs,e _ _ h1 (λ_ w=>by cases w),h2.mono λp v ⟨T,w,e1,e2,e3⟩=>⟨T,w,e1,e _ _ e2 (λ_ w=>by cases w),e3.nod e⟩⟩
theorem zm5 {H:Hp}{c:Cr}{v:V}{f:List Addr}(h9:∀ d∈c.deeds,zeH d) (h:RepF H (crD c) v f):c.at H v:=by
 unfold crD RepF at h
 obtain⟨pa,pvs,fp,rfl,rfl,pa1,pr⟩:=h
 obtain⟨x1,x2,x3,x4,f1,f2,f3,f4,rfl,g1,g2,g3,g4⟩:=zoT pr
 obtain⟨y1,rfl,hy1⟩:=RepF.ls g1
 obtain⟨y2,rfl,hy2⟩:=RepF.ls g2
 obtain⟨b3,dvs,r3,rfl,h3,z3⟩:=RepF.lso g3
 obtain⟨b4,nvs,r4,rfl,h4,z4⟩:=RepF.lso g4
 refine⟨pa,y1,y2,b3,b4,dvs,nvs,rfl,pa1,hy1,hy2,h3,h4,⟨by simpa using z3.length,λi d x e1 e2=>?_⟩,⟨by simpa using z4.length,λi ls x e1 e2=>?_⟩⟩
 ·obtain⟨f,hf⟩:=zak.item z3 i (toD d) x (by rw[zgm,e1];rfl) e2
  exact zj5 (zic (h9 d (zmg e1))) hf
 ·obtain⟨f,hf⟩:=zak.item z4 i (zaF ls) x (by rw[zgm,e1];rfl) e2
  exact RepF.ls hf
def zgW (p:Int × Cr):D:=.tup [.int p.1,crD p.2]
theorem zos {H:Hp}{p:Int × Cr}{v:V}{f:List Addr}(h:RepF H (zgW p) v f):∃ T w,v=.ref T∧H T=some (.tup [.int p.1,w])∧RepF H (crD p.2) w f:=by
 unfold zgW RepF at h
 obtain⟨T,xs,rfl,hT,hx⟩:=h
 unfold zak at hx
 obtain⟨x1,r1,f1,g1,rfl,rfl,h1,hx⟩:=hx
 unfold zak at hx
 obtain⟨x2,r2,f2,g2,rfl,rfl,h2,hx⟩:=hx
 unfold zak at hx
 obtain⟨rfl,rfl⟩:=hx
 unfold RepF at h1
 obtain⟨rfl,rfl⟩:=h1
 exact⟨T,x2,rfl,hT,by simpa using h2⟩
theorem zkj {H:Hp}{ps:List (Int × Cr)}{vs:List V}{fp:List Addr}(h9:∀ p∈ps,∀ d∈p.2.deeds,zeH d) (h:zak H (ps.map zgW) vs fp):R2 (λp v=>∃ T w,v=.ref T∧H T=some (.tup [.int p.1,w])∧p.2.at H w) ps vs:=⟨by simpa using h.length,λi p v e1 e2=>by
 obtain⟨f,hf⟩:=zak.item h i (zgW p) v (by rw[zgm,e1];rfl) e2
 obtain⟨T,w,a1,a2,a3⟩:=zos hf
 exact⟨T,w,a1,a2,zm5 (h9 p (zmg e1)) a3⟩⟩
theorem zm6 {H H0:Hp}{v:V}{ps:List (Int × Cr)}(h9:∀ p∈ps,∀ d∈p.2.deeds,zeH d) (n:New H0 H (.lst (ps.map zgW)) v):∃ pl,v=.ref pl∧H0 pl=none∧zcv H pl ps:=by
 obtain⟨pl,vs,fp,rfl,p0,p1,pr,_⟩:=New.lso n
 exact⟨pl,rfl,p0,vs,p1,zkj h9 pr⟩
def crBy (ps:List (Int × Cr)) (m:Int):Cr:=(ps.lookup m).getD ⟨[],[],[],[]⟩
theorem zm7:∀ {ps:List (Int × Cr)}{i:Nat}{n:Int}{c:Cr},(ps.map (·.1)).Nodup→ps[i]?=some (n,c)→crBy ps n=c
 | [],i,n,c,_,e=>by simp at e
 | (m,d)::ps,0,n,c,_,e=>by
  simp only[List.getElem?_cons_zero,Option.some.injEq,Prod.mk.injEq] at e
  obtain⟨rfl,rfl⟩:=e
  simp[crBy,List.lookup]
 | (m,d)::ps,i+1,n,c,nd,e=>by
  have e':ps[i]?=some (n,c):=by simpa using e
  have nd':=List.nodup_cons.mp (show (m::ps.map (·.1)).Nodup from nd)
  have ne:¬ n=m:=λz=>nd'.1 (by rw[←z];exact zmm.mpr ⟨(n,c),zmg e',rfl⟩)
  have ih:=zm7 nd'.2 e'
  unfold crBy at ih ⊢
  rw[List.lookup_cons,show (n == m)=false by simpa using ne]
  exact ih
def zcc (numbers kinds:List Int) (cells:Nat→List Int) (many:Nat):List (Int × Cr):=(List.range many).map λk=>(numbers.getD k 0,crOf numbers kinds cells k)
theorem zjo (numbers kinds:List Int) (cells:Nat→List Int) (many:Nat):(zcc numbers kinds cells many).map zgW=(List.range many).map λk=>D.tup [.int (numbers.getD k 0),crD (crOf numbers kinds cells k)]:=by
 unfold zcc
 rw[List.map_map]
 rfl
theorem zlB {l:List Int} : (List.range l.length).map (λk=>l.getD k 0)=l:=by
 refine List.ext_getElem (by simp) λi h1 h2=>?_
 simp[List.getD,h2]
structure PsOk (numbers kinds:List Int) (ps:List (Int × Cr)):Prop where
 nums:ps.map (·.1)=numbers
 nd:numbers.Nodup
 nb:∀ n∈numbers,0≤n∧n<100
 rt:∀ p∈ps,p.2.Rt
 calls:∀ p∈ps,∀ m∈zaD p.2.deeds,m∈numbers
 kl:kinds.length=numbers.length
 oath:∀ (i:Nat) p,ps[i]?=some p→p.2.needs=(zbM (kinds.getD i 0)).1∧p.2.leaves=(zbM (kinds.getD i 0)).2
theorem PsOk.len {numbers kinds:List Int}{ps:List (Int × Cr)}(h:PsOk numbers kinds ps):ps.length=numbers.length:=by rw[←h.nums,zlm]
theorem PsOk.ndp {numbers kinds:List Int}{ps:List (Int × Cr)}(h:PsOk numbers kinds ps):(ps.map (·.1)).Nodup:=by rw[h.nums];exact h.nd
theorem PsOk.get {numbers kinds:List Int}{ps:List (Int × Cr)}(h:PsOk numbers kinds ps) {i:Nat}{p:Int × Cr}(e:ps[i]?=some p):numbers[i]?=some p.1∧crBy ps p.1=p.2:=by
 refine⟨by rw[←h.nums,zgm,e];rfl,zm7 (i:=i) h.ndp (by rw[e])⟩
theorem PsOk.ho {numbers kinds:List Int}{ps:List (Int × Cr)}(h:PsOk numbers kinds ps):∀ (i:Nat) m c,numbers[i]?=some m→kinds[i]?=some c→zeN (crBy ps) m=zbM c:=λi m c e1 e2=>by
 have hi:i<ps.length:=by rw[h.len];exact (zge.mp e1).1
 have ep:ps[i]?=some ps[i]:=List.getElem?_eq_getElem hi
 obtain⟨g1,g2⟩:=h.get ep
 rw[e1] at g1
 injection g1 with g1
 obtain⟨o1,o2⟩:=h.oath i _ ep
 have ek:kinds.getD i 0=c:=by rw[List.getD_eq_getElem?_getD,e2];rfl
 unfold zeN
 rw[g1,g2,o1,o2,ek]
theorem HPs.ps {many size:Int}{numbers kinds:List Int}{cells:Nat→List Int}(h:HPs many size numbers kinds cells) (hm:1≤many) (hs:size≤8):PsOk numbers kinds (zcc numbers kinds cells many.toNat) where
 nums:=by
  unfold zcc
  rw[List.map_map,←h.n]
  exact zlB
 nd:=h.nd
 nb:=h.nb
 rt:=λp hp=>by
  obtain⟨k,_,rfl⟩:=zmm.mp hp
  exact h.rt hm hs k
 calls:=λp hp=>by
  obtain⟨k,_,rfl⟩:=zmm.mp hp
  exact h.calls hm k
 kl:=by rw[h.k,h.n]
 oath:=λi p e=>by
  unfold zcc at e
  rw[zgm] at e
  obtain⟨k,hk,rfl⟩:=zme.mp e
  have:k=i:=by
   rw[List.getElem?_range (by have:=(zge.mp hk).1;simpa using this)] at hk
   exact (Option.some.inj hk).symm
  subst this
  exact⟨rfl,rfl⟩
end My

namespace My
open PySem L2 PyProof.Rows
end My

namespace My
open PySem L2 PyProof.Rows
section
variable {ka ia sa:Addr}{k j:Int}{ev ew:V}
end
section
variable {cC:Addr}{H H':Hp}{ka:Addr}{ks:List Int}{cr:Int→Cr}{kfp:List Addr}
end
section
variable {cR cF cC:Addr}{H H':Hp}{r ka ia sa:Addr}{ks:List Int}{cr:Int→Cr}{fas:List Fa}{s:Rs}{kfp:List Addr}
variable {p ha aa:Addr}{f:Fm}{st:List Fm}
end
theorem zpY {α:Type}{xs:List α}{v:α} : atI (xs++[v]) (-1)=some v:=by
 unfold atI ixN
 rw[if_neg (by omega),if_pos (by simp;omega),show ((-1:Int)+((xs++[v]).length:Nat)).toNat=xs.length by simp;omega]
 simp
end My

namespace L2
open PySem PySem.Spec PySem.Calls PyProof.Rows PySem.W
theorem i_bm0 {K:Fg}{σ:St}{H:Hp}{Q:VK}{T:String}{r:V→List V→Hp→VK→Prop}{to:TE}(h:to σ H λx H1=>tyV K T x H1∧r x [] H1 Q):tBM0 K T r to σ H Q:=h
section
variable {X:Cx}{CX:CXT}{C:Addr}{ps:List Str}{j k:Nat}{sp:Sp}{E:XK}{x m:Str}{o e:Expr}{es:List Expr}{ta te:TE}{t:TA}{p pos apos:Pos}
end
end L2
namespace My
open PySem L2 PyProof.Rows
end My

namespace My
open PySem L2 PyProof.Rows
section
variable {H H':Hp}{da ra sk:Addr}{ks:List Int}{cr:Int→Cr}{fas:List Fa}{st:List Fm}{ins:List Int}{lfp:List Addr}{f:Fm}{p ha aa:Addr}
end
end My

namespace My
open PySem L2 PyProof.Rows
section
variable {cR cF cC:Addr}{H H' H0:Hp}{r ka ia sa:Addr}{ks:List Int}{cr:Int→Cr}{fas:List Fa}{s:Rs}{kfp:List Addr}{S:List Addr}
end
end My
namespace My
open PySem L2 PyProof.Rows
end My

namespace My
open L2 PySem
def zlC (r:Int × List Int):D:=.tup [.int r.1,nums r.2]
def zjp (gs:List Du) (rs:List (Int × List Int)):Bool:=decide (gs.length=rs.length) && (List.zipWith (λg r=>zeL g.1 g.2 r.1 r.2) gs rs).all id
def zhj (gs:List Du):List (Int × List Int):=gs.map λg=>(za3 g.1 g.2).getD (0,[])
theorem zpZ {gs:List Du}(h:∀ g∈gs,found g):(gs.map λg=>rowD (za3 g.1 g.2))=(zhj gs).map zlC:=by
 unfold zhj
 rw[List.map_map]
 refine List.map_congr_left λg hg=>?_
 have:=h g hg
 unfold found at this
 cases e:za3 g.1 g.2 with
 | none=>rw[e] at this;cases this
 | some r=>obtain⟨w,ws⟩:=r;show rowD (some (w,ws))=zlC ((za3 g.1 g.2).getD (0,[]));rw[e];rfl
theorem zjq {gs:List Du}(h:∀ g∈gs,found g) {i:Nat}{g:Du}(e:gs[i]?=some g):∃ r,(zhj gs)[i]?=some r∧za3 g.1 g.2=some r:=by
 have:=h g (zmg e)
 unfold found at this
 cases e2:za3 g.1 g.2 with
 | none=>rw[e2] at this;cases this
 | some r=>exact⟨r,by unfold zhj;rw[zgm,e];show some ((za3 g.1 g.2).getD (0,[]))=_;rw[e2];rfl,rfl⟩
theorem zjr {gs:List Du} : (zhj gs).length=gs.length:=by unfold zhj;simp
def mdB (ws:List Int):Int→V→Prop:=λm v=>v=.bl (decide (m∈ws))
end My

namespace My
open L2 PySem
section
variable {H:Hp}{pl T:Addr}{n:Int}{u:V}{r:List V}{o:HO}
theorem zkk (hp:H pl=some (.lst (.ref T::r))) {b:Addr}{l:List Int}(h:H b=some (.lst (l.map V.int))):b≠pl:=by
 rintro rfl
 rw[hp] at h
 cases l with
 | nil=>simp at h
 | cons x l=>simp at h
theorem zkl (hp:H pl=some (.lst (.ref T::r))) (hT:H T=some (.tup [.int n,u])) {b:Addr}{vs:List V}(h:H b=some (.lst vs)) (k:∀ x,vs[0]?=some x→∃ a xs,x=.ref a∧H a=some (.lst xs)):b≠pl:=by
 rintro rfl
 rw[hp] at h
 cases h
 obtain⟨a,xs,e,h2⟩:=k _ rfl
 cases e
 rw[hT] at h2;cases h2
theorem zk8 (hp:H pl=some (.lst (.ref T::r))) {b:Addr}{xs:List V}(h:H b=some (.tup xs)):b≠pl:=by
 rintro rfl
 rw[hp] at h;cases h
theorem zm8 {ka:Addr}{ls:List (List Int)}(h:Ls H ka ls):∃ vs,H ka=some (.lst vs)∧∀ x,vs[0]?=some x→∃ a xs,x=.ref a∧H a=some (.lst xs):=by
 obtain⟨as,h1,h2,h3⟩:=h
 refine⟨_,h1,λx e=>?_⟩
 rw[zgm] at e
 obtain⟨a,ha,rfl⟩:=zme.mp e
 have hl:0<ls.length:=by rw[←h2];exact (zge.mp ha).1
 exact⟨a,_,rfl,h3 0 a _ ha (List.getElem?_eq_getElem hl)⟩
theorem zkm (hp:H pl=some (.lst (.ref T::r))) (hT:H T=some (.tup [.int n,u])) {ka:Addr}{ls:List (List Int)}(h:Ls H ka ls):Ls (upd H pl o) ka ls:=by
 obtain⟨vs,e,k⟩:=zm8 h
 have ne:=zkl hp hT e k
 obtain⟨as,h1,h2,h3⟩:=h
 refine⟨as,by rw[zaq ne];exact h1,h2,λi a l e1 e2=>?_⟩
 have:=h3 i a l e1 e2
 rw[zaq (zkk hp this)];exact this
theorem zm9 (hp:H pl=some (.lst (.ref T::r))) {d:D}{v:V}(h:zcE H d v):zcE (upd H pl o) d v:=by
 obtain⟨t,xs,ds,h1,h2,h3,h4,h5,h6⟩:=h
 refine⟨t,xs,ds,h1,h2,by rw[zaq (zk8 hp h3)];exact h3,h4,h5,λi dd x e1 e2=>?_⟩
 rcases h6 i dd x e1 e2 with h | h | ⟨b,l,a1,a2,a3⟩ | ⟨b,i,j,a1,a2,a3⟩
 ·exact .inl h
 ·exact .inr (.inl h)
 ·exact .inr (.inr (.inl ⟨b,l,a1,a2,by rw[zaq (zkk hp a3)];exact a3⟩))
 ·exact .inr (.inr (.inr ⟨b,i,j,a1,a2,by rw[zaq (zk8 hp a3)];exact a3⟩))
theorem zp0 (d:Dd):∃ s ds,toD d=.tup (.str s::ds):=by cases d <;> exact⟨_,_,rfl⟩
theorem Cr.at.updP (hp:H pl=some (.lst (.ref T::r))) (hT:H T=some (.tup [.int n,u])) {c:Cr}{v:V}(h:c.at H v):c.at (upd H pl o) v:=by
 obtain⟨pa,y1,y2,a3,a4,dvs,nvs,rfl,h1,h2,h3,h4,h5,h6,h7⟩:=h
 have npa:pa≠pl:=zkl hp hT h1 λx e=>by
  cases e
  obtain⟨vs,e,_⟩:=zm8 h2
  exact⟨y1,vs,rfl,e⟩
 have n3:a3≠pl:=by
  rintro rfl
  rw[hp] at h4
  cases h4
  have hl:0<c.deeds.length:=by rw[h6.1];simp
  obtain⟨t,xs,ds,e1,e2,e3,e4,_,e6⟩:=h6.2 0 _ _ (List.getElem?_eq_getElem hl) rfl
  obtain⟨s,ds',e⟩:=zp0 c.deeds[0]
  rw[e] at e1
  cases e1
  cases e2
  rw[hT] at e3
  cases e3
  have:=e6 0 _ _ rfl rfl
  rcases this with ⟨i,z,_⟩ | ⟨s,_,z⟩ | ⟨b,l,z,_⟩ | ⟨b,i,j,z,_⟩ <;> cases z
 have n4:a4≠pl:=zkl hp hT h5 λx e=>by
  have hl:0<c.notes.length:=by rw[h7.1];exact (zge.mp e).1
  obtain⟨a,rfl,h⟩:=h7.2 0 _ x (List.getElem?_eq_getElem hl) e
  obtain⟨vs,e,_⟩:=zm8 h
  exact⟨a,vs,rfl,e⟩
 exact⟨pa,y1,y2,a3,a4,dvs,nvs,rfl,by rw[zaq npa];exact h1,zkm hp hT h2,zkm hp hT h3,by rw[zaq n3];exact h4,by rw[zaq n4];exact h5,h6.mono λ_ _ z=>zm9 hp z,h7.mono λ_ _ ⟨a,e,z⟩=>⟨a,e,zkm hp hT z⟩⟩
end
theorem zcv.put {H:Hp}{pl:Addr}{ps:List (Int × Cr)}{vs:List V}(hpl:H pl=some (.lst vs)) (h:R2 (λp v=>∃ T w,v=.ref T∧H T=some (.tup [.int p.1,w])∧p.2.at H w) ps vs) {i:Nat}{n:Int}{c:Cr}{T:Addr}{w:V}(hT:H T=some (.tup [.int n,w])) (hc:c.at H w) (hi:i<ps.length) :
  zcv (upd H pl (.lst (vs.set i (.ref T)))) pl (ps.set i (n,c)):=by
 have hl:=h.1
 cases vs with
 | nil=>rw[hl] at hi;simp at hi
 | cons v0 r=>
 obtain⟨T0,w0,rfl,hT0,_⟩:=h.2 0 _ v0 (List.getElem?_eq_getElem (by omega)) rfl
 refine⟨_,zad,⟨by rw[List.length_set,List.length_set];exact hl,λj p x e1 e2=>?_⟩⟩
 by_cases z:i=j
 ·subst z
  rw[List.getElem?_set_self hi] at e1
  rw[List.getElem?_set_self (by omega)] at e2
  cases e1;cases e2
  exact⟨T,w,rfl,by rw[zaq (zk8 hpl hT)];exact hT,Cr.at.updP hpl hT0 hc⟩
 ·rw[List.getElem?_set_ne z] at e1 e2
  obtain⟨T1,w1,a1,a2,a3⟩:=h.2 j p x e1 e2
  exact⟨T1,w1,a1,by rw[zaq (zk8 hpl a2)];exact a2,Cr.at.updP hpl hT0 a3⟩
def one9:List Int:=[1,0,0,0,0,0,0,0,0]
def NOk (l:List Int):Prop:=l.length=9∧zct [1,2,3,4,7,8] l=true
def LOk (l:List Int):Prop:=l.length=9∧zct [1,2,3,4] l=true
theorem Cr.Rt.lines {c:Cr}(h:c.Rt):(∀ l∈c.needs,NOk l)∧∀ l∈c.leaves,LOk l:=by
 have r:zc4 c.needs c.leaves c.deeds c.notes=true:=h.r
 simp only[zc4,zgI,zdG,Bool.and_eq_true,decide_eq_true_eq,List.all_map,List.all_eq_true,Function.comp_apply,id_eq] at r
 exact⟨λl hl=>⟨h.nine.n9 l hl,r.1.1.2 l hl⟩,λl hl=>⟨h.nine.l9 l hl,r.1.2.2 l hl⟩⟩
theorem Cr.Rt.oath {c:Cr}(h:c.Rt) {nds lvs:List (List Int)}(h1:nds.length≤2) (h2:∀ l∈nds,NOk l) (h3:lvs.length≤2) (h4:∀ l∈lvs,LOk l):({c with needs:=nds,leaves:=lvs} : Cr).Rt:=by
 refine⟨⟨λl hl=>(h2 l hl).1,λl hl=>(h4 l hl).1,h.nine.d9,h.nine.o9,by show nds.length≤100;omega,by show lvs.length≤100;omega,h.nine.d,h.nine.o⟩,?_⟩
 have r:zc4 c.needs c.leaves c.deeds c.notes=true:=h.r
 show zc4 nds lvs c.deeds c.notes=true
 unfold zc4 at r ⊢
 rw[Bool.and_eq_true] at r ⊢
 refine⟨?_,r.2⟩
 simp only[zgI,zdG,Bool.and_eq_true,decide_eq_true_eq,List.all_map,List.all_eq_true,Function.comp_apply,id_eq]
 exact⟨⟨by omega,λl hl=>(h2 l hl).2⟩,by omega,λl hl=>(h4 l hl).2⟩
structure FineB (B:Int) (c:Cr):Prop where
 rt:c.Rt
 l1:1≤c.leaves.length
 hd:∀ l∈c.needs,l.headD 0≤B
def LsR (H:Hp) (as:List Addr) (ls:List (List Int)):Prop:=as.length=ls.length∧∀ (i:Nat) a l,as[i]?=some a→ls[i]?=some l→H a=some (.lst (l.map V.int))
theorem LsR.ls {H:Hp}{ka:Addr}{as:List Addr}{ls:List (List Int)}(h:LsR H as ls) (e:H ka=some (.lst (as.map V.ref))):Ls H ka ls:=⟨as,e,h.1,h.2⟩
theorem LsR.frame {H H':Hp}{as:List Addr}{ls:List (List Int)}(h:LsR H as ls) (k:∀ a∈as,∀ o,H a=some o→H' a=some o):LsR H' as ls:=⟨h.1,λi a l e1 e2=>k a (zmg e1) _ (h.2 i a l e1 e2)⟩
theorem LsR.erase {H:Hp}{as:List Addr}{ls:List (List Int)}{k:Nat}(h:LsR H as ls):LsR H (as.eraseIdx k) (ls.eraseIdx k):=by
 refine⟨by rw[List.length_eraseIdx,List.length_eraseIdx,h.1],λi a l e1 e2=>?_⟩
 rw[List.getElem?_eraseIdx] at e1 e2
 split at e1
 ·rename_i z;rw[if_pos z] at e2;exact h.2 i a l e1 e2
 ·rename_i z;rw[if_neg z] at e2;exact h.2 (i+1) a l e1 e2
theorem LsR.rev {H:Hp}{as:List Addr}{ls:List (List Int)}(h:LsR H as ls):LsR H as.reverse ls.reverse:=by
 refine⟨by rw[List.length_reverse,List.length_reverse,h.1],λi a l e1 e2=>?_⟩
 have hi:i<as.length:=by have:=(zge.mp e1).1;rwa [List.length_reverse] at this
 rw[List.getElem?_reverse hi] at e1
 rw[List.getElem?_reverse (by rw[←h.1];exact hi),←h.1] at e2
 exact h.2 _ a l e1 e2
theorem LsR.set {H:Hp}{as:List Addr}{ls:List (List Int)}{k:Nat}{b:Addr}{l:List Int}(h:LsR H as ls) (hb:H b=some (.lst (l.map V.int))):LsR H (as.set k b) (ls.set k l):=by
 refine⟨by rw[List.length_set,List.length_set,h.1],λi a m e1 e2=>?_⟩
 rw[List.getElem?_set] at e1 e2
 split at e1
 ·rename_i z
  rw[if_pos z] at e2
  split at e1
  ·split at e2
   ·cases e1;cases e2;exact hb
   ·cases e2
  ·cases e1
 ·rename_i z;rw[if_neg z] at e2;exact h.2 i a m e1 e2
theorem LsR.snoc {H:Hp}{as:List Addr}{ls:List (List Int)}{b:Addr}{l:List Int}(h:LsR H as ls) (hb:H b=some (.lst (l.map V.int))):LsR H (as++[b]) (ls++[l]):=by
 refine⟨by rw[List.length_append,List.length_append,h.1];rfl,λi a m e1 e2=>?_⟩
 rw[List.getElem?_append] at e1 e2
 rw[h.1] at e1
 split at e1
 ·rename_i z;rw[if_pos z] at e2;exact h.2 i a m e1 e2
 ·rename_i z
  rw[if_neg z] at e2
  cases e:i - ls.length with
  | zero=>rw[e] at e1 e2;cases e1;cases e2;exact hb
  | succ j=>rw[e] at e1;simp at e1
theorem LsR.out {H0 H:Hp}{v:V}{ls:List (List Int)}(h:New H0 H (.lst (ls.map nums)) v):∃ ka as,v=.ref ka∧H ka=some (.lst (as.map V.ref))∧LsR H as ls∧(ka::as).Nodup∧∀ b∈ka::as,H0 b=none:=by
 obtain⟨fp,h,nd,hf⟩:=h
 unfold RepF at h
 obtain⟨a,xs,r,rfl,rfl,h1,h2⟩:=h
 obtain⟨rfl,e2,e3⟩:=zak.lines h2
 refine⟨a,r,rfl,h1,⟨e2,λi b l q1 q2=>?_⟩,nd,hf⟩
 obtain⟨l',z1,z2⟩:=e3 i b q1
 rw[q2] at z1;cases z1
 exact z2
theorem one_N:NOk one9:=⟨rfl,by decide +kernel⟩
theorem one_L:LOk one9:=⟨rfl,by decide +kernel⟩
theorem NOk.up {l:List Int}(h:NOk l) {B:Int}(hb:l.headD 0≤B) (h9:B<1000000000):NOk (l.set 0 (l.headD 0+1)):=by
 obtain⟨h1,h2⟩:=h
 match l,h1 with
 | [a,b,c,d,e,f,g,h,i],_=>
 refine⟨rfl,?_⟩
 simp[zct,zdP,btw] at h2 ⊢
 simp at hb
 omega
structure OthOk (B:Int) (nds lvs:List (List Int)):Prop where
 n2:nds.length≤2
 n:∀ l∈nds,NOk l∧l.headD 0≤B
 l1:1≤lvs.length
 l2:lvs.length≤2
 l:∀ l∈lvs,LOk l
theorem zgX {lv:List (List Int)}{nt:List (List (List Int))}{o o':Oath} : ∀ (ds:List Dd) (p:Nat),(∀ m∈zaD ds,o m=o' m)→zcU lv nt o ds p=zcU lv nt o' ds p
 | [],_,_=>rfl
 | d::ds,p,h=>by
  have ih:=zgX (lv:=lv) (nt:=nt) ds (p+1) λm hm=>h m (by
   unfold zaD at hm ⊢
   rw[List.filterMap_cons]
   split
   ·exact hm
   ·exact List.mem_cons_of_mem _ hm)
  unfold zcU
  rw[ih]
  congr 1
  cases d with
  | call m g0 g1 t0 t1=>
   have e:=h m (by unfold zaD;rw[List.filterMap_cons];exact List.mem_cons_self)
   simp only[zbj,e]
  | _=>rfl
theorem Cr.gs_cong {c:Cr}{cr cr':Int→Cr}(h:∀ m∈zaD c.deeds,(cr m).needs=(cr' m).needs∧(cr m).leaves=(cr' m).leaves):c.gs cr=c.gs cr':=by
 unfold Cr.gs zeV
 rw[zgX (o:=zeN cr) (o':=zeN cr') c.deeds 0 λm hm=>by unfold zeN;rw[(h m hm).1,(h m hm).2]]
def WsOk (cr:Int→Cr) (ws:List Int):Prop:=∀ m∈ws,∀ g∈(cr m).gs cr,found g
theorem WsOk.set {ks:List Int}{cr:Int→Cr}{ws ws':List Int}{n:Int}{c':Cr}(h:WsOk cr ws) (k:∀ m∈ws',m∈ks∧m∈ws∧m≠n∧(¬ ((cr n).needs=c'.needs∧(cr n).leaves=c'.leaves)→n∉zcg ks cr m)):WsOk (setC cr n c') ws':=λm hm=>by
 obtain⟨k1,k2,k3,k4⟩:=k m hm
 have e:setC cr n c' m=cr m:=by unfold setC;rw[if_neg k3]
 rw[e,←Cr.gs_cong (cr:=cr) λj hj=>?_]
 ·exact h m k2
 ·unfold setC
  split
  ·rename_i z
   rw[z] at hj ⊢
   by_cases w:(cr n).needs=c'.needs∧(cr n).leaves=c'.leaves
   ·exact w
   ·have:=k4 w
    unfold zcg at this
    rw[if_pos k1] at this
    exact absurd hj this
  ·exact⟨rfl,rfl⟩
theorem zjs (cr:Int→Cr) (n:Int):setC cr n (cr n)=cr:=by
 funext m
 unfold setC
 split
 ·rename_i z;rw[z]
 ·rfl
theorem zjt {w ws:List Int}{kvs:List (Key × V)}{ks:List Int}{n:Int}{b:Bool}(h:KVs (mdB w) kvs ks) (hn:n∈ks) (hb:b=decide (n∈ws)) (hm:∀ m∈ks,m≠n→(m∈w↔m∈ws)):KVs (mdB ws) (putK kvs (.inl n) (.bl b)) ks:=by
 have h1:KVs (λm v=>m≠n→mdB ws m v) kvs ks:=⟨h.1,h.2.1,λm mk=>by
  obtain⟨v,e1,e2⟩:=h.2.2 m mk
  refine⟨v,e1,λne=>?_⟩
  unfold mdB at e2 ⊢
  rw[e2]
  congr 1
  exact Bool.eq_iff_iff.mpr (by rw[decide_eq_true_eq,decide_eq_true_eq];exact hm m mk ne)⟩
 have:=h1.put' (m:=n) (v:=.bl b) (P':=mdB ws) (by unfold mdB;rw[hb]) (λk v ne q=>q ne)
 rw[if_pos hn] at this
 exact this
structure PsK (bd:Int) (ks:List Int) (cr:Int→Cr) (ps:List (Int × Cr)):Prop where
 mem:∀ m,m∈ks↔m∈ps.map (·.1)
 nd:(ps.map (·.1)).Nodup
 cr:∀ p∈ps,cr p.1=p.2
 fine:∀ p∈ps,FineB bd p.2
 cl:∀ p∈ps,∀ m∈zaD p.2.deeds,m∈ps.map (·.1)
 nb:∀ m∈ps.map (·.1),0≤m∧m≤99
 few:ps.length≤3
theorem PsK.set {bd bd':Int}{ks ks':List Int}{cr:Int→Cr}{ps:List (Int × Cr)}(h:PsK bd ks cr ps) (le:bd≤bd') {i:Nat}{n:Int}{c c':Cr}(e:ps[i]?=some (n,c)) (hm:∀ m,m∈ks'↔m∈ps.map (·.1)) (hf:FineB bd' c') (hc:∀ m∈zaD c'.deeds,m∈ps.map (·.1)):PsK bd' ks' (setC cr n c') (ps.set i (n,c')):=by
 have ek:(ps.set i (n,c')).map (·.1)=ps.map (·.1):=by
  rw[List.map_set]
  have:(ps.map (·.1))[i]?=some n:=by rw[zgm,e];rfl
  obtain⟨hi,ei⟩:=zge.mp this
  show (ps.map (·.1)).set i n=_
  rw[←ei,List.set_getElem_self]
 have sp:∀ p∈ps.set i (n,c'),p=(n,c')∨p∈ps∧p.1≠n:=λp hp=>by
  obtain⟨j,ej⟩:=List.getElem?_of_mem hp
  by_cases z:i=j
  ·subst z
   rw[List.getElem?_set_self (zge.mp e).1] at ej
   cases ej;exact .inl rfl
  ·rw[List.getElem?_set_ne z] at ej
   refine .inr ⟨zmg ej,λw=>z ?_⟩
   refine (List.getElem?_inj (l:=ps.map (·.1)) (by rw[zlm];exact (zge.mp e).1) h.nd).mp ?_
   rw[zgm,zgm,e,ej]
   show some n=some p.1
   rw[w]
 refine⟨λm=>by rw[ek];exact hm m,by rw[ek];exact h.nd,λp hp=>?_,λp hp=>?_,λp hp=>?_,by rw[ek];exact h.nb,by rw[List.length_set];exact h.few⟩
 ·rcases sp p hp with rfl | ⟨z,w⟩
  ·unfold setC;rw[if_pos rfl]
  ·unfold setC;rw[if_neg w];exact h.cr p z
 ·rcases sp p hp with rfl | ⟨z,w⟩
  ·exact hf
  ·have:=h.fine p z
   exact⟨this.rt,this.l1,λl hl=>by have:=this.hd l hl;omega⟩
 ·rw[ek]
  rcases sp p hp with rfl | ⟨z,w⟩
  ·exact hc
  ·exact h.cl p z
theorem zkn {gs:List Du}(hf:∀ g∈gs,zfj g) (h:∀ g∈gs,found g):zjp gs (zhj gs)=true:=by
 unfold zjp
 rw[Bool.and_eq_true,decide_eq_true_eq,List.all_eq_true]
 refine⟨by rw[zjr],λb hb=>?_⟩
 obtain⟨i,hi⟩:=List.getElem?_of_mem hb
 rw[List.getElem?_zipWith] at hi
 cases e:gs[i]? with
 | none=>rw[e] at hi;cases hi
 | some g=>
  obtain⟨r,er,es⟩:=zjq h e
  rw[e,er] at hi
  cases hi
  obtain⟨w,ws⟩:=r
  exact (zhJ es).2.2
theorem zdA {cH cC:Addr}{H H':Hp}{h la va ma:Addr}{ks vs:List Int}{cr:Int→Cr}{fp:List Addr}{kvs:List (Key × V)}(A:HAt cH cC H h la va ks cr vs fp) (hm:H ma=some (.dK kvs)) (n1:ma≠la) (n2:ma≠va) (o:OffA [ma] H H'):HAt cH cC H' h la va ks cr vs fp:=
 A.frame (λb xs e=>o b _ (λz=>by rw[zms.mp z,hm] at e;cases e) e) λb hb u e=>o b u (λz=>by
  have z:=zms.mp z
  simp only[List.mem_cons] at hb
  rcases hb with w | w | w | w
  ·obtain⟨dx,e'⟩:=A.ins
   rw[←w,z,hm] at e';cases e'
  ·exact n1 (z.symm.trans w)
  ·exact n2 (z.symm.trans w)
  ·obtain⟨o',e',nd⟩:=A.has b w
   rw[z,hm] at e';cases e'
   exact nd _ rfl) e
theorem zko {ks:List Int}{cr:Int→Cr}{ws ws':List Int}{n:Int}{c':Cr}(nk:n∈ks) (sub:∀ m∈ws,m∈ks) (wk:WsOk cr ws) (h:∀ m,m∈ws'↔m∈ws∧m≠n∧(n∈ks→¬ ((cr n).needs=c'.needs∧(cr n).leaves=c'.leaves)→n∉zcg ks cr m)) :
  n∉ws'∧WsOk (setC cr n c') ws'∧((cr n).needs=c'.needs∧(cr n).leaves=c'.leaves→∀ m,m≠n→(m∈ws↔m∈ws'))∧(¬ ((cr n).needs=c'.needs∧(cr n).leaves=c'.leaves)→∀ m,m≠n→(m∈ws'↔m∈ws∧n∉zcg ks cr m)):=by
 refine⟨λz=>((h n).mp z).2.1 rfl,wk.set (ks:=ks) λm hm=>?_,λso m ne=>?_,λso m ne=>?_⟩
 ·obtain⟨h1,h2,h3⟩:=(h m).mp hm
  exact⟨sub m h1,h1,h2,h3 nk⟩
 ·rw[h];exact⟨λz=>⟨z,ne,λ_ w=>absurd so w⟩,λz=>z.1⟩
 ·rw[h];exact⟨λz=>⟨z.1,z.2.2 nk so⟩,λz=>⟨z.1,ne,λ_ _=>z.2⟩⟩
theorem zp1 {α:Type}{P:α→V→Prop}{as:List α}{xs:List V}{a:α}{x:V}(h:R2 P as xs) (q:P a x):R2 P (as.dropLast++[a]) (xs.dropLast++[x]):=by
 refine⟨by simp[h.1],λi b y e1 e2=>?_⟩
 rw[List.getElem?_append] at e1 e2
 have hl:as.dropLast.length=xs.dropLast.length:=by simp[h.1]
 rw[hl] at e1
 split at e1
 ·rename_i z
  rw[if_pos z] at e2
  rw[List.length_dropLast] at z
  rw[List.getElem?_dropLast,if_pos (by rw[h.1];exact z)] at e1
  rw[List.getElem?_dropLast,if_pos z] at e2
  exact h.2 i b y e1 e2
 ·rename_i z
  rw[if_neg z] at e2
  cases e:i - xs.dropLast.length with
  | zero=>rw[e] at e1 e2;cases e1;cases e2;exact q
  | succ j=>rw[e] at e1;simp at e1
def zih (ds:List Dd):List Dd:=ds.dropLast++[.hold one9]
theorem zju {ds:List Dd}(h:1≤ds.length):(zih ds).length=ds.length:=by unfold zih;simp;omega
theorem zgY {ds:List Dd}{d:Dd}(h:d∈zih ds):d∈ds∨d=.hold one9:=by
 unfold zih at h
 rcases zma.mp h with z | z
 ·exact .inl ((List.dropLast_subset _) z)
 ·exact .inr (zms.mp z)
theorem zjv {ds:List Dd} : ∀ m∈zaD (zih ds),m∈zaD ds:=λm hm=>by
 unfold zaD at hm ⊢
 obtain⟨d,hd,e⟩:=List.mem_filterMap.mp hm
 rcases zgY hd with z | z
 ·exact List.mem_filterMap.mpr ⟨d,z,e⟩
 ·rw[z] at e;cases e
theorem zhN {bd:Int}{c:Cr}(h:FineB bd c):FineB (bd+1) {c with deeds:=zih c.deeds}:=by
 have r:=h.rt
 have d1:=r.parts.2.2.1.1
 refine⟨⟨⟨r.nine.n9,r.nine.l9,λe he=>?_,r.nine.o9,r.nine.n,r.nine.l,by show (zih c.deeds).length≤100;rw[zju d1];exact r.nine.d,r.nine.o⟩,?_⟩,h.l1,λl hl=>by have:=h.hd l hl;omega⟩
 ·rcases zgY he with z | z
  ·exact r.nine.d9 e z
  ·rw[z];rfl
 ·have rr:zc4 c.needs c.leaves c.deeds c.notes=true:=r.r
  show zc4 c.needs c.leaves (zih c.deeds) c.notes=true
  unfold zc4 zfA zfB at rr ⊢
  rw[zju d1]
  simp only[Bool.and_eq_true,List.all_map,List.all_eq_true,Function.comp_apply,id_eq] at rr ⊢
  refine⟨rr.1,⟨rr.2.1.1,λe he=>?_⟩,rr.2.2⟩
  rcases zgY he with z | z
  ·exact rr.2.1.2 e z
  ·rw[z];show zct [7,8] one9=true;decide +kernel
theorem zot (xs:List V):cutV xs none (some (-1))=xs.dropLast:=by
 unfold cutV
 rw[HT.sIx_none]
 show (xs.drop 0).take (HT.sIx xs.length xs.length (some (-1)) - 0)=_
 have:HT.sIx xs.length xs.length (some (-1))=xs.length - 1:=by
  show (if (-1:Int)<0 then ((-1:Int)+(xs.length:Int)).toNat else min (-1:Int).toNat xs.length)=_
  rw[if_pos (by decide)];omega
 rw[this,List.drop_zero,Nat.sub_zero,List.dropLast_eq_take]
theorem zp2 {K:Fg}{σ:L2.St}{H:Hp}{Q:VK}(q:∀ z H',Same H H'→H z=none→H' z=some (.lst (one9.map V.int))→Q (.ref z) H'):[V.int 1].length≤sizeLine∧∀ z1,H z1=none→tOp zmA (tLst (ze6 (tC (V.int 0)) tNil)) (tC (V.int 8)) σ (upd H z1 (.lst [V.int 1])) λy H2=>zlr K (.ref z1) y H2 Q:=by
 refine⟨zan (by simp),λz1 hz1=>?_⟩
 have r1:=zaf hz1 (.lst [V.int 1])
 refine⟨zan (by simp),λz2 hz2=>?_⟩
 have r2:=zaf hz2 (.lst [V.int 0])
 refine .inr ⟨z2,8,[.int 0],rfl,rfl,zad,by decide,by decide,by decide,λz3 hz3=>?_⟩
 rw[show (List.replicate (8:Int).toNat [V.int 0]).flatten=([0,0,0,0,0,0,0,0]:List Int).map V.int from rfl]
 have r3:=zaf hz3 (.lst (([0,0,0,0,0,0,0,0]:List Int).map V.int))
 refine zbz (r3 _ _ (r2 _ _ zad)) zad (zan (by simp)) λz4 hz4=>?_
 exact q z4 _ (r1.trans (r2.trans (r3.trans (zaf hz4 _)))) ((r1.trans (r2.trans r3)).free hz4) zad
end My

set_option compiler.extract_closed false
set_option maxHeartbeats 8000000
open PySem.W (mg_of nsIn findIn mg_none_of isFn keepIn excIn fnOf codeIn kia_one makesIn)
local macro_rules | `(tactic| walk_at "gs1") => `(tactic| first
  | (with_reducible first | refine L2.i_asg ?_ | refine L2.zpA ?_ | refine L2.i_ret ?_ | refine L2.zq3 ?_ | refine L2.zq4 ?_ | refine L2.i_ifK fun T kT U kU => ?_ | refine L2.i_if ?_ | refine L2.zq0 ?_ | refine L2.i_B ?_ | refine L2.i_bl ?_ | refine L2.iteT ?_ | refine L2.iteF ?_ | refine L2.iteNT ?_ | refine L2.iteNF ?_ | refine L2.zn1 ?_ | refine L2.i_bm ?_ | refine L2.i_bm0 ?_ | refine L2.zri ?_ | refine L2.i_fld ?_ | refine L2.zrj ?_ | refine L2.zpF ?_ | refine L2.zq8 ?_ | refine L2.i_orV ?_ | refine L2.i_notV ?_ | refine L2.i_and ?_ | refine L2.i_or ?_ | refine L2.i_not ?_ | refine L2.i_for ?_ | refine L2.zq9 ?_ | refine L2.zpB ?_ | refine L2.zra ?_ | refine L2.i_zip ?_ | refine L2.i_enum ?_ | refine L2.i_rev ?_ | refine L2.zrb ?_ | refine L2.i_rng2 ?_ | refine L2.i_sl ?_ | refine L2.zn2 ?_ | refine L2.zrc ?_ | refine L2.zpC ?_ | refine L2.i_par ?_ | refine L2.zrd ?_ | refine L2.zre ?_ | refine L2.i_c ?_ | refine L2.zpJ ?_ | refine L2.zrn ?_ | refine L2.zpK ?_ | refine L2.zoc ?_ | refine L2.i_op ?_ | refine L2.i_un ?_ | refine L2.zq1 ?_ | refine L2.i_nil ?_ | refine L2.zq2 ?_ | refine L2.zpL ?_ | refine L2.i_fs ?_ | refine L2.zpM ?_ | refine L2.i_din ?_ | refine L2.zob ?_ | refine L2.zro ?_ | refine L2.zrq ?_ | refine L2.zrr ?_ | refine L2.zpO ?_ | refine L2.zrt ?_ | refine L2.i_tru ?_ | refine L2.i_CB ?_ | refine L2.i_lst ?_ | refine L2.i_tup ?_ | refine L2.i_rI0 ?_ | refine L2.i_rU ?_ | refine L2.zpy ?_ | refine L2.i_eqI ?_ | refine L2.i_neI ?_ | refine L2.i_eqB ?_ | refine L2.i_neB ?_ | refine L2.i_eqS ?_ | refine L2.i_neS ?_)
  | ((with_reducible refine L2.zkO ?_ ?_); focus (first | exact Or.inl ⟨by omega, by omega⟩ | exact Or.inr ⟨by omega, by omega⟩))
  | ((with_reducible refine L2.i_mod ?_ ?_); focus omega)
  | ((with_reducible refine L2.zqY ?_ ?_ ?_); (focus omega); (focus omega))
  | ((with_reducible refine L2.i_pow ?_ ?_ ?_ ?_); (focus decide); (focus decide); (focus decide))
  | ((with_reducible refine L2.zqX (v := ?_) ?_ ?_); rotate_left; focus rfl)
  | with_reducible refine L2.goOn (by assumption) ?_)
local macro_rules | `(tactic| walk_at "go1") => `(tactic| first | with_reducible refine L2.zoY fun NX kN => ?_ | walk_at "gs1" | (refine L2.zqX (by rfl) ?_))
local macro_rules | `(tactic| walk_at "gs") => `(tactic| repeat (walk_at "gs1"))
local macro_rules | `(tactic| nofun) => `(tactic| walk_at "gs")
local macro_rules | `(tactic| walk_at "go") => `(tactic| repeat (walk_at "go1"))
local macro_rules | `(tactic| ac_rfl) => `(tactic| walk_at "go")
local macro_rules | `(tactic| walk_at "sc") => `(tactic| exact ⟨rfl, rfl, rfl, by decide +kernel, rfl, by decide +kernel, by decide +kernel⟩)
local macro_rules | `(tactic| walk_at "q") => `(tactic| ((try with_reducible refine L2.goOn (by assumption) ?_); with_reducible refine L2.zoY fun NX kN => ?_))
local macro_rules | `(tactic| walk_at "sm") => `(tactic| first | exact L2.sl rfl | exact L2.zan (by simp))
namespace My
open PySem L2 PyProof.Rows
section
open PySem PySem.Spec PySem.Calls PyProof.Rows PySem.W L2
theorem bA {K:Fg}(hA:((zBoo K).all id,zSee K)=(true,zSig)) (j:Nat) {b:Bool}(h:(zBoo K)[j]?=some b):b=true:=List.all_eq_true.mp (Prod.mk.inj hA).1 b (zmg h)
theorem eA {K:Fg}(hA:((zBoo K).all id,zSee K)=(true,zSig)) (j:Nat) {α:Type} [BEq α] [LawfulBEq α] {x y:α}(h:(zBoo K)[j]?=some (x == y)):x=y:=eq_of_beq (bA hA j h)
def fA {K:Fg}(hA:((zBoo K).all id,zSee K)=(true,zSig)) (i j:Nat) (a:Addr) (n q:Str) (d:Stmt) (h1:(zSee K)[i]?=some (L2.zaU K a)) (h2:zSig[i]?=some (gS n q d)) (h3:(zBoo K)[j]?=some (L2.zar K a q)):=L2.zru (n:=n) (ps:=zdU d) (b:=zcY d) (sc:=zai d) (Option.some.inj (h1.symm.trans ((congrArg (λl:List (Option L2.Sig)=>l[i]?) (Prod.mk.inj hA).2).trans h2))) (bA hA j h3)
end
theorem zp3:FSc ["i"] ["i"] (zai ziz):=by walk_at "sc"
theorem zet:FSc ["lines","weights","total","line","weight"] ["lines","weights"] (zai ze1):=by walk_at "sc"
theorem zjw:FSc ["line","eight","total"] ["line","eight"] (zai zf0):=by walk_at "sc"
theorem zfD:FSc ["self","needs","leaves","deeds","notes"] ["self","needs","leaves","deeds","notes"] (zai zbp):=by walk_at "sc"
theorem zgZ:FSc ["lines"] ["lines"] (zai zb4):=by walk_at "sc"
theorem zhk:FSc ["deed"] ["deed"] (zai zcj):=by walk_at "sc"
theorem zg0:FSc ["craft"] ["craft"] (zai zcG):=by walk_at "sc"
theorem zjx:FSc ["craft"] ["craft"] (zai zdc):=by walk_at "sc"
theorem zou:FSc ["craft"] ["craft"] (zai zhQ):=by walk_at "sc"
theorem zfk:FSc ["craft","needs_right"] ["craft"] (zai zdn):=by walk_at "sc"
theorem zeO:FSc ["deeds","count"] ["deeds"] (zai zck):=by walk_at "sc"
theorem zeP:FSc ["craft","as_many"] ["craft"] (zai zcl):=by walk_at "sc"
theorem zhl:FSc ["lines","nought_spots"] ["lines","nought_spots"] (zai zcm):=by walk_at "sc"
theorem zfl:FSc ["line","nought_spots","small"] ["line","nought_spots"] (zai zch):=by walk_at "sc"
theorem zfm:FSc ["deed","last_place","kind"] ["deed","last_place"] (zai zdo):=by walk_at "sc"
theorem zhm:FSc ["low","high"] ["low","high"] (zai zc5):=by walk_at "sc"
theorem zfn:FSc ["number","given","taken","hands"] ["number","given","taken"] (zai zdp):=by walk_at "sc"
theorem zfo:FSc ["hands"] ["hands"] (zai zby):=by walk_at "sc"
theorem zii:FSc ["hand"] ["hand"] (zai zdq):=by walk_at "sc"
theorem zg1:FSc ["number"] ["number"] (zai zcH):=by walk_at "sc"
theorem zlD:FSc ["low","number","high"] ["low","number","high"] (zai ze2):=by walk_at "sc"
theorem zjy:FSc ["craft","place","eight"] ["craft","place"] (zai zex):=by walk_at "sc"
theorem zfp:FSc ["craft","crafts","number","told","place"] ["craft","crafts"] (zai zf1):=by walk_at "sc"
theorem zeu:FSc ["craft","begun"] ["craft"] (zai zcI):=by walk_at "sc"
theorem zb7:FSc ["craft","place","crafts","deed","notes","after","kind"] ["craft","place","crafts"] (zai zc6):=by walk_at "sc"
theorem zb8:FSc ["deed","notes","after","line","by","not_above","greatest"] ["deed","notes","after"] (zai zc7):=by walk_at "sc"
theorem zdH:FSc ["deed","notes","after","from_low","to_high"] ["deed","notes","after"] (zai zc8):=by walk_at "sc"
theorem zeQ:FSc ["line","notes","there","after","below_nought"] ["line","notes","there","after"] (zai zc9):=by walk_at "sc"
theorem zbO:FSc ["deed","notes","after","other","given","taken","giving","taking","before"] ["deed","notes","after","other"] (zai zda):=by walk_at "sc"
theorem zjz:FSc ["goals","hypotheses"] ["goals","hypotheses"] (zai zdd):=by walk_at "sc"
theorem zij:FSc ["lines","eight"] ["lines","eight"] (zai zcO):=by walk_at "sc"
theorem zik:FSc ["changes"] ["changes"] (zai zcP):=by walk_at "sc"
theorem zkp:FSc ["number"] ["number"] (zai zey):=by walk_at "sc"
theorem zcw:FSc ["duty","row","goal","hypotheses","whole","weights","rest"] ["duty","row"] (zai zed):=by walk_at "sc"
theorem zfq:FSc ["duty","rows_of_weights","whole","weights"] ["duty"] (zai zf2):=by walk_at "sc"
theorem zbH:FSc ["count","found","bit"] ["count"] (zai za9):=by walk_at "sc"
theorem zfX:FSc ["self"] ["self"] (zai zcn):=by walk_at "sc"
theorem zkq:FSc ["self","number","craft"] ["self","number","craft"] (zai zez):=by walk_at "sc"
theorem zjA:FSc ["self","number"] ["self","number"] (zai zdV):=by walk_at "sc"
theorem zil:FSc ["self","number","rows"] ["self","number","rows"] (zai zdr):=by walk_at "sc"
theorem zfQ:FSc ["self","number","rows"] ["self","number"] (zai zcA):=by walk_at "sc"
theorem zjB:FSc ["self","number"] ["self","number"] (zai zdW):=by walk_at "sc"
theorem zfr:FSc ["self","number"] ["self","number"] (zai zbX):=by walk_at "sc"
theorem zfE:FSc ["self","number"] ["self","number"] (zai zb9):=by walk_at "sc"
theorem zfF:FSc ["self","number"] ["self","number"] (zai zca):=by walk_at "sc"
theorem zg2:FSc ["self","number"] ["self","number"] (zai zcJ):=by walk_at "sc"
theorem zcx:FSc ["self","number","caller"] ["self","number"] (zai zbm):=by walk_at "sc"
theorem zjC:FSc ["craft","other"] ["craft","other"] (zai zdX):=by walk_at "sc"
theorem zjD:FSc ["due","rows"] ["due","rows"] (zai zde):=by walk_at "sc"
theorem zjE:FSc ["script","k"] ["script","k"] (zai zdY):=by walk_at "sc"
theorem zov:FSc ["cell","k","many"] ["cell","k","many"] (zai zhR):=by walk_at "sc"
theorem zg3:FSc ["cell","k","kind"] ["cell","k"] (zai zeA):=by walk_at "sc"
theorem zna:FSc ["i"] ["i"] (zai ze3):=by walk_at "sc"
theorem znb:FSc ["cell"] ["cell"] (zai ze4):=by walk_at "sc"
theorem zev:FSc ["cell","count","low"] ["cell","count"] (zai zcK):=by walk_at "sc"
theorem zbl:FSc ["cell","count","numbers","kinds","more","hand","way","at","first","pair"] ["cell","count","numbers","kinds"] (zai zcL):=by walk_at "sc"
theorem zcd:FSc ["cell","count","numbers","kinds","more","way","at"] ["cell","count","numbers","kinds"] (zai zco):=by walk_at "sc"
theorem zbe:FSc ["kind","cells","numbers","kinds","count","deeds","needs","notes"] ["kind","cells","numbers","kinds"] (zai za6):=by walk_at "sc"
theorem zaZ:FSc ["script","start","many","size","numbers","k","number","kinds","found","count","cells"] ["script","start","many","size"] (zai zbN):=by walk_at "sc"
theorem znc:FSc ["found","due"] ["found","due"] (zai zf3):=by walk_at "sc"
theorem zlE:FSc ["parts","number"] ["parts","number"] (zai zee):=by walk_at "sc"
theorem znd:FSc ["hall","number","parts"] ["hall","number","parts"] (zai zf4):=by walk_at "sc"
theorem zeZ:FSc ["placed","model","number","other","parts"] ["placed","model","number"] (zai zeB):=by walk_at "sc"
theorem zdT:FSc ["parts","cell","needs","leaves"] ["parts","cell"] (zai zdJ):=by walk_at "sc"
theorem zg4:FSc ["hall","placed","model","number","parts"] ["hall","placed","model"] (zai zf5):=by walk_at "sc"
theorem zcW:FSc ["hall","placed","model","at","cell","number","parts","way","other","rows"] ["hall","placed","model","at","cell"] (zai zf6):=by walk_at "sc"
theorem zdB:FSc ["script","hall","many","placed","model","number","parts","turn","cell","at","empty"] ["script"] (zai zhS):=by walk_at "sc"
structure Bl (K:Fg) (mg:Str→Option Value):Prop where
 all:mg "all"=none
 any:mg "any"=none
 bool:mg "bool"=none
 int:mg "int"=none
 isinstance:mg "isinstance"=none
 len:mg "len"=none
 list:mg "list"=none
 max:mg "max"=none
 min:mg "min"=none
 range:mg "range"=none
 reversed:mg "reversed"=none
 tuple:mg "tuple"=none
 zip:mg "zip"=none
 c_NUMBERS:∃ t,mg "NUMBERS"=some (.int 9 t)
 c_FACTORS:∃ t,mg "FACTORS"=some (.int 8 t)
 c_MOST_LINES:∃ t,mg "MOST_LINES"=some (.int 2 t)
 c_MOST_DEEDS:∃ t,mg "MOST_DEEDS"=some (.int 8 t)
 c_LAST_HAND:∃ t,mg "LAST_HAND"=some (.int 3 t)
 c_LAST_NUMBER:∃ t,mg "LAST_NUMBER"=some (.int 99 t)
 c_GREATEST_BY:∃ t,mg "GREATEST_BY"=some (.int 1000 t)
 c_GREATEST:∃ t,mg "GREATEST"=some (.int 1000000000 t)
 c_ASKED_0:∃ t,mg "ASKED_0"=some (.int 4 t)
 c_ASKED_1:∃ t,mg "ASKED_1"=some (.int 5 t)
 c_NEW_0:∃ t,mg "NEW_0"=some (.int 6 t)
 c_NEW_1:∃ t,mg "NEW_1"=some (.int 7 t)
 t_HAND_SPOTS:∃ a,mg "HAND_SPOTS"=some (.ref a)∧∀ H,SqT K H a [.int 1,.int 2,.int 3,.int 4]
 t_LEFT_SPOTS:∃ a,mg "LEFT_SPOTS"=some (.ref a)∧∀ H,SqT K H a [.int 7,.int 8]
 t_LEFT_AS_HANDS:∃ a,mg "LEFT_AS_HANDS"=some (.ref a)∧∀ H,SqT K H a [.int 0,.int 1,.int 2,.int 3,.int 4,.int 5,.int 0,.int 1]
 t_WHOLES:∃ a,mg "WHOLES"=some (.ref a)∧∀ H,SqT K H a [.int 1,.int 2,.int 3,.int 4]
structure Zt (K:Fg) (mg:Str→Option Value) (C:Nat→Addr):Prop where
 c_Craft:Cls K (C 0)
 m_Craft:mg "Craft"=some (.ref (C 0))
 n_Craft_needs:zea K (C 0) "needs"
 n_Craft_leaves:zea K (C 0) "leaves"
 n_Craft_deeds:zea K (C 0) "deeds"
 n_Craft_notes:zea K (C 0) "notes"
 e_HallError:Err K (C 1) zbx
 m_HallError:mg "HallError"=some (.ref (C 1))
 e_BadSheet:Err K (C 2) (.ref (C 1)::zbx)
 m_BadSheet:mg "BadSheet"=some (.ref (C 2))
 e_NoCraft:Err K (C 3) (.ref (C 1)::zbx)
 m_NoCraft:mg "NoCraft"=some (.ref (C 3))
 e_Unmet:Err K (C 4) (.ref (C 1)::zbx)
 m_Unmet:mg "Unmet"=some (.ref (C 4))
 e_NotShown:Err K (C 5) (.ref (C 1)::zbx)
 m_NotShown:mg "NotShown"=some (.ref (C 5))
 c_Hall:Cls K (C 6)
 m_Hall:mg "Hall"=some (.ref (C 6))
 n_Hall_laid:zea K (C 6) "laid"
 n_Hall_vouched:zea K (C 6) "vouched"
section
variable {P:Program}{w:World}{K:Fg}{mg:Str→Option Value}{b8:Heap}{f:Addr}{fd:FuncData}(B:Bl K mg) {C:Nat→Addr}(Z:Zt K mg C)
inductive Q7 (K:Fg) (vs:List V) (H:Hp) (Q:VK) (E:XK):Prop
 | mk (a:Addr) (ls:List (List Int)):vs=[.ref a]→Rep K H (zaF ls) (.ref a)→ls.length≤1000→(∀ v H',Same H H'→New H H' (zaF ls) v→Q v H')→Q7 K vs H Q E
include B Z in
theorem zg5 (F:Fun K "copied_lines" "copied_lines" zb4 f fd) (m:mg "copied_lines"=some (.ref f)):Fn P w K mg b8 "copied_lines" ["lines"] 1 (Q7 K):=by
 refine Fn.of (k:=0) F zgZ m (λ_ _ _ _ _ _ us hl=>match us,hl with | [_],_=>rfl) (λvs H Q E h=>?_) (λcdv A outer s H vs Q E hr h=>?_)
 ·first
  | (obtain⟨_,_,rfl,_⟩:=h;rfl)
 obtain⟨a,ls,rfl,hA,hl,q⟩:=h
 refine⟨_,(zaj (zao (za1 rfl (COk.m (sc0:=zai zb4) (N:=["lines"]) (N':=["lines","line"]) (ms:=[false,true])) (zaX K (pv 0)) (λ_ _ _ _ _=>(zas (i:=1) (ndS (N:=["lines","line"])) rfl (Or.inl rfl))) (λ_ _ _ _ _=>zaG) (λ_ _ _ _ _=>(zcR (zi0 K) rfl B.list L2.zcS (zab (pv 1) zac)))))),?_⟩
 unfold zaF Rep at hA
 obtain⟨a',xs,e,hA,hx⟩:=hA
 cases e
 have lx:=hx.length
 rw[zlm] at lx
 ac_rfl
 refine⟨a,rfl,⟨_,hA⟩,?_⟩
 refine zaK (zaO hA) (ls.map nums) (by rw[zlm];omega) (zan (by omega)) (λj x' d H4 R hj hd s4 hx' hR=>?_) (λv H4 s4 n4=>?_)
 ·obtain⟨d2,hd2,hrx⟩:=Reps.get' hx hx'
  rw[hd2] at hd;cases hd
  rw[zgm] at hd2
  obtain⟨l,hl,rfl⟩:=zme.mp hd2
  obtain⟨xa,rfl,hxa⟩:=zbi.mp (Rep.same s4 _ hrx)
  ac_rfl
  refine zfb (.inl hxa) λp hp=>?_
  exact hR _ _ (zaf hp _) (New.iif.mpr ⟨p,rfl,hp,zad⟩)
 exact q _ _ s4 n4
inductive Q9 (K:Fg) (vs:List V) (H:Hp) (Q:VK) (E:XK):Prop
 | mk (v:V) (d:D):vs=[v]→zcE H d v→(∀ v' H',Same H H'→New H H' d v'→Q v' H')→Q9 K vs H Q E
include B Z in
theorem zhn (F:Fun K "copied_deed" "copied_deed" zcj f fd) (m:mg "copied_deed"=some (.ref f)):Fn P w K mg b8 "copied_deed" ["deed"] 1 (Q9 K):=by
 refine Fn.of (k:=0) F zhk m (λ_ _ _ _ _ _ us hl=>match us,hl with | [_],_=>rfl) (λvs H Q E h=>?_) (λcdv A outer s H vs Q E hr h=>?_)
 ·first
  | (obtain⟨_,_,rfl,_⟩:=h;rfl)
 obtain⟨v,d,rfl,hd,q⟩:=h
 refine⟨_,(zaj (zao (zcR (zpD K) rfl B.tuple L2.zls (zcs (za1 rfl (COk.m (sc0:=zai zcj) (N:=["deed"]) (N':=["deed","part"]) (ms:=[false,true])) (zi2 K (pv 0)) (λ_ _ _ _ _=>(zas (i:=1) (ndS (N:=["deed","part"])) rfl (Or.inl rfl))) (λ_ _ _ _ _=>zaG) (λ_ _ _ _ _=>(zkC (zcQ (zaz (zrf K) rfl B.isinstance L2.zen (zab (pv 1) (zab (zlP (v:=.ty "list") rfl B.list L2.zcS rfl) zac)))) (zcR (zi0 K) rfl B.list L2.zcS (zab (pv 1) zac)) (pv 1)))) zac)))),?_⟩
 obtain⟨t,xs,ds,rfl,rfl,ht,hl,h8,hp⟩:=hd
 ac_rfl
 refine⟨t,rfl,⟨_,SqT.of ht⟩,?_⟩
 refine zaK (zfa (SqT.of ht)) ds hl (zan (by omega)) (λj x d H1 R hj hd s1 hx hR=>?_) (λv H1 s1 n1=>?_)
 ·have part:=(hp j d x hd hx).sq s1.sq
  ac_rfl
  rcases part with ⟨i,rfl,rfl⟩ | ⟨i,rfl,rfl⟩ | ⟨b,l,rfl,rfl,hb⟩ | ⟨b,i,k,rfl,rfl,hb⟩
  ·refine zmC (.int i) zi3 ?_
   ac_rfl
   exact hR _ _ (Same.refl _) New.int
  ·refine zmC (.str i) zi4 ?_
   ac_rfl
   exact hR _ _ (Same.refl _) New.str
  ·refine zmC (.lst hb) zkR ?_
   ac_rfl
   refine zfb (.inl (SqL.of hb)) λp hp'=>?_
   exact hR _ _ (zaf hp' _) (New.iif.mpr ⟨p,rfl,hp',zad⟩)
  ·refine zmC (.tup hb) zhi ?_
   ac_rfl
   exact hR _ _ (Same.refl _) ⟨[],RepF.pair hb,List.nodup_nil,λ_ m=>by cases m⟩
 obtain⟨la,vs,rfl,la0,la1,fp,f1,f2,f3⟩:=New.news n1
 ac_rfl
 refine zn5 (SqL.of la1) λp hp'=>?_
 have s2:=zaf hp' (.tup vs)
 exact q _ _ (s1.trans s2) (New.tup (zak.sq s2.sq ds f1) f2 f3 zad)
inductive Q6 (K:Fg) (C:Nat→Addr) (vs:List V) (H:Hp) (Q:VK) (E:XK):Prop
 | mk (p dx:Addr) (v1 v2 v3 v4:V) (needs leaves:List (List Int)) (deeds:List D) (notes:List (List (List Int))) (a3 a4:Addr) (dvs nvs:List V):vs=[.ref p,v1,v2,v3,v4]→H p=some (.ins (C 0) dx [])→Rep K H (zaF needs) v1→Rep K H (zaF leaves) v2→v3=.ref a3→SqL K H a3 dvs→v4=.ref a4→SqL K H a4 nvs→needs.length≤1000→leaves.length≤1000→deeds.length≤1000→notes.length≤1000→deeds.length=dvs.length→notes.length=nvs.length→(∀ (i:Nat) d x,deeds[i]?=some d→dvs[i]?=some x→zcE H d x)→(∀ (i:Nat) ls x,notes[i]?=some ls→nvs[i]?=some x→ls.length≤1000∧Rep K H (zaF ls) x)→(∀ H' w1 w2 w3 w4,(∀ b o,H b=some o→b≠p→H' b=some o)→H' p=some (.ins (C 0) dx (flds w1 w2 w3 w4))→News H H' (zm0 needs leaves deeds notes) [w1,w2,w3,w4]→Q .non H')→Q6 K C vs H Q E
include B Z in
theorem zow (Q8:Fn P w K mg b8 "copied_lines" ["lines"] 1 (Q7 K)) (Qa:Fn P w K mg b8 "copied_deed" ["deed"] 1 (Q9 K)) (F:Fun K "__init__" "Craft.__init__" zbp f fd) (M:Mk K (C 0) f):Mkr P w K mg b8 "Craft" (C 0) ["self","needs","leaves","deeds","notes"] 2 (Q6 K C):=by
 refine⟨f,fd,M,F.ok (k:=1) zfD (λvs H Q E h=>?_) (λcdv A outer s H vs Q E hr h=>?_),F.binds λ_ _ _ _ _ _ us hl=>match us,hl with | [_,_,_,_,_],_=>rfl,Z.m_Craft⟩
 ·first
  | (obtain⟨_,_,_,_,_,_,_,_,_,_,_,_,_,_,rfl,_⟩:=h;rfl)
 obtain⟨p,dx,v1,v2,v3,v4,needs,leaves,deeds,notes,a3,a4,dvs,nvs,rfl,hp,r1,r2,rfl,h3,rfl,h4,l1,l2,l3,l4,e3,e4,dr,nr,q⟩:=h
 refine⟨_,(zag (zhA (pv 0) (zap Q8 hr rfl (zab (pv 1) zac)) rfl)
   (zag (zhA (pv 0) (zap Q8 hr rfl (zab (pv 2) zac)) rfl)
   (zag (zhA (pv 0) (za1 rfl (COk.m (sc0:=zai zbp) (N:=["self","needs","leaves","deeds","notes"]) (N':=["self","needs","leaves","deeds","notes","deed"]) (ms:=[false,false,false,false,false,true])) (zaX K (pv 3)) (λ_ _ _ _ _=>(zas (i:=5) (ndS (N:=["self","needs","leaves","deeds","notes","deed"])) rfl (Or.inl rfl))) (λ_ _ _ _ _=>zaG) (λ_ _ _ _ _=>(zap Qa hr rfl (zab (pv 5) zac)))) rfl)
   (zaj (zhA (pv 0) (za1 rfl (COk.m (sc0:=zai zbp) (N:=["self","needs","leaves","deeds","notes"]) (N':=["self","needs","leaves","deeds","notes","lines"]) (ms:=[false,false,false,false,false,true])) (zaX K (pv 4)) (λ_ _ _ _ _=>(zas (i:=5) (ndS (N:=["self","needs","leaves","deeds","notes","lines"])) rfl (Or.inl rfl))) (λ_ _ _ _ _=>zaG) (λ_ _ _ _ _=>(zap Q8 hr rfl (zab (pv 5) zac)))) rfl))))),?_⟩
 obtain⟨b1,rfl⟩:∃ b,v1=.ref b:=by unfold zaF Rep at r1;obtain⟨a,_,e,_⟩:=r1;exact⟨a,e⟩
 obtain⟨b2,rfl⟩:∃ b,v2=.ref b:=by unfold zaF Rep at r2;obtain⟨a,_,e,_⟩:=r2;exact⟨a,e⟩
 ac_rfl
 -- self.needs
 refine⟨b1,needs,rfl,r1,l1,λw1 H1 s1 n1=>?_⟩
 ac_rfl
 refine⟨p,(C 0),dx,[],rfl,s1 _ _ hp,Z.c_Craft,Z.n_Craft_needs,by show 0<1000;decide,?_⟩
 have k1:Sq H (upd H1 p (.ins (C 0) dx (putF "needs" w1 []))):=s1.sq.trans (zgC (s1 _ _ hp) rfl)
 have u1:News H (upd H1 p (.ins (C 0) dx (putF "needs" w1 []))) [zaF needs] [w1]:=(News.nil.snoc' (H:=H) (H1:=H) (Same.refl H).fr s1 n1).sq (zgC (s1 _ _ hp) rfl)
 have f1:Free H (upd H1 p (.ins (C 0) dx (putF "needs" w1 []))):=s1.fr.trans zeE
 -- self.leaves
 ac_rfl
 refine⟨b2,leaves,rfl,Rep.sq k1 _ r2,l2,λw2 H2 s2 n2=>?_⟩
 have p2:=s2 _ _ (zad (H:=H1) (a:=p) (o:=.ins (C 0) dx (putF "needs" w1 [])))
 ac_rfl
 refine⟨p,(C 0),dx,_,rfl,p2,Z.c_Craft,Z.n_Craft_leaves,Nat.lt_of_lt_of_le (zd5 (n:=1) (by decide)) (by decide),?_⟩
 have k2:=k1.trans (s2.sq.trans (zgC (o:=.ins (C 0) dx (putF "leaves" w2 (putF "needs" w1 []))) p2 rfl))
 have u2:=(u1.snoc' f1 s2 n2).sq (zgC (o:=.ins (C 0) dx (putF "leaves" w2 (putF "needs" w1 []))) p2 rfl)
 have f2:Free H (upd H2 p (.ins (C 0) dx (putF "leaves" w2 (putF "needs" w1 [])))):=f1.trans (s2.fr.trans zeE)
 -- self.deeds
 ac_rfl
 refine⟨a3,rfl,⟨_,k2.lst h3⟩,?_⟩
 refine zaK (zaO (k2.lst h3)) deeds e3 (zan (by omega)) (λj x d H3 R hj hd s3 hx hR=>?_) (λw3 H3 s3 n3=>?_)
 ·ac_rfl
  refine⟨x,d,rfl,(dr j d x hd hx).sq (k2.trans s3.sq),λv' H4 s4 n4=>?_⟩
  exact hR _ _ s4 n4
 have p3:=s3 _ _ (zad (H:=H2) (a:=p) (o:=.ins (C 0) dx (putF "leaves" w2 (putF "needs" w1 []))))
 ac_rfl
 refine⟨p,(C 0),dx,_,rfl,p3,Z.c_Craft,Z.n_Craft_deeds,Nat.lt_of_lt_of_le (zd5 (n:=2) (zd5 (n:=1) (by decide))) (by decide),?_⟩
 have k3:=k2.trans (s3.sq.trans (zgC (o:=.ins (C 0) dx (putF "deeds" w3 (putF "leaves" w2 (putF "needs" w1 [])))) p3 rfl))
 have u3:=(u2.snoc' f2 s3 n3).sq (zgC (o:=.ins (C 0) dx (putF "deeds" w3 (putF "leaves" w2 (putF "needs" w1 [])))) p3 rfl)
 have f3:Free H (upd H3 p (.ins (C 0) dx (putF "deeds" w3 (putF "leaves" w2 (putF "needs" w1 []))))):=f2.trans (s3.fr.trans zeE)
 -- self.notes
 ac_rfl
 refine⟨a4,rfl,⟨_,k3.lst h4⟩,?_⟩
 refine zaK (zaO (k3.lst h4)) (notes.map zaF) (by rw[zlm];exact e4) (zan (by omega)) (λj x d H4 R hj hd s4 hx hR=>?_) (λw4 H4 s4 n4=>?_)
 ·rw[zgm] at hd
  obtain⟨ls,hls,rfl⟩:=zme.mp hd
  obtain⟨hz,hr2⟩:=nr j ls x hls hx
  have hr3:=Rep.sq (k3.trans s4.sq) _ hr2
  obtain⟨b,rfl⟩:∃ b,x=.ref b:=by unfold zaF Rep at hr3;obtain⟨a,_,e,_⟩:=hr3;exact⟨a,e⟩
  ac_rfl
  refine⟨b,ls,rfl,hr3,hz,λv' H5 s5 n5=>?_⟩
  exact hR _ _ s5 n5
 have p4:=s4 _ _ (zad (H:=H3) (a:=p) (o:=.ins (C 0) dx (putF "deeds" w3 (putF "leaves" w2 (putF "needs" w1 [])))))
 ac_rfl
 refine⟨p,(C 0),dx,_,rfl,p4,Z.c_Craft,Z.n_Craft_notes,Nat.lt_of_lt_of_le (zd5 (n:=3) (zd5 (n:=2) (zd5 (n:=1) (by decide)))) (by decide),?_⟩
 have u4:=(u3.snoc' f3 s4 n4).sq (zgC (o:=.ins (C 0) dx (putF "notes" w4 (putF "deeds" w3 (putF "leaves" w2 (putF "needs" w1 []))))) p4 rfl)
 refine q _ w1 w2 w3 w4 (λb o e hb=>?_) zad u4
 rw[zaq hb]
 refine s4 _ _ ?_
 rw[zaq hb]
 refine s3 _ _ ?_
 rw[zaq hb]
 refine s2 _ _ ?_
 rw[zaq hb]
 exact s1 _ _ e
def zew (K:Fg):Sp:=λvs H Q _=>∃ i:Int,vs=[.int i]∧∀ v H',Same H H'→New H H' (nums (zah i)) v→Q v H'
theorem zdC {H:Hp}{Q:VK}{E:XK}{i:Int}(q:∀ v H',Same H H'→New H H' (nums (zah i)) v→Q v H'):zew K [.int i] H Q E:=⟨i,rfl,q⟩
include B Z in
theorem zp4 (F:Fun K "bare" "bare" ziz f fd) (m:mg "bare"=some (.ref f)):Fn P w K mg b8 "bare" ["i"] 1 (zew K):=by
 refine Fn.of (k:=0) F zp3 m (λ_ _ _ _ _ _ us hl=>match us,hl with | [_],_=>rfl) (λvs H Q E h=>?_) (λcdv A outer s H vs Q E hr h=>?_)
 ·first
  | (obtain⟨_,rfl,_⟩:=h;rfl)
 obtain⟨i,rfl,q⟩:=h
 refine⟨_,(zaj (zao (zam (zaL K) (zaE (zae zaa zac)) (za1 rfl (COk.m (sc0:=zai ziz) (N:=["i"]) (N':=["i","factor"]) (ms:=[false,true])) (zbJ rfl B.range (zab (zbd rfl B.c_FACTORS) zac)) (λ_ _ _ _ _=>(zas (i:=1) (ndS (N:=["i","factor"])) rfl (Or.inl rfl))) (λ_ _ _ _ _=>zaG) (λ_ _ _ _ _=>(zkC (zau (k_eq K hr) (pv 1) (pv 0) (zav _)) zaa zaa)))))),?_⟩
 ac_rfl
 refine⟨by decide,λp hp=>?_⟩
 ac_rfl
 refine zc0 (by decide) (by decide) ?_
 refine zaK (n:=8) zcC (((List.range 8).map λ(k:Nat)=>(if (0+(k:Int))=i then 1 else 0:Int)).map D.int) (by simp) (by decide) (λj x d H1 R hj hd s1 hx hR=>?_) (λv H1 s1 n1=>?_)
 ·subst hx
  rw[List.map_map] at hd
  have hd':=zem hd
  subst hd'
  ac_rfl
  refine ite2 (λe=>?_) (λe=>?_)
  ·have e':0+(j:Int)=i:=of_decide_eq_true e
   ac_rfl
   refine hR _ _ (Same.refl _) ?_
   simp only[Function.comp,if_pos e']
   exact New.int
  ·have e':¬ 0+(j:Int)=i:=of_decide_eq_false (Bool.eq_false_iff.mpr e)
   ac_rfl
   refine hR _ _ (Same.refl _) ?_
   simp only[Function.comp,if_neg e']
   exact New.int
 obtain⟨la,rfl,la0,la1⟩:=New.iif.mp n1
 have s2:=(zaf hp (.lst [.int 0])).trans s1
 refine zbz (s1 _ _ zad) la1 (by simp;decide) λr hr'=>?_
 refine q _ _ (s2.trans (zaf hr' _)) (New.iif.mpr ⟨r,rfl,s2.free hr',?_⟩)
 rw[zad]
 rfl
inductive Q1 (K:Fg) (vs:List V) (H:Hp) (Q:VK) (E:XK):Prop
 | mk (a b:Addr) (ls:List (List Int)) (ws:List Int):vs=[.ref a,.ref b]→Rep K H (.lst (ls.map nums)) (.ref a)→SqL K H b (ws.map V.int)→ls.length=ws.length→ls.length≤1000→(∀ l∈ls,l.length=9)→zor ls ws→(∀ v H',Same H H'→New H H' (nums (zaJ ls ws)) v→Q v H')→Q1 K vs H Q E
include B Z in
theorem zne (F:Fun K "summed" "summed" ze1 f fd) (m:mg "summed"=some (.ref f)):Fn P w K mg b8 "summed" ["lines","weights"] 1 (Q1 K):=by
 refine Fn.of (k:=0) F zet m (λ_ _ _ _ _ _ us hl=>match us,hl with | [_,_],_=>rfl) (λvs H Q E h=>?_) (λcdv A outer s H vs Q E hr h=>?_)
 ·first
  | (obtain⟨_,_,_,_,rfl,_⟩:=h;rfl)
 obtain⟨a,b,ls,ws,rfl,hA,hB,hl,h1000,h9,ok,q⟩:=h
 refine⟨_,(zag (zay (i:=2) zet.nd rfl (Or.inl rfl) (zam zbT (zaE (zae zaa zac)) (zbd rfl B.c_NUMBERS)))
   (zag (zds PassesOwn.never rfl (zmD K rfl B.zip (zab (pv 0) (zab (pv 1) zac))) (zfM K (n:=2) rfl (zbw (zas (i:=3) zet.nd rfl (Or.inl rfl)) (zbw (zas (i:=4) zet.nd rfl (Or.inr rfl)) zeg))) (zaj (zbZ (i:=2) zet.nd rfl rfl rfl (COk.m (sc0:=zai ze1) (N:=["lines","weights","total","line","weight"]) (N':=["lines","weights","total","line","weight","so_far","number"]) (ms:=[false,false,false,false,false,true,true])) (zmD K rfl B.zip (zab (pv 2) (zab (pv 3) zac))) (λ_ _ _ _ _=>(zfM K (n:=2) rfl (zbw (zas (i:=5) (ndS (N:=["lines","weights","total","line","weight","so_far","number"])) rfl (Or.inl rfl)) (zbw (zas (i:=6) (ndS (N:=["lines","weights","total","line","weight","so_far","number"])) rfl (Or.inl rfl)) zeg)))) (λ_ _ _ _ _=>zaG) (λ_ _ _ _ _=>(zam (zaL K) (pv 5) (zam zbT (pv 6) (pv 4)))))))
   (zaj (zao (pv 2))))),?_⟩
 unfold Rep at hA
 obtain⟨a',xs,e,hA,hx⟩:=hA
 cases e
 have lx:=hx.length
 rw[zlm] at lx
 ac_rfl
 refine⟨by decide,λp hp=>?_⟩
 ac_rfl
 refine .inr ⟨p,9,[.int 0],rfl,rfl,zad,by decide,by decide,by decide,λt ht=>?_⟩
 have s0:=(zaf hp (.lst [.int 0])).trans (zaf ht (.lst (List.replicate (9:Int).toNat [V.int 0]).flatten))
 ac_rfl
 refine⟨a,b,rfl,⟨_,s0.seq hA⟩,⟨_,s0.seq hB⟩,?_⟩
 refine zh4 (n:=ws.length) (zh3 (s0.seq hA) (s0.seq hB) (by rw[zlm];omega)) (λi σ H2=>∃ (ta:Addr) (x y:Option V),σ=[some (.ref a),some (.ref b),some (.ref ta),x,y]∧Same (upd (upd H p (.lst [.int 0])) t (.lst (List.replicate (9:Int).toNat [V.int 0]).flatten)) H2∧H ta=none∧H2 ta=some (.lst ((zbQ ((ls.zip ws).take i) (List.replicate 9 0)).map V.int)))
  ⟨t,none,none,rfl,Same.refl _,(zaf hp _).free ht,by rw[zad];rfl⟩ (λi σ H2 ⟨_,_,_,_,e,_⟩=>e) ?_ ?_
 ·rintro i v σ H2 H3 hi ⟨ta,x,y,rfl,s2,ta0,ta1⟩ s3 ⟨T,u,z,rfl,hT,eu,ez⟩
  have il:i<ls.length:=by omega
  rw[zgm] at ez
  obtain⟨w',hw,rfl⟩:=zme.mp ez
  obtain⟨dl,hdl,hru⟩:=hx.get' eu
  rw[zgm,List.getElem?_eq_getElem il] at hdl
  cases hdl
  obtain⟨lu,rfl,hlu⟩:=zbi.mp (Rep.same (s0.trans (s2.trans s3)) _ hru)
  have l9:=h9 ls[i] (List.getElem_mem il)
  have ft9:(zbQ ((ls.zip ws).take i) (List.replicate 9 0)).length=9:=zep _ _ (by simp) λp hp=>zmP h9 p (List.mem_of_mem_take hp)
  refine⟨T,_,rfl,SqT.of hT,rfl,⟨_,_,rfl,?_⟩⟩
  refine⟨_,_,rfl,?_⟩
  refine⟨rfl,?_⟩
  ac_rfl
  refine⟨ta,lu,rfl,⟨_,SqL.of (s3 _ _ ta1)⟩,⟨_,hlu⟩,?_⟩
  refine zaK (n:=9) (zh3 (SqL.of (s3 _ _ ta1)) hlu (by rw[zlm,zlm,ft9,l9];rfl)) ((addW w' (zbQ ((ls.zip ws).take i) (List.replicate 9 0)) ls[i]).map D.int) (by rw[zlm];exact zbW ft9 l9) (by decide) (λj x' d H4 R hj hd s4 hx' hR=>?_) (λv H4 s4 n4=>?_)
  ·obtain⟨T2,u2,z2,rfl,hT2,e1,e2⟩:=hx'
   rw[zgm] at e1 e2
   obtain⟨s',hs',rfl⟩:=zme.mp e1
   obtain⟨n',hn',rfl⟩:=zme.mp e2
   have ed:d=.int (s' + n' * w'):=by
    unfold addW at hd
    rw[zgm,List.getElem?_zipWith,hs',hn'] at hd
    cases hd
    rfl
   subst ed
   refine⟨T2,_,rfl,SqT.of hT2,rfl,⟨_,_,rfl,?_⟩⟩
   refine⟨_,_,rfl,?_⟩
   refine⟨rfl,?_⟩
   ac_rfl
   refine zkO (ok i ls[i] w' (by simp) hw n' (zmg hn')) ?_
   ac_rfl
   exact hR _ _ (Same.refl _) New.int
  obtain⟨na,rfl,na0,na1⟩:=New.iif.mp n4
  ac_rfl
  refine⟨na,_,_,rfl,s2.trans (s3.trans s4),(s0.trans (s2.trans s3)).free na0,?_⟩
  rw[na1,List.take_add_one,zpT (List.getElem?_eq_getElem il) hw,zhI]
 ·rintro σ H2 ⟨ta,x,y,rfl,s2,ta0,ta1⟩
  ac_rfl
  refine q _ _ (s0.trans s2) (New.iif.mpr ⟨ta,rfl,ta0,?_⟩)
  rw[ta1,List.take_of_length_le (by rw[List.length_zip];omega)]
  rfl
inductive Q4 (K:Fg) (vs:List V) (H:Hp) (Q:VK) (E:XK):Prop
 | mk (a b:Addr) (c:Int) (fs:List Int) (ls:List (List Int)):vs=[.ref a,.ref b]→SqL K H a ((c::fs).map V.int)→Rep K H (.lst (ls.map nums)) (.ref b)→fs.length=8→ls.length=8→(∀ l∈ls,l.length=9)→zor ls fs→(∀ v H',Same H H'→New H H' (nums (zaw (c::fs) ls)) v→Q v H')→Q4 K vs H Q E
theorem zox (c:Int) (fs:List Int):cutV ((c::fs).map V.int) (some 1) none=fs.map V.int:=by
 unfold cutV
 rw[show HT.sIx ((c::fs).map V.int).length 0 (some 1)=1 by rw[show (1:Int)=((1:Nat):Int) by rfl,HT.sIx_nat];simp]
 rw[HT.sIx_none]
 simp[List.take_of_length_le]
include B Z in
theorem znf (Q3:Fn P w K mg b8 "summed" ["lines","weights"] 1 (Q1 K)) (F:Fun K "turned" "turned" zf0 f fd) (m:mg "turned"=some (.ref f)):Fn P w K mg b8 "turned" ["line","eight"] 2 (Q4 K):=by
 refine Fn.of (k:=1) F zjw m (λ_ _ _ _ _ _ us hl=>match us,hl with | [_,_],_=>rfl) (λvs H Q E h=>?_) (λcdv A outer s H vs Q E hr h=>?_)
 ·first
  | (obtain⟨_,_,_,_,_,rfl,_⟩:=h;rfl)
 obtain⟨a,b,c,fs,ls,rfl,hA,hB,lf,ll,h9,ok,q⟩:=h
 refine⟨_,(zag (zay (i:=2) zjw.nd rfl (Or.inl rfl) (zap Q3 hr rfl (zab (pv 1) (zaR (zf8 (k_sl K) (pv 0) (zhW zaa) zhV) zac))))
   (zag (ziE (zam (zaL K) (zaH (k_ix K) (pv 2) zaa (λ_ _=>rfl)) (zaH (k_ix K) (pv 0) zaa (λ_ _=>rfl))) (zkD (pv 2) zaa zf9))
   (zaj (zao (pv 2))))),?_⟩
 ac_rfl
 refine .inl ⟨a,_,rfl,hA,λp hp=>?_⟩
 rw[zox]
 have s1:=zaf hp (.lst (fs.map V.int))
 ac_rfl
 refine⟨b,p,ls,fs,rfl,Rep.same s1 _ hB,SqL.of zad,by omega,by omega,h9,ok,λv H2 s2 n2=>?_⟩
 obtain⟨ta,rfl,ta0,ta1⟩:=New.iif.mp n2
 have s3:=s1.trans s2
 obtain⟨x,r,hs⟩:∃ x r,zaJ ls fs=x::r:=by
  have:=za2 (ws:=fs) h9
  cases e:zaJ ls fs with
  | nil=>rw[e] at this;simp at this
  | cons x r=>exact⟨x,r,rfl⟩
 rw[hs] at ta1
 ac_rfl
 refine zbA (SqL.of ta1) (v:=.int x) zbV ?_
 ac_rfl
 refine zbA (s3.seq hA) (v:=.int c) zbV ?_
 ac_rfl
 refine zkP ta1 ix0 ?_
 ac_rfl
 have ta2:=s1.free ta0
 refine q _ _ (λd o e=>?_) (New.iif.mpr ⟨ta,rfl,ta2,?_⟩)
 ·rw[zaq (zaM e ta2)];exact s3 _ _ e
 ·rw[zad]
  unfold zaw
  rw[show (c::fs).tail=fs by rfl,hs]
  rfl
theorem zjF {K:Fg}{C:Nat→Addr}{H:Hp}{p dx a3 a4:Addr}{v1 v2:V}{c:Cr}{dvs nvs:List V}{Q:VK}{E:XK}(np:H p=none) (nd:H dx=none) (r1:Rep K H (zaF c.needs) v1) (r2:Rep K H (zaF c.leaves) v2) (h3:SqL K H a3 dvs) (h4:SqL K H a4 nvs) (dr:zeT H c.deeds dvs) (nr:R2 (λls x=>Rep K H (zaF ls) x) c.notes nvs) (g:c.Nine)
  (q:∀ H1 f,Same H H1→zdi (C 0) H1 p c f→(∀ b∈f,H b=none)→f.Nodup→Q .non H1):Q6 K C [.ref p,v1,v2,.ref a3,.ref a4] (upd (upd H dx (.own p)) p (.ins (C 0) dx [])) Q E:=by
 have sm:Same H (upd (upd H dx (.own p)) p (.ins (C 0) dx [])):=λb o e=>by
  rw[zaq (zaM e np),zaq (zaM e nd)];exact e
 have ld:=dr.1
 have ln:=nr.1
 have e1:=g.d
 have e2:=g.n
 have e3:=g.l
 have e4:=g.o
 refine⟨p,dx,v1,v2,.ref a3,.ref a4,c.needs,c.leaves,c.deeds.map toD,c.notes,a3,a4,dvs,nvs,rfl,zad,Rep.same sm _ r1,Rep.same sm _ r2,rfl,sm.seq h3,rfl,sm.seq h4,by omega,by omega,by rw[zlm];omega,by omega,by rw[zlm];exact ld,ln,λi d x q1 q2=>?_,λi ls x q1 q2=>?_,λH1 w1 w2 w3 w4 keep hp nw=>?_⟩
 ·rw[zgm] at q1
  obtain⟨d',hd',rfl⟩:=zme.mp q1
  exact (dr.2 i d' x hd' q2).sq sm.sq
 ·exact⟨by have:=(g.o9 ls (zmg q1)).1;omega,Rep.same sm _ (nr.2 i ls x q1 q2)⟩
 ·have s1:Same H H1:=λb o e=>keep b o (sm _ _ e) (zaM e np)
  obtain⟨f,k1,k2,k3⟩:=nw
  have pf:p∉f:=λz=>by have:=k3 p z;rw[zad] at this;cases this
  refine q H1 (p::f) s1 ⟨dx,w1,w2,w3,w4,f,rfl,hp,k1⟩ (λb hb=>?_) (List.nodup_cons.mpr ⟨pf,k2⟩)
  rcases List.mem_cons.mp hb with rfl | hb
  ·exact np
  ·exact sm.fr b (k3 b hb)
theorem zoy {a1 a2 a3 a4 b1 b2 b3 b4:V}(h:flds a1 a2 a3 a4=flds b1 b2 b3 b4):a1=b1∧a2=b2∧a3=b3∧a4=b4:=by
 refine⟨?_,?_,?_,?_⟩
 ·have:=zdz a1 a2 a3 a4;rw[h,zdz] at this;injection this with this;exact this.symm
 ·have:=zcV a1 a2 a3 a4;rw[h,zcV] at this;injection this with this;exact this.symm
 ·have:=zcN a1 a2 a3 a4;rw[h,zcN] at this;injection this with this;exact this.symm
 ·have:=zd4 a1 a2 a3 a4;rw[h,zd4] at this;injection this with this;exact this.symm
inductive Qb (K:Fg) (C:Nat→Addr) (vs:List V) (H:Hp) (Q:VK) (E:XK):Prop
 | mk (p:Addr) (c:Cr):vs=[.ref p]→zes K (C 0) H p c.needs c.leaves c.deeds c.notes→c.Nine→(∀ q f H',Same H H'→zdi (C 0) H' q c f→(∀ b∈f,H b=none)→f.Nodup→Q (.ref q) H')→Qb K C vs H Q E
include B Z in
theorem zg6 (M_Craft:Mkr P w K mg b8 "Craft" (C 0) ["self","needs","leaves","deeds","notes"] 2 (Q6 K C)) (F:Fun K "copied_craft" "copied_craft" zcG f fd) (m:mg "copied_craft"=some (.ref f)):Fn P w K mg b8 "copied_craft" ["craft"] 4 (Qb K C):=by
 refine Fn.of (k:=3) F zg0 m (λ_ _ _ _ _ _ us hl=>match us,hl with | [_],_=>rfl) (λvs H Q E h=>?_) (λcdv A outer s H vs Q E hr h=>?_)
 ·first
  | (obtain⟨_,_,rfl,_⟩:=h;rfl)
 obtain⟨p,c,rfl,hT,g,q⟩:=h
 refine⟨_,(zaj (zao (zrh M_Craft hr rfl (zbP (zbD K (pv 0) rfl) (zbP (zbD K (pv 0) rfl) (zbP (zbD K (pv 0) rfl) (zbP (zbD K (pv 0) rfl) zac))))))),?_⟩
 obtain⟨⟨dx,w1,w2,w3,w4,hp,r1,r2,r3,r4⟩,dx',u1,u2,b3,u4,dvs,hp',hb3,hD⟩:=hT
 have e:=hp
 rw[hp'] at e
 injection e with e
 injection e with _ e0 e
 obtain⟨rfl,rfl,rfl,rfl⟩:=zoy e
 unfold Rep at r4
 obtain⟨b4,nvs,rfl,q4,z4⟩:=r4
 have z4l:=z4.length
 nofun
 refine⟨p,(C 0),dx,_,_,rfl,hp,Z.c_Craft,Z.n_Craft_needs,zdz _ _ _ _,?_⟩
 nofun
 refine⟨p,(C 0),dx,_,_,rfl,hp,Z.c_Craft,Z.n_Craft_leaves,zcV _ _ _ _,?_⟩
 nofun
 refine⟨p,(C 0),dx,_,_,rfl,hp,Z.c_Craft,Z.n_Craft_deeds,zcN _ _ _ _,?_⟩
 nofun
 refine⟨p,(C 0),dx,_,_,rfl,hp,Z.c_Craft,Z.n_Craft_notes,zd4 _ _ _ _,?_⟩
 nofun
 intro y dy hy hdy ndy
 refine zjF (c:=c) hy hdy r1 r2 (SqL.of hb3) q4 hD ⟨by simpa using z4l,λi ls x e1 e2=>?_⟩ g λH1 f s1 hC hf fn=>⟨rfl,q y f H1 s1 hC hf fn⟩
 obtain⟨d,hd,hrx⟩:=Reps.get' z4 e2
 rw[zgm,e1] at hd
 cases hd
 exact hrx
def zdD (deeds:List Dd) (i:Nat):Bool:=match deeds[i]? with
 | some d=>(zbo d).isSome
 | none=>false
def zfR (deeds:List Dd) (i:Nat):D:=match deeds[i]? with
 | some d=>.int ((zbo d).getD 0)
 | none=>.int 0
theorem zhO:∀ (deeds:List Dd),((List.range deeds.length).filter (zdD deeds)).map (zfR deeds)=(zaD deeds).map D.int
 | []=>rfl
 | d::ds=>by
  have ih:=zhO ds
  have f:(List.map Nat.succ (List.range ds.length)).filter (zdD (d::ds))=((List.range ds.length).filter (zdD ds)).map Nat.succ:=by
   rw[List.filter_map];rfl
  have g:(((List.range ds.length).filter (zdD ds)).map Nat.succ).map (zfR (d::ds))=(zaD ds).map D.int:=by
   rw[List.map_map,←ih];rfl
  rw[List.length_cons,List.range_succ_eq_map,List.filter_cons,f]
  unfold zaD at g ⊢
  cases e:zbo d with
  | none=>
   rw[show zdD (d::ds) 0=false by unfold zdD;simp[e],if_neg (by decide),List.filterMap_cons,e]
   exact g
  | some m=>
   rw[show zdD (d::ds) 0=true by unfold zdD;simp[e],if_pos rfl,List.filterMap_cons,e,zmc,zmc,g,show zfR (d::ds) 0=.int m by unfold zfR;simp[e]]
theorem zng (deeds:List Dd) (n:Nat) (h:n=deeds.length):((List.range n).filter (zdD deeds)).map (zfR deeds)=(zaD deeds).map D.int:=by
 subst h;exact zhO deeds
inductive Qd (K:Fg) (C:Nat→Addr) (vs:List V) (H:Hp) (Q:VK) (E:XK):Prop
 | mk (p:Addr) (dx b3:Addr) (w1 w2 w4:V) (dvs:List V) (deeds:List Dd):vs=[.ref p]→H p=some (.ins (C 0) dx (flds w1 w2 (.ref b3) w4))→H b3=some (.lst dvs)→zeT H deeds dvs→deeds.length≤1000→(∀ v H',Same H H'→New H H' (nums (zaD deeds)) v→Q v H')→Qd K C vs H Q E
include B Z in
theorem zjG (F:Fun K "called_by" "called_by" zdc f fd) (m:mg "called_by"=some (.ref f)):Fn P w K mg b8 "called_by" ["craft"] 1 (Qd K C):=by
 refine Fn.of (k:=0) F zjx m (λ_ _ _ _ _ _ us hl=>match us,hl with | [_],_=>rfl) (λvs H Q E h=>?_) (λcdv A outer s H vs Q E hr h=>?_)
 ·first
  | (obtain⟨_,_,_,_,_,_,_,_,rfl,_⟩:=h;rfl)
 obtain⟨p,dx,b3,w1,w2,w4,dvs,deeds,rfl,hp,hb3,hD,hl,q⟩:=h
 refine⟨_,(zaj (zao (za1 rfl (COk.m (sc0:=zai zdc) (N:=["craft"]) (N':=["craft","deed"]) (ms:=[false,true])) (zaX K (zbD K (pv 0) rfl)) (λ_ _ _ _ _=>(zas (i:=1) (ndS (N:=["craft","deed"])) rfl (Or.inl rfl))) (λ_ _ _ _ _=>(zkM (zau (k_eq K hr) (zaH (k_ix K) (pv 1) zaa (λ_ _=>rfl)) zbr (zav _)))) (λ_ _ _ _ _=>(zaH (k_ix K) (pv 1) zaa (λ_ _=>rfl)))))),?_⟩
 have ld:=hD.1
 ac_rfl
 refine⟨p,(C 0),dx,_,_,rfl,hp,Z.c_Craft,Z.n_Craft_deeds,zcN _ _ _ _,?_⟩
 refine⟨b3,rfl,⟨_,SqL.of hb3⟩,?_⟩
 refine ziY (zaO (SqL.of hb3)) (zdD deeds) (zfR deeds) (zan (by omega)) (λi x H1 R1 R2' hi s1 hx hy hn=>?_) (λv H1 s1 n1=>?_)
 ·have hi':i<deeds.length:=by omega
  have drx:=(hD.2 i deeds[i] x (by simp) hx).sq s1.sq
  have ek:zdD deeds i=(zbo deeds[i]).isSome:=by unfold zdD;simp[hi']
  have en:zfR deeds i=.int ((zbo deeds[i]).getD 0):=by unfold zfR;simp[hi']
  generalize deeds[i]=d at drx ek en
  obtain⟨t,xs,rfl,ht⟩:=zj7 drx
  nofun
  refine za8 (SqT.of ht) zbV ?_
  nofun
  have ew:decide (zc1 d ="call")=zdD deeds i:=by
   rw[ek]
   cases d <;> first | rfl | (unfold zc1 zbo;decide +kernel)
  rw[ew]
  cases hk:zdD deeds i with
  | false=>
   rw[if_neg (by decide)]
   exact hn hk _ (Same.refl _)
  | true=>
   rw[if_pos rfl]
   rw[hk] at ek
   cases d with
   | call m g0 g1 t0 t1=>
    obtain⟨t',ys,et,hT2,px⟩:=zcu drx
    cases et
    obtain⟨x0,r,rfl,e0,px⟩:=zaI px
    obtain⟨x1,r,rfl,e1,px⟩:=zaI px
    cases zcM e1
    nofun
    refine za8 (SqT.of hT2) (v:=.int m) (zaN (j:=1) rfl) ?_
    refine hy hk _ _ (Same.refl _) ?_
    rw[en]
    exact New.int
   | _=>cases ek
 ·ac_rfl
  rw[zng deeds _ ld.symm] at n1
  exact q _ _ s1 n1
inductive Q24 (K:Fg) (vs:List V) (H:Hp) (Q:VK) (E:XK):Prop
 | mk (a b c:Int):vs=[.int a,.int b,.int c]→Q (.bl (decide (a≤b) && decide (b≤c))) H→Q24 K vs H Q E
theorem zdj {H:Hp}{Q:VK}{E:XK}{a b c:Int}(q:Q (.bl (decide (a≤b) && decide (b≤c))) H):Q24 K [.int a,.int b,.int c] H Q E:=⟨a,b,c,rfl,q⟩
include B Z in
theorem zlF (F:Fun K "between" "between" ze2 f fd) (m:mg "between"=some (.ref f)):Fn P w K mg b8 "between" ["low","number","high"] 1 (Q24 K):=by
 refine Fn.of (k:=0) F zlD m (λ_ _ _ _ _ _ us hl=>match us,hl with | [_,_,_],_=>rfl) (λvs H Q E h=>?_) (λcdv A outer s H vs Q E hr h=>?_)
 ·first
  | (obtain⟨_,_,_,rfl,_⟩:=h;rfl)
 obtain⟨a,b,c,rfl,q⟩:=h
 refine⟨_,(zaj (zao (znG znF znF (pv 0) (pv 1) (pv 2)))),?_⟩
 ac_rfl
 cases h:decide (a≤b) with
 | false=>rw[h] at q;ac_rfl;exact q
 | true=>rw[h] at q;ac_rfl;exact q
def zcy (K:Fg):Sp:=λvs H Q _=>∃ n:Int,vs=[.int n]∧Q (.bl (zdP n)) H
theorem zkr {H:Hp}{Q:VK}{E:XK}{n:Int}(q:Q (.bl (zdP n)) H):zcy K [.int n] H Q E:=⟨n,rfl,q⟩
include B Z in
theorem zg7 (Q25:Fn P w K mg b8 "between" ["low","number","high"] 1 (Q24 K)) (F:Fun K "small_enough" "small_enough" zcH f fd) (m:mg "small_enough"=some (.ref f)):Fn P w K mg b8 "small_enough" ["number"] 2 (zcy K):=by
 refine Fn.of (k:=1) F zg1 m (λ_ _ _ _ _ _ us hl=>match us,hl with | [_],_=>rfl) (λvs H Q E h=>?_) (λcdv A outer s H vs Q E hr h=>?_)
 ·first
  | (obtain⟨_,rfl,_⟩:=h;rfl)
 obtain⟨n,rfl,q⟩:=h
 refine⟨_,(zaj (zao (zap Q25 hr rfl (zfW (zdZ zcp (zbd rfl B.c_GREATEST)) (zab (pv 0) (zab (zbd rfl B.c_GREATEST) zac)))))),?_⟩
 ac_rfl
 refine zdj ?_
 exact q
inductive Q18 (K:Fg) (vs:List V) (H:Hp) (Q:VK) (E:XK):Prop
 | mk (a t:Addr) (l:List Int) (spots:List Nat):vs=[.ref a,.ref t]→SqL K H a (l.map V.int)→SqT K H t (spots.map λ(s:Nat)=>V.int (s:Int))→l.length=9→spots.length≤9→(∀ s∈spots,s<9)→(∀ H',Same H H'→Q (.bl (zct spots l)) H')→Q18 K vs H Q E
include B Z in
theorem zim (Q23:Fn P w K mg b8 "small_enough" ["number"] 2 (zcy K)) (F:Fun K "line_right" "line_right" zch f fd) (m:mg "line_right"=some (.ref f)):Fn P w K mg b8 "line_right" ["line","nought_spots"] 3 (Q18 K):=by
 refine Fn.of (k:=2) F zfl m (λ_ _ _ _ _ _ us hl=>match us,hl with | [_,_],_=>rfl) (λvs H Q E h=>?_) (λcdv A outer s H vs Q E hr h=>?_)
 ·first
  | (obtain⟨_,_,_,_,rfl,_⟩:=h;rfl)
 obtain⟨a,t,l,spots,rfl,hA,hT,l9,ls9,hs,q⟩:=h
 refine⟨_,(zag (zay (i:=2) zfl.nd rfl (Or.inl rfl) (zaz (zi1 K rfl) rfl B.all L2.zdw (zcs (za1 rfl (COk.m (sc0:=zai zch) (N:=["line","nought_spots","small"]) (N':=["line","nought_spots","small","number"]) (ms:=[false,false,false,true])) (zaX K (pv 0)) (λ_ _ _ _ _=>(zas (i:=3) (ndS (N:=["line","nought_spots","small","number"])) rfl (Or.inl rfl))) (λ_ _ _ _ _=>zaG) (λ_ _ _ _ _=>(zap Q23 hr rfl (zab (pv 3) zac)))) zac)))
   (zaj (zao (zbR (pv 2) (zci (zaz (zi1 K rfl) rfl B.all L2.zdw (zcs (za1 rfl (COk.m (sc0:=zai zch) (N:=["line","nought_spots","small"]) (N':=["line","nought_spots","small","spot"]) (ms:=[false,false,false,true])) (zi2 K (pv 1)) (λ_ _ _ _ _=>(zas (i:=3) (ndS (N:=["line","nought_spots","small","spot"])) rfl (Or.inl rfl))) (λ_ _ _ _ _=>zaG) (λ_ _ _ _ _=>(zbh (k_eq K hr) (zaH (k_ix K) (pv 0) (pv 3) (λ_ _=>rfl)) zaa (zav _)))) zac))))))),?_⟩
 unfold zct at q
 ac_rfl
 refine⟨a,rfl,⟨_,hA⟩,?_⟩
 refine zaK (zaO hA) ((l.map zdP).map D.bl) (by simp) (zan (by simp;omega)) (λk x d H1 R hk hd s1 hx hR=>?_) (λv H1 s1 n1=>?_)
 ·rw[zgm] at hx
  obtain⟨y,hy,rfl⟩:=zme.mp hx
  rw[zgm,zgm,hy] at hd
  cases hd
  ac_rfl
  refine zkr ?_
  exact hR _ _ (Same.refl _) New.bl
 obtain⟨la,rfl,la0,la1⟩:=New.bls n1
 ac_rfl
 refine ziZ (SqL.of la1) ?_
 ac_rfl
 refine zcT (λe=>?_) (λe=>by have q1:=q _ s1;rw[e] at q1;exact q1)
 rw[e,Bool.true_and] at q
 ac_rfl
 refine⟨t,rfl,⟨_,s1.tup hT⟩,?_⟩
 refine zaK (zfa (s1.tup hT)) ((spots.map λs=>decide (l.getD s 0=0)).map D.bl) (by simp) (zan (by simp;omega)) (λk x d H2 R hk hd s2 hx hR=>?_) (λv H2 s2 n2=>?_)
 ·rw[zgm] at hx
  obtain⟨sp,hsp,rfl⟩:=zme.mp hx
  rw[zgm,zgm,hsp] at hd
  cases hd
  have sl:sp<l.length:=by have:=hs sp (zmg hsp);omega
  ac_rfl
  refine zbA ((s1.trans s2).seq hA) (v:=.int (l.getD sp 0)) (zaN (by simp[sl])) ?_
  ac_rfl
  exact hR _ _ (Same.refl _) New.bl
 obtain⟨lb,rfl,lb0,lb1⟩:=New.bls n2
 ac_rfl
 refine ziZ (SqL.of lb1) ?_
 exact q _ (s1.trans s2)
inductive Q16 (K:Fg) (vs:List V) (H:Hp) (Q:VK) (E:XK):Prop
 | mk (a t:Addr) (ls:List (List Int)) (spots:List Nat):vs=[.ref a,.ref t]→Rep K H (zaF ls) (.ref a)→SqT K H t (spots.map λ(s:Nat)=>V.int (s:Int))→ls.length≤1000→(∀ l∈ls,l.length=9)→spots.length≤9→(∀ s∈spots,s<9)→(∀ H',Same H H'→Q (.bl (zdG spots ls)) H')→Q16 K vs H Q E
include B Z in
theorem zho (Q19:Fn P w K mg b8 "line_right" ["line","nought_spots"] 3 (Q18 K)) (F:Fun K "lines_right" "lines_right" zcm f fd) (m:mg "lines_right"=some (.ref f)):Fn P w K mg b8 "lines_right" ["lines","nought_spots"] 4 (Q16 K):=by
 refine Fn.of (k:=3) F zhl m (λ_ _ _ _ _ _ us hl=>match us,hl with | [_,_],_=>rfl) (λvs H Q E h=>?_) (λcdv A outer s H vs Q E hr h=>?_)
 ·first
  | (obtain⟨_,_,_,_,rfl,_⟩:=h;rfl)
 obtain⟨a,t,ls,spots,rfl,hA,hT,l1000,h9,ls9,hs,q⟩:=h
 refine⟨_,(zaj (zao (zbR (zbh znF (zaz (zcD K) rfl B.len L2.boot_len (zab (pv 0) zac)) (zbd rfl B.c_MOST_LINES) (zav _)) (zci (zaz (zi1 K rfl) rfl B.all L2.zdw (zcs (za1 rfl (COk.m (sc0:=zai zcm) (N:=["lines","nought_spots"]) (N':=["lines","nought_spots","line"]) (ms:=[false,false,true])) (zaX K (pv 0)) (λ_ _ _ _ _=>(zas (i:=2) (ndS (N:=["lines","nought_spots","line"])) rfl (Or.inl rfl))) (λ_ _ _ _ _=>zaG) (λ_ _ _ _ _=>(zap Q19 hr rfl (zab (pv 2) (zab (pv 1) zac))))) zac)))))),?_⟩
 unfold zaF Rep at hA
 obtain⟨a',xs,e,hA,hx⟩:=hA
 cases e
 have lx:=hx.length
 rw[zlm] at lx
 unfold zdG at q
 ac_rfl
 refine zcZ (.inl hA) ?_
 ac_rfl
 rw[←lx]
 refine zcT (λe=>?_) (λe=>by have q1:=q _ (Same.refl _);rw[e] at q1;exact q1)
 rw[e,Bool.true_and] at q
 ac_rfl
 refine⟨a,rfl,⟨_,hA⟩,?_⟩
 refine zaK (zaO hA) ((ls.map (zct spots)).map D.bl) (by simp;omega) (zan (by omega)) (λk x d H1 R hk hd s1 hx' hR=>?_) (λv H1 s1 n1=>?_)
 ·obtain⟨d2,hd2,hrx⟩:=Reps.get' hx hx'
  rw[zgm] at hd2
  obtain⟨l,hl,rfl⟩:=zme.mp hd2
  rw[zgm,zgm,hl] at hd
  cases hd
  obtain⟨xa,rfl,hxa⟩:=zbi.mp (Rep.same s1 _ hrx)
  ac_rfl
  refine⟨xa,t,l,spots,rfl,hxa,s1.tup hT,h9 l (zmg hl),ls9,hs,λH2 s2=>?_⟩
  exact hR _ _ s2 New.bl
 obtain⟨la,rfl,la0,la1⟩:=New.bls n1
 ac_rfl
 refine ziZ (SqL.of la1) ?_
 exact q _ s1
inductive Q10 (K:Fg) (C:Nat→Addr) (vs:List V) (H:Hp) (Q:VK) (E:XK):Prop
 | mk (p:Addr) (needs leaves:List (List Int)) (ds:List D) (notes:List (List (List Int))):vs=[.ref p]→zbF K (C 0) H p needs leaves ds notes→needs.length≤1000→leaves.length≤1000→(∀ l∈needs,l.length=9)→(∀ l∈leaves,l.length=9)→(∀ H',Same H H'→Q (.bl (zgI needs leaves)) H')→Q10 K C vs H Q E
include B Z in
theorem zin (Q17:Fn P w K mg b8 "lines_right" ["lines","nought_spots"] 4 (Q16 K)) (F:Fun K "oath_right" "oath_right" zdn f fd) (m:mg "oath_right"=some (.ref f)):Fn P w K mg b8 "oath_right" ["craft"] 5 (Q10 K C):=by
 refine Fn.of (k:=4) F zfk m (λ_ _ _ _ _ _ us hl=>match us,hl with | [_],_=>rfl) (λvs H Q E h=>?_) (λcdv A outer s H vs Q E hr h=>?_)
 ·first
  | (obtain⟨_,_,_,_,_,rfl,_⟩:=h;rfl)
 obtain⟨p,needs,leaves,ds,notes,rfl,hC,ln,ll,h9n,h9l,q⟩:=h
 obtain⟨gl,g_LEFT_SPOTS,hL⟩:=B.t_LEFT_SPOTS
 obtain⟨gh,g_HAND_SPOTS,hH⟩:=B.t_HAND_SPOTS
 have sp9:∀ s∈([1,2,3,4,7,8]:List Nat),s<9:=by decide
 have sp4:∀ s∈([1,2,3,4]:List Nat),s<9:=by decide
 refine⟨_,(zag (zay (i:=1) zfk.nd rfl (Or.inl rfl) (zap Q17 hr rfl (zbP (zbD K (pv 0) rfl) (zaP (zam (zaL K) (zdF rfl g_HAND_SPOTS) (zdF rfl g_LEFT_SPOTS)) zac))))
   (zaj (zao (zbR (pv 1) (zci (zap Q17 hr rfl (zbP (zbD K (pv 0) rfl) (zab (zdF rfl g_HAND_SPOTS) zac)))))))),?_⟩
 obtain⟨dx,w1,w2,w3,w4,hp,r1,r2,r3,r4⟩:=hC
 obtain⟨b1,rfl⟩:∃ b,w1=.ref b:=by unfold zaF Rep at r1;obtain⟨a,_,e,_⟩:=r1;exact⟨a,e⟩
 obtain⟨b2,rfl⟩:∃ b,w2=.ref b:=by unfold zaF Rep at r2;obtain⟨a,_,e,_⟩:=r2;exact⟨a,e⟩
 unfold zgI at q
 ac_rfl
 refine⟨p,(C 0),dx,_,_,rfl,hp,Z.c_Craft,Z.n_Craft_needs,zdz _ _ _ _,?_⟩
 ac_rfl
 refine zrk (hH _) (hL _) (by simp) (by simp) ((by walk_at "sm")) λt t0=>?_
 have s0:=zaf t0 (.tup ([V.int 1,.int 2,.int 3,.int 4]++[V.int 7,.int 8]))
 ac_rfl
 refine⟨b1,t,needs,[1,2,3,4,7,8],rfl,Rep.same s0 _ r1,.inl (.inl zad),ln,h9n,by decide,sp9,λH1 s1=>?_⟩
 have s2:=s0.trans s1
 ac_rfl
 refine zcT (λe=>?_) (λe=>by have q1:=q _ s2;rw[e] at q1;exact q1)
 rw[e,Bool.true_and] at q
 ac_rfl
 refine⟨p,(C 0),dx,_,_,rfl,s2 _ _ hp,Z.c_Craft,Z.n_Craft_leaves,zcV _ _ _ _,?_⟩
 ac_rfl
 exact⟨b2,gh,leaves,[1,2,3,4],rfl,Rep.same s2 _ r2,hH _,ll,h9l,by decide,sp4,λH3 s3=>q _ (s2.trans s3)⟩
def zdb (K:Fg):Sp:=λvs H Q _=>∃ n:Int,vs=[.int n]∧Q (.bl (zbK n)) H
theorem zk9 {H:Hp}{Q:VK}{E:XK}{n:Int}(q:Q (.bl (zbK n)) H):zdb K [.int n] H Q E:=⟨n,rfl,q⟩
include B Z in
theorem zio (Q25:Fn P w K mg b8 "between" ["low","number","high"] 1 (Q24 K)) (F:Fun K "hand_right" "hand_right" zdq f fd) (m:mg "hand_right"=some (.ref f)):Fn P w K mg b8 "hand_right" ["hand"] 2 (zdb K):=by
 refine Fn.of (k:=1) F zii m (λ_ _ _ _ _ _ us hl=>match us,hl with | [_],_=>rfl) (λvs H Q E h=>?_) (λcdv A outer s H vs Q E hr h=>?_)
 ·first
  | (obtain⟨_,rfl,_⟩:=h;rfl)
 obtain⟨n,rfl,q⟩:=h
 refine⟨_,(zaj (zao (zap Q25 hr rfl (zae zaa (zab (pv 0) (zab (zbd rfl B.c_LAST_HAND) zac)))))),?_⟩
 ac_rfl
 refine zdj ?_
 exact q
inductive Q20 (K:Fg) (vs:List V) (H:Hp) (Q:VK) (E:XK):Prop
 | mk (a:Addr) (i j:Int):vs=[.ref a]→SqT K H a [.int i,.int j]→(∀ H',Same H H'→Q (.bl ([zbK i,zbK j].all id)) H')→Q20 K vs H Q E
include B Z in
theorem zfs (Q22:Fn P w K mg b8 "hand_right" ["hand"] 2 (zdb K)) (F:Fun K "two_hands_right" "two_hands_right" zby f fd) (m:mg "two_hands_right"=some (.ref f)):Fn P w K mg b8 "two_hands_right" ["hands"] 3 (Q20 K):=by
 refine Fn.of (k:=2) F zfo m (λ_ _ _ _ _ _ us hl=>match us,hl with | [_],_=>rfl) (λvs H Q E h=>?_) (λcdv A outer s H vs Q E hr h=>?_)
 ·first
  | (obtain⟨_,_,_,rfl,_⟩:=h;rfl)
 obtain⟨a,i,j,rfl,hA,q⟩:=h
 refine⟨_,(zaj (zao (zbR (zbh (k_eq K hr) (zaz (zcD K) rfl B.len L2.boot_len (zab (pv 0) zac)) zaa (zav _)) (zci (zaz (zi1 K rfl) rfl B.all L2.zdw (zcs (za1 rfl (COk.m (sc0:=zai zby) (N:=["hands"]) (N':=["hands","hand"]) (ms:=[false,true])) (zi2 K (pv 0)) (λ_ _ _ _ _=>(zas (i:=1) (ndS (N:=["hands","hand"])) rfl (Or.inl rfl))) (λ_ _ _ _ _=>zaG) (λ_ _ _ _ _=>(zap Q22 hr rfl (zab (pv 1) zac)))) zac)))))),?_⟩
 ac_rfl
 refine zcZ (.inr hA) ?_
 ac_rfl
 rw[show decide ((([V.int i,.int j].length:Nat):Int)=2)=true from rfl]
 ac_rfl
 refine⟨a,rfl,⟨_,hA⟩,?_⟩
 refine zaK (zfa hA) ([zbK i,zbK j].map D.bl) rfl ((by walk_at "sm")) (λk x d H1 R hk hd s1 hx hR=>?_) (λv H1 s1 n1=>?_)
 ·have hx':([i,j].map V.int)[k]?=some x:=hx
  have hd':([i,j].map λz=>D.bl (zbK z))[k]?=some d:=hd
  rw[zgm] at hx' hd'
  obtain⟨y,hy,rfl⟩:=zme.mp hx'
  rw[hy] at hd'
  cases hd'
  ac_rfl
  refine zk9 ?_
  exact hR _ _ (Same.refl _) New.bl
 obtain⟨la,rfl,la0,la1⟩:=New.bls n1
 ac_rfl
 refine ziZ (SqL.of la1) ?_
 exact q _ s1
inductive Q1e (K:Fg) (vs:List V) (H:Hp) (Q:VK) (E:XK):Prop
 | mk (m:Int) (a b:Addr) (g0 g1 t0 t1:Int):vs=[.int m,.ref a,.ref b]→SqT K H a [.int g0,.int g1]→SqT K H b [.int t0,.int t1]→(∀ H',Same H H'→Q (.bl (([zbK g0,zbK g1].all id && [zbK t0,zbK t1].all id) && (btw 0 m 99 && !decide (t0=t1)))) H')→Q1e K vs H Q E
include B Z in
theorem ziq (Q21:Fn P w K mg b8 "two_hands_right" ["hands"] 3 (Q20 K)) (Q25:Fn P w K mg b8 "between" ["low","number","high"] 1 (Q24 K)) (F:Fun K "call_right" "call_right" zdp f fd) (m:mg "call_right"=some (.ref f)):Fn P w K mg b8 "call_right" ["number","given","taken"] 4 (Q1e K):=by
 refine Fn.of (k:=3) F zfn m (λ_ _ _ _ _ _ us hl=>match us,hl with | [_,_,_],_=>rfl) (λvs H Q E h=>?_) (λcdv A outer s H vs Q E hr h=>?_)
 ·first
  | (obtain⟨_,_,_,_,_,_,_,rfl,_⟩:=h;rfl)
 obtain⟨m,a,b,g0,g1,t0,t1,rfl,hA,hB,q⟩:=h
 refine⟨_,(zag (zay (i:=3) zfn.nd rfl (Or.inl rfl) (zbR (zap Q21 hr rfl (zab (pv 1) zac)) (zci (zap Q21 hr rfl (zab (pv 2) zac)))))
   (zaj (zao (zbR (pv 3) (zbR (zap Q25 hr rfl (zae zaa (zab (pv 0) (zab (zbd rfl B.c_LAST_NUMBER) zac)))) (zci (zbh (k_ne K hr) (zaH (k_ix K) (pv 2) zaa (λ_ _=>rfl)) (zaH (k_ix K) (pv 2) zaa (λ_ _=>rfl)) (zav _)))))))),?_⟩
 generalize eg:[zbK g0,zbK g1].all id=bg at q
 generalize et:[zbK t0,zbK t1].all id=bt at q
 ac_rfl
 refine⟨a,g0,g1,rfl,hA,λH1 s1=>?_⟩
 rw[eg]
 -- hands=.. and ..
 refine zdL (λe=>?_) (λe=>?_)
 ·subst e
  ac_rfl
  refine⟨b,t0,t1,rfl,s1.tup hB,λH2 s2=>?_⟩
  rw[et]
  ac_rfl
  have s3:=s1.trans s2
  rw[Bool.true_and] at q
  refine zcT (λe=>?_) (λe=>by have q1:=q _ s3;rw[e] at q1;exact q1)
  rw[e,Bool.true_and] at q
  ac_rfl
  refine zdj ?_
  refine zdL (λe=>?_) (λe=>by have q1:=q _ s3;unfold btw at q1;rw[e] at q1;exact q1)
  unfold btw at q
  rw[e,Bool.true_and] at q
  ac_rfl
  refine za8 (s3.tup hB) (v:=.int t0) rfl ?_
  ac_rfl
  refine za8 (s3.tup hB) (v:=.int t1) rfl ?_
  ac_rfl
  exact q _ s3
 ·subst e
  ac_rfl
  exact q _ s1
inductive Q1c (K:Fg) (vs:List V) (H:Hp) (Q:VK) (E:XK):Prop
 | mk (lo hi:Int):vs=[.int lo,.int hi]→Q (.bl (zdP lo && (zdP hi && decide (lo≤hi)))) H→Q1c K vs H Q E
include B Z in
theorem zhp (Q23:Fn P w K mg b8 "small_enough" ["number"] 2 (zcy K)) (F:Fun K "range_right" "range_right" zc5 f fd) (m:mg "range_right"=some (.ref f)):Fn P w K mg b8 "range_right" ["low","high"] 3 (Q1c K):=by
 refine Fn.of (k:=2) F zhm m (λ_ _ _ _ _ _ us hl=>match us,hl with | [_,_],_=>rfl) (λvs H Q E h=>?_) (λcdv A outer s H vs Q E hr h=>?_)
 ·first
  | (obtain⟨_,_,rfl,_⟩:=h;rfl)
 obtain⟨lo,hi,rfl,q⟩:=h
 refine⟨_,(zaj (zao (zbR (zap Q23 hr rfl (zab (pv 0) zac)) (zbR (zap Q23 hr rfl (zab (pv 1) zac)) (zci (zbh znF (pv 0) (pv 1) (zav _))))))),?_⟩
 ac_rfl
 refine zkr ?_
 refine zdL (λe=>?_) (λe=>by rw[e] at q;exact q)
 rw[e,Bool.true_and] at q
 ac_rfl
 refine zkr ?_
 refine zdL (λe=>?_) (λe=>by rw[e] at q;exact q)
 rw[e,Bool.true_and] at q
 ac_rfl
 exact q
inductive Q1a (K:Fg) (vs:List V) (H:Hp) (Q:VK) (E:XK):Prop
 | mk (v:V) (n:Int) (d:Dd):vs=[v,.int n]→Rep K H (toD d) v→zeH d→(∀ H',Same H H'→Q (.bl (zbb n d)) H')→Q1a K vs H Q E
theorem zaW {K:Fg}{H:Hp}{d:D}{ds:List D}{xs:List V}(h:Reps K H (d::ds) xs):∃ v r,xs=v::r∧Rep K H d v∧Reps K H ds r:=by unfold Reps at h;exact h
theorem zd6 {K:Fg}{H:Hp}{xs:List V}(h:Reps K H [] xs):xs=[]:=by unfold Reps at h;exact h
theorem zdI {K:Fg}{H:Hp}{i:Int}{v:V}(h:Rep K H (.int i) v):v=.int i:=by unfold Rep at h;exact h
theorem zfG {K:Fg}{H:Hp}{i:Str}{v:V}(h:Rep K H (.str i) v):v=.str i:=by unfold Rep at h;exact h
theorem zla {K:Fg}{H:Hp}{i j:Int}{v:V}(h:Rep K H (.tup [.int i,.int j]) v):∃ a,v=.ref a∧SqT K H a [.int i,.int j]:=by
 obtain⟨a,xs,rfl,h1,h2⟩:=zeo h
 obtain⟨v1,r1,rfl,e1,h2⟩:=zaW h2
 obtain⟨v2,r2,rfl,e2,h2⟩:=zaW h2
 cases zd6 h2;cases zdI e1;cases zdI e2
 exact⟨a,rfl,h1⟩
theorem zp5:decide (("part" : Str) ="set")=false:=by decide +kernel
theorem znh:decide (("draw" : Str) ="set")=false∧decide (("draw" : Str) ="part")=false:=by decide +kernel
theorem zks:decide (("turn" : Str) ="set")=false∧decide (("turn" : Str) ="part")=false∧decide (("turn" : Str) ="draw")=false:=by decide +kernel
theorem zir:decide (("hold" : Str) ="set")=false∧decide (("hold" : Str) ="part")=false∧decide (("hold" : Str) ="draw")=false∧decide (("hold" : Str) ="turn")=false:=by decide +kernel
theorem zg8:decide (("call" : Str) ="set")=false∧decide (("call" : Str) ="part")=false∧decide (("call" : Str) ="draw")=false∧decide (("call" : Str) ="turn")=false∧decide (("call" : Str) ="hold")=false:=by decide +kernel
include B Z in
theorem zis (Q1f:Fn P w K mg b8 "call_right" ["number","given","taken"] 4 (Q1e K)) (Q19:Fn P w K mg b8 "line_right" ["line","nought_spots"] 3 (Q18 K)) (Q22:Fn P w K mg b8 "hand_right" ["hand"] 2 (zdb K)) (Q25:Fn P w K mg b8 "between" ["low","number","high"] 1 (Q24 K)) (Q1d:Fn P w K mg b8 "range_right" ["low","high"] 3 (Q1c K)) (F:Fun K "deed_right" "deed_right" zdo f fd) (m:mg "deed_right"=some (.ref f)):Fn P w K mg b8 "deed_right" ["deed","last_place"] 5 (Q1a K):=by
 refine Fn.of (k:=4) F zfm m (λ_ _ _ _ _ _ us hl=>match us,hl with | [_,_],_=>rfl) (λvs H Q E h=>?_) (λcdv A outer s H vs Q E hr h=>?_)
 ·first
  | (obtain⟨_,_,_,rfl,_⟩:=h;rfl)
 obtain⟨v,n,d,rfl,hR,h9,q⟩:=h
 obtain⟨gl,g_LEFT_SPOTS,hL⟩:=B.t_LEFT_SPOTS
 refine⟨_,(zag (zay (i:=2) zfm.nd rfl (Or.inl rfl) (zaH (k_ix K) (pv 0) zaa (λ_ _=>rfl)))
   (zag (za0 (zau (k_eq K hr) (pv 2) zbr (zav _)) (zaj (zao (zbR (zap Q22 hr rfl (zaR (zaH (k_ix K) (pv 0) zaa (λ_ _=>rfl)) zac)) (zci (zap Q19 hr rfl (zaR (zaH (k_ix K) (pv 0) zaa (λ_ _=>rfl)) (zab (zdF rfl g_LEFT_SPOTS) zac))))))) zax)
   (zag (za0 (zau (k_eq K hr) (pv 2) zbr (zav _)) (zaj (zao (zbR (zap Q22 hr rfl (zaR (zaH (k_ix K) (pv 0) zaa (λ_ _=>rfl)) zac)) (zbR (zap Q19 hr rfl (zaR (zaH (k_ix K) (pv 0) zaa (λ_ _=>rfl)) (zab (zdF rfl g_LEFT_SPOTS) zac))) (zci (zap Q25 hr rfl (zae zaa (zaR (zaH (k_ix K) (pv 0) zaa (λ_ _=>rfl)) (zab (zbd rfl B.c_GREATEST_BY) zac))))))))) zax)
   (zag (za0 (zau (k_eq K hr) (pv 2) zbr (zav _)) (zaj (zao (zbR (zap Q22 hr rfl (zaR (zaH (k_ix K) (pv 0) zaa (λ_ _=>rfl)) zac)) (zci (zap Q1d hr rfl (zaR (zaH (k_ix K) (pv 0) zaa (λ_ _=>rfl)) (zaR (zaH (k_ix K) (pv 0) zaa (λ_ _=>rfl)) zac))))))) zax)
   (zag (za0 (zau (k_eq K hr) (pv 2) zbr (zav _)) (zaj (zao (zbR (zap Q19 hr rfl (zaR (zaH (k_ix K) (pv 0) zaa (λ_ _=>rfl)) (zab (zdF rfl g_LEFT_SPOTS) zac))) (zci (zap Q25 hr rfl (zae zaa (zaR (zaH (k_ix K) (pv 0) zaa (λ_ _=>rfl)) (zab (pv 1) zac)))))))) zax)
   (zag (za0 (zau (k_eq K hr) (pv 2) zbr (zav _)) (zaj (zao (zap Q19 hr rfl (zaR (zaH (k_ix K) (pv 0) zaa (λ_ _=>rfl)) (zab (zdF rfl g_LEFT_SPOTS) zac))))) zax)
   (zaj (zao (zap Q1f hr rfl (zaR (zaH (k_ix K) (pv 0) zaa (λ_ _=>rfl)) (zaR (zaH (k_ix K) (pv 0) zaa (λ_ _=>rfl)) (zaR (zaH (k_ix K) (pv 0) zaa (λ_ _=>rfl)) zac)))))))))))),?_⟩
 have sp9:∀ s∈([7,8]:List Nat),s<9:=by decide
 cases d with
 | set hd l=>
  obtain⟨a,xs,rfl,hA,hx⟩:=zeo hR
  obtain⟨v1,r1,rfl,e1,hx⟩:=zaW hx
  obtain⟨v2,r2,rfl,e2,hx⟩:=zaW hx
  obtain⟨v3,r3,rfl,e3,hx⟩:=zaW hx
  cases zd6 hx;cases zfG e1;cases zdI e2
  obtain⟨la,rfl,hla⟩:=zbi.mp e3
  ac_rfl
  refine za8 hA (v:=.str "set") rfl ?_
  ac_rfl
  rw[decide_eq_true rfl]
  ac_rfl
  refine za8 hA (v:=.int hd) rfl ?_
  ac_rfl
  refine zk9 ?_
  show ∃ c,V.bl (zbK hd)=.bl c∧_
  simp only[zbb] at q
  refine zdL (λe=>?_) (λe=>by have q1:=q _ (Same.refl _);rw[e] at q1;exact q1)
  rw[e,Bool.true_and] at q
  ac_rfl
  refine za8 hA (v:=.ref la) rfl ?_
  ac_rfl
  exact⟨la,gl,l,[7,8],rfl,hla,hL _,h9,by decide,sp9,λH1 s1=>q _ s1⟩
 | part hd l b=>
  obtain⟨a,xs,rfl,hA,hx⟩:=zeo hR
  obtain⟨v1,r1,rfl,e1,hx⟩:=zaW hx
  obtain⟨v2,r2,rfl,e2,hx⟩:=zaW hx
  obtain⟨v3,r3,rfl,e3,hx⟩:=zaW hx
  obtain⟨v4,r4,rfl,e4,hx⟩:=zaW hx
  cases zd6 hx;cases zfG e1;cases zdI e2;cases zdI e4
  obtain⟨la,rfl,hla⟩:=zbi.mp e3
  ac_rfl
  refine za8 hA (v:=.str "part") rfl ?_
  ac_rfl
  rw[zp5]
  ac_rfl
  rw[decide_eq_true rfl]
  ac_rfl
  refine za8 hA (v:=.int hd) rfl ?_
  ac_rfl
  refine zk9 ?_
  show ∃ c,V.bl (zbK hd)=.bl c∧_
  simp only[zbb] at q
  refine zdL (λe=>?_) (λe=>by have q1:=q _ (Same.refl _);rw[e] at q1;exact q1)
  rw[e,Bool.true_and] at q
  ac_rfl
  refine za8 hA (v:=.ref la) rfl ?_
  ac_rfl
  refine⟨la,gl,l,[7,8],rfl,hla,hL _,h9,by decide,sp9,λH1 s1=>?_⟩
  refine zdL (λe=>?_) (λe=>by have q1:=q _ s1;rw[e] at q1;exact q1)
  rw[e,Bool.true_and] at q
  ac_rfl
  refine za8 (s1.tup hA) (v:=.int b) rfl ?_
  ac_rfl
  refine zdj ?_
  exact q _ s1
 | draw hd lo hi=>
  obtain⟨a,xs,rfl,hA,hx⟩:=zeo hR
  obtain⟨v1,r1,rfl,e1,hx⟩:=zaW hx
  obtain⟨v2,r2,rfl,e2,hx⟩:=zaW hx
  obtain⟨v3,r3,rfl,e3,hx⟩:=zaW hx
  obtain⟨v4,r4,rfl,e4,hx⟩:=zaW hx
  cases zd6 hx;cases zfG e1;cases zdI e2;cases zdI e3;cases zdI e4
  ac_rfl
  refine za8 hA (v:=.str "draw") rfl ?_
  ac_rfl
  rw[znh.1]
  ac_rfl
  rw[znh.2]
  ac_rfl
  rw[decide_eq_true rfl]
  ac_rfl
  refine za8 hA (v:=.int hd) rfl ?_
  ac_rfl
  refine zk9 ?_
  show ∃ c,V.bl (zbK hd)=.bl c∧_
  simp only[zbb] at q
  refine zdL (λe=>?_) (λe=>by have q1:=q _ (Same.refl _);rw[e] at q1;exact q1)
  rw[e,Bool.true_and] at q
  ac_rfl
  refine za8 hA (v:=.int lo) rfl ?_
  ac_rfl
  refine za8 hA (v:=.int hi) rfl ?_
  ac_rfl
  exact⟨lo,hi,rfl,q _ (Same.refl _)⟩
 | turn l p=>
  obtain⟨a,xs,rfl,hA,hx⟩:=zeo hR
  obtain⟨v1,r1,rfl,e1,hx⟩:=zaW hx
  obtain⟨v2,r2,rfl,e2,hx⟩:=zaW hx
  obtain⟨v3,r3,rfl,e3,hx⟩:=zaW hx
  cases zd6 hx;cases zfG e1;cases zdI e3
  obtain⟨la,rfl,hla⟩:=zbi.mp e2
  ac_rfl
  refine za8 hA (v:=.str "turn") rfl ?_
  ac_rfl
  rw[zks.1]
  ac_rfl
  rw[zks.2.1]
  ac_rfl
  rw[zks.2.2]
  ac_rfl
  rw[decide_eq_true rfl]
  ac_rfl
  refine za8 hA (v:=.ref la) rfl ?_
  ac_rfl
  simp only[zbb] at q
  refine⟨la,gl,l,[7,8],rfl,hla,hL _,h9,by decide,sp9,λH1 s1=>?_⟩
  refine zdL (λe=>?_) (λe=>by have q1:=q _ s1;rw[e] at q1;exact q1)
  rw[e,Bool.true_and] at q
  ac_rfl
  refine za8 (s1.tup hA) (v:=.int p) rfl ?_
  ac_rfl
  refine zdj ?_
  exact q _ s1
 | hold l=>
  obtain⟨a,xs,rfl,hA,hx⟩:=zeo hR
  obtain⟨v1,r1,rfl,e1,hx⟩:=zaW hx
  obtain⟨v2,r2,rfl,e2,hx⟩:=zaW hx
  cases zd6 hx;cases zfG e1
  obtain⟨la,rfl,hla⟩:=zbi.mp e2
  ac_rfl
  refine za8 hA (v:=.str "hold") rfl ?_
  ac_rfl
  rw[zir.1]
  ac_rfl
  rw[zir.2.1]
  ac_rfl
  rw[zir.2.2.1]
  ac_rfl
  rw[zir.2.2.2]
  ac_rfl
  rw[decide_eq_true rfl]
  ac_rfl
  refine za8 hA (v:=.ref la) rfl ?_
  ac_rfl
  exact⟨la,gl,l,[7,8],rfl,hla,hL _,h9,by decide,sp9,λH1 s1=>q _ s1⟩
 | call m g0 g1 t0 t1=>
  obtain⟨a,xs,rfl,hA,hx⟩:=zeo hR
  obtain⟨v1,r1,rfl,e1,hx⟩:=zaW hx
  obtain⟨v2,r2,rfl,e2,hx⟩:=zaW hx
  obtain⟨v3,r3,rfl,e3,hx⟩:=zaW hx
  obtain⟨v4,r4,rfl,e4,hx⟩:=zaW hx
  cases zd6 hx;cases zfG e1;cases zdI e2
  obtain⟨ga,rfl,hga⟩:=zla e3
  obtain⟨ta,rfl,hta⟩:=zla e4
  ac_rfl
  refine za8 hA (v:=.str "call") rfl ?_
  ac_rfl
  rw[zg8.1]
  ac_rfl
  rw[zg8.2.1]
  ac_rfl
  rw[zg8.2.2.1]
  ac_rfl
  rw[zg8.2.2.2.1]
  ac_rfl
  rw[zg8.2.2.2.2]
  ac_rfl
  refine za8 hA (v:=.int m) rfl ?_
  ac_rfl
  refine za8 hA (v:=.ref ga) rfl ?_
  ac_rfl
  refine za8 hA (v:=.ref ta) rfl ?_
  ac_rfl
  exact⟨m,ga,ta,g0,g1,t0,t1,rfl,hga,hta,λH1 s1=>q _ s1⟩
inductive Q12 (K:Fg) (vs:List V) (H:Hp) (Q:VK) (E:XK):Prop
 | mk (a:Addr) (ds:List Dd):vs=[.ref a]→Rep K H (.lst (ds.map toD)) (.ref a)→ds.length≤1000→(∀ d∈ds,zeH d)→(∀ H',Same H H'→Q (.bl (zfA ds)) H')→Q12 K vs H Q E
include B Z in
theorem zhq (Q25:Fn P w K mg b8 "between" ["low","number","high"] 1 (Q24 K)) (Q1b:Fn P w K mg b8 "deed_right" ["deed","last_place"] 5 (Q1a K)) (F:Fun K "deeds_right" "deeds_right" zck f fd) (m:mg "deeds_right"=some (.ref f)):Fn P w K mg b8 "deeds_right" ["deeds"] 6 (Q12 K):=by
 refine Fn.of (k:=5) F zeO m (λ_ _ _ _ _ _ us hl=>match us,hl with | [_],_=>rfl) (λvs H Q E h=>?_) (λcdv A outer s H vs Q E hr h=>?_)
 ·first
  | (obtain⟨_,_,rfl,_⟩:=h;rfl)
 obtain⟨a,ds,rfl,hA,l1000,h9,q⟩:=h
 refine⟨_,(zag (zay (i:=1) zeO.nd rfl (Or.inr rfl) (zaz (zcD K) rfl B.len L2.boot_len (zab (pv 0) zac)))
   (zaj (zao (zbR (zap Q25 hr rfl (zae zaa (zab (pv 1) (zab (zbd rfl B.c_MOST_DEEDS) zac)))) (zci (zaz (zi1 K rfl) rfl B.all L2.zdw (zcs (za1 rfl (COk.m (sc0:=zai zck) (N:=["deeds","count"]) (N':=["deeds","count","deed"]) (ms:=[false,false,true])) (zaX K (pv 0)) (λ_ _ _ _ _=>(zas (i:=2) (ndS (N:=["deeds","count","deed"])) rfl (Or.inl rfl))) (λ_ _ _ _ _=>zaG) (λ_ _ _ _ _=>(zap Q1b hr rfl (zab (pv 2) (zab (pv 1) zac))))) zac))))))),?_⟩
 unfold Rep at hA
 obtain⟨a',xs,e,hA,hx⟩:=hA
 cases e
 have lx:=hx.length
 rw[zlm] at lx
 unfold zfA btw at q
 ac_rfl
 refine zcZ (.inl hA) ?_
 rw[←lx]
 ac_rfl
 refine zdj ?_
 refine zdL (λe=>?_) (λe=>by have q1:=q _ (Same.refl _);rw[e] at q1;exact q1)
 rw[e,Bool.true_and] at q
 ac_rfl
 refine⟨a,rfl,⟨_,hA⟩,?_⟩
 refine zaK (zaO hA) ((ds.map (zbb (ds.length:Int))).map D.bl) (by simp;omega) (zan (by omega)) (λk x d H1 R hk hd s1 hx' hR=>?_) (λv H1 s1 n1=>?_)
 ·obtain⟨d2,hd2,hrx⟩:=Reps.get' hx hx'
  rw[zgm] at hd2
  obtain⟨l,hl,rfl⟩:=zme.mp hd2
  rw[zgm,zgm,hl] at hd
  cases hd
  ac_rfl
  refine⟨_,_,l,rfl,Rep.same s1 _ hrx,h9 l (zmg hl),λH2 s2=>?_⟩
  exact hR _ _ s2 New.bl
 obtain⟨la,rfl,la0,la1⟩:=New.bls n1
 ac_rfl
 refine ziZ (SqL.of la1) ?_
 exact q _ s1
inductive Q14 (K:Fg) (C:Nat→Addr) (vs:List V) (H:Hp) (Q:VK) (E:XK):Prop
 | mk (p:Addr) (needs leaves:List (List Int)) (ds:List Dd) (notes:List (List (List Int))):vs=[.ref p]→zbF K (C 0) H p needs leaves (ds.map toD) notes→notes.length≤1000→(∀ ls∈notes,ls.length≤1000∧∀ l∈ls,l.length=9)→(∀ H',Same H H'→Q (.bl (zfB ds notes)) H')→Q14 K C vs H Q E
include B Z in
theorem zhr (Q17:Fn P w K mg b8 "lines_right" ["lines","nought_spots"] 4 (Q16 K)) (F:Fun K "notes_right" "notes_right" zcl f fd) (m:mg "notes_right"=some (.ref f)):Fn P w K mg b8 "notes_right" ["craft"] 5 (Q14 K C):=by
 refine Fn.of (k:=4) F zeP m (λ_ _ _ _ _ _ us hl=>match us,hl with | [_],_=>rfl) (λvs H Q E h=>?_) (λcdv A outer s H vs Q E hr h=>?_)
 ·first
  | (obtain⟨_,_,_,_,_,rfl,_⟩:=h;rfl)
 obtain⟨p,needs,leaves,ds,notes,rfl,hC,l1000,h9,q⟩:=h
 obtain⟨gl,g_LEFT_SPOTS,hL⟩:=B.t_LEFT_SPOTS
 have sp9:∀ s∈([7,8]:List Nat),s<9:=by decide
 refine⟨_,(zag (zay (i:=1) zeP.nd rfl (Or.inl rfl) (zbh (k_eq K hr) (zaz (zcD K) rfl B.len L2.boot_len (zbP (zbD K (pv 0) rfl) zac)) (zaz (zcD K) rfl B.len L2.boot_len (zbP (zbD K (pv 0) rfl) zac)) (zav _)))
   (zaj (zao (zbR (pv 1) (zci (zaz (zi1 K rfl) rfl B.all L2.zdw (zcs (za1 rfl (COk.m (sc0:=zai zcl) (N:=["craft","as_many"]) (N':=["craft","as_many","lines"]) (ms:=[false,false,true])) (zaX K (zbD K (pv 0) rfl)) (λ_ _ _ _ _=>(zas (i:=2) (ndS (N:=["craft","as_many","lines"])) rfl (Or.inl rfl))) (λ_ _ _ _ _=>zaG) (λ_ _ _ _ _=>(zap Q17 hr rfl (zab (pv 2) (zab (zdF rfl g_LEFT_SPOTS) zac))))) zac))))))),?_⟩
 obtain⟨dx,w1,w2,w3,w4,hp,r1,r2,r3,r4⟩:=hC
 unfold Rep at r3 r4
 obtain⟨b3,xs3,rfl,q3,z3⟩:=r3
 obtain⟨b4,xs4,rfl,q4,z4⟩:=r4
 have m3:=z3.length
 have m4:=z4.length
 rw[zlm] at m3 m4
 unfold zfB at q
 ac_rfl
 refine⟨p,(C 0),dx,_,_,rfl,hp,Z.c_Craft,Z.n_Craft_notes,zd4 _ _ _ _,?_⟩
 ac_rfl
 refine zcZ (.inl q4) ?_
 ac_rfl
 refine⟨p,(C 0),dx,_,_,rfl,hp,Z.c_Craft,Z.n_Craft_deeds,zcN _ _ _ _,?_⟩
 ac_rfl
 refine zcZ (.inl q3) ?_
 rw[←m3,←m4]
 ac_rfl
 refine zcT (λe=>?_) (λe=>by have q1:=q _ (Same.refl _);rw[e] at q1;exact q1)
 rw[e,Bool.true_and] at q
 ac_rfl
 refine⟨p,(C 0),dx,_,_,rfl,hp,Z.c_Craft,Z.n_Craft_notes,zd4 _ _ _ _,?_⟩
 refine⟨b4,rfl,⟨_,q4⟩,?_⟩
 refine zaK (zaO q4) ((notes.map (zdG [7,8])).map D.bl) (by simp;omega) (zan (by omega)) (λk x d H1 R hk hd s1 hx' hR=>?_) (λv H1 s1 n1=>?_)
 ·obtain⟨d2,hd2,hrx⟩:=Reps.get' z4 hx'
  rw[zgm] at hd2
  obtain⟨l,hl,rfl⟩:=zme.mp hd2
  rw[zgm,zgm,hl] at hd
  cases hd
  have hr':=Rep.same s1 _ hrx
  obtain⟨xa,rfl⟩:∃ b,x=.ref b:=by unfold zaF Rep at hrx;obtain⟨a,_,e,_⟩:=hrx;exact⟨a,e⟩
  have h9':=h9 l (zmg hl)
  ac_rfl
  refine⟨xa,gl,l,[7,8],rfl,hr',hL _,h9'.1,h9'.2,by decide,sp9,λH2 s2=>?_⟩
  exact hR _ _ s2 New.bl
 obtain⟨la,rfl,la0,la1⟩:=New.bls n1
 ac_rfl
 refine ziZ (SqL.of la1) ?_
 exact q _ s1
inductive Qf (K:Fg) (C:Nat→Addr) (vs:List V) (H:Hp) (Q:VK) (E:XK):Prop
 | mk (p:Addr) (needs leaves:List (List Int)) (ds:List Dd) (notes:List (List (List Int))):vs=[.ref p]→zbF K (C 0) H p needs leaves (ds.map toD) notes→needs.length≤1000→leaves.length≤1000→ds.length≤1000→notes.length≤1000→(∀ l∈needs,l.length=9)→(∀ l∈leaves,l.length=9)→(∀ d∈ds,zeH d)→(∀ ls∈notes,ls.length≤1000∧∀ l∈ls,l.length=9)→(∀ H',Same H H'→Q (.bl (zc4 needs leaves ds notes)) H')→Qf K C vs H Q E
include B Z in
theorem zoz (Q11:Fn P w K mg b8 "oath_right" ["craft"] 5 (Q10 K C)) (Q13:Fn P w K mg b8 "deeds_right" ["deeds"] 6 (Q12 K)) (Q15:Fn P w K mg b8 "notes_right" ["craft"] 5 (Q14 K C)) (F:Fun K "right" "right" zhQ f fd) (m:mg "right"=some (.ref f)):Fn P w K mg b8 "right" ["craft"] 7 (Qf K C):=by
 refine Fn.of (k:=6) F zou m (λ_ _ _ _ _ _ us hl=>match us,hl with | [_],_=>rfl) (λvs H Q E h=>?_) (λcdv A outer s H vs Q E hr h=>?_)
 ·first
  | (obtain⟨_,_,_,_,_,rfl,_⟩:=h;rfl)
 obtain⟨p,needs,leaves,ds,notes,rfl,hC,ln,ll,ld,lo,h9n,h9l,h9d,h9o,q⟩:=h
 refine⟨_,(zaj (zao (zbR (zap Q11 hr rfl (zab (pv 0) zac)) (zbR (zap Q13 hr rfl (zbP (zbD K (pv 0) rfl) zac)) (zci (zap Q15 hr rfl (zab (pv 0) zac))))))),?_⟩
 unfold zc4 at q
 ac_rfl
 refine⟨p,needs,leaves,_,notes,rfl,hC,ln,ll,h9n,h9l,λH1 s1=>?_⟩
 refine zdL (λe=>?_) (λe=>by have q1:=q _ s1;rw[e] at q1;exact q1)
 rw[e,Bool.true_and] at q
 ac_rfl
 obtain⟨dx,w1,w2,w3,w4,hp,r1,r2,r3,r4⟩:=zbF.same s1 hC
 obtain⟨b3,rfl⟩:∃ b,w3=.ref b:=by unfold Rep at r3;obtain⟨a,_,e,_⟩:=r3;exact⟨a,e⟩
 refine⟨p,(C 0),dx,_,_,rfl,hp,Z.c_Craft,Z.n_Craft_deeds,zcN _ _ _ _,?_⟩
 ac_rfl
 refine⟨b3,ds,rfl,r3,ld,h9d,λH2 s2=>?_⟩
 have s3:=s1.trans s2
 refine zdL (λe=>?_) (λe=>by have q1:=q _ s3;rw[e] at q1;exact q1)
 rw[e,Bool.true_and] at q
 ac_rfl
 exact⟨p,needs,leaves,ds,notes,rfl,zbF.same s3 hC,lo,h9o,λH4 s4=>q _ (s3.trans s4)⟩
inductive Q26 (K:Fg) (C:Nat→Addr) (vs:List V) (H:Hp) (Q:VK) (E:XK):Prop
 | mk (p:Addr) (place:Int) (needs leaves:List (List Int)) (deeds:List D) (notes:List (List (List Int))):vs=[.ref p,.int place]→zbF K (C 0) H p needs leaves deeds notes→0≤place→place≤(deeds.length:Int)→deeds.length=notes.length→deeds.length≤1000→leaves.length≤1000→(∀ l∈leaves,l.length=9)→(∀ ls∈notes,ls.length≤1000)→(∀ v H',Same H H'→New H H' (zaF (dueL leaves notes place)) v→Q v H')→Q26 K C vs H Q E
include B Z in
theorem zni (Q25:Fn P w K mg b8 "between" ["low","number","high"] 1 (Q24 K)) (Q8:Fn P w K mg b8 "copied_lines" ["lines"] 1 (Q7 K)) (Q0:Fn P w K mg b8 "bare" ["i"] 1 (zew K)) (Q5:Fn P w K mg b8 "turned" ["line","eight"] 2 (Q4 K)) (F:Fun K "due_at" "due_at" zex f fd) (m:mg "due_at"=some (.ref f)):Fn P w K mg b8 "due_at" ["craft","place"] 3 (Q26 K C):=by
 refine Fn.of (k:=2) F zjy m (λ_ _ _ _ _ _ us hl=>match us,hl with | [_,_],_=>rfl) (λvs H Q E h=>?_) (λcdv A outer s H vs Q E hr h=>?_)
 ·first
  | (obtain⟨_,_,_,_,_,_,rfl,_⟩:=h;rfl)
 obtain⟨p,place,needs,leaves,deeds,notes,rfl,hC,h0,hn,hdn,h1000,hl1000,h9,hns,q⟩:=h
 obtain⟨ga,g_LEFT_AS_HANDS,hT⟩:=B.t_LEFT_AS_HANDS
 refine⟨_,(zag (za0 (zau (k_eq K hr) (pv 1) (zaz (zcD K) rfl B.len L2.boot_len (zbP (zbD K (pv 0) rfl) zac)) (zav _)) (zag (zay (i:=2) zjy.nd rfl (Or.inr rfl) (za1 rfl (COk.m (sc0:=zai zex) (N:=["craft","place","eight"]) (N':=["craft","place","eight","i"]) (ms:=[false,false,false,true])) (zi2 K (zdF rfl g_LEFT_AS_HANDS)) (λ_ _ _ _ _=>(zas (i:=3) (ndS (N:=["craft","place","eight","i"])) rfl (Or.inl rfl))) (λ_ _ _ _ _=>zaG) (λ_ _ _ _ _=>(zap Q0 hr rfl (zab (pv 3) zac)))))
   (zaj (zao (za1 rfl (COk.m (sc0:=zai zex) (N:=["craft","place","eight"]) (N':=["craft","place","eight","line"]) (ms:=[false,false,false,true])) (zaX K (zbD K (pv 0) rfl)) (λ_ _ _ _ _=>(zas (i:=3) (ndS (N:=["craft","place","eight","line"])) rfl (Or.inl rfl))) (λ_ _ _ _ _=>zaG) (λ_ _ _ _ _=>(zap Q5 hr rfl (zab (pv 3) (zab (pv 2) zac)))))))) zax)
   (zag (za0 (zcQ (zap Q25 hr rfl (zae zaa (zab (pv 1) (zaP (zam ziG (zaz (c_min rfl) rfl B.min L2.zn4 (zaC (zaz (zcD K) rfl B.len L2.boot_len (zbP (zbD K (pv 0) rfl) zac)) (zaC (zaz (zcD K) rfl B.len L2.boot_len (zbP (zbD K (pv 0) rfl) zac)) zac))) zaa) zac))))) (zaj (zao (zap Q8 hr rfl (zaR (zaH (k_ix K) (zbD K (pv 0) rfl) (pv 1) (λ_ _=>rfl)) zac)))) zax)
   (zaj (zao (zaE zac))))),?_⟩
 obtain⟨dx,w1,w2,w3,w4,hp,r1,r2,r3,r4⟩:=hC
 unfold zaF Rep at r2
 unfold Rep at r3 r4
 obtain⟨b2,xs2,rfl,q2,z2⟩:=r2
 obtain⟨b3,xs3,rfl,q3,z3⟩:=r3
 obtain⟨b4,xs4,rfl,q4,z4⟩:=r4
 have m2:=z2.length
 have m3:=z3.length
 have m4:=z4.length
 rw[zlm] at m2 m4
 ac_rfl
 refine⟨p,(C 0),dx,_,_,rfl,hp,Z.c_Craft,Z.n_Craft_deeds,zcN _ _ _ _,?_⟩
 ac_rfl
 refine zcZ (.inl q3) ?_
 ac_rfl
 unfold dueL at q
 refine ite2 (λe=>?_) (λe=>?_)
 ·have e':place=(xs3.length:Int):=of_decide_eq_true e
  rw[if_pos (by omega)] at q
  ac_rfl
  refine⟨ga,rfl,⟨_,hT _⟩,?_⟩
  refine zaK (n:=8) (zfa (xs:=zkW.map V.int) (hT H)) (zdO.map nums) (by simp[zdO,zkW]) (by decide) (λj x d H1 R hj hd s1 hx hR=>?_) (λv H1 s1 n1=>?_)
  ·unfold zdO at hd
   rw[zgm] at hx
   obtain⟨i,hi,rfl⟩:=zme.mp hx
   rw[zgm,zgm,hi] at hd
   cases hd
   ac_rfl
   refine zdC λv H2 s2 n2=>?_
   exact hR _ _ s2 n2
  have hE:Rep K H1 (.lst (zdO.map nums)) v:=New.rep n1
  obtain⟨ea,evs,rfl,ea0,ea1,ew⟩:=New.news n1
  ac_rfl
  refine⟨p,(C 0),dx,_,_,rfl,s1 _ _ hp,Z.c_Craft,Z.n_Craft_leaves,zcV _ _ _ _,?_⟩
  refine⟨b2,rfl,⟨_,s1.seq q2⟩,?_⟩
  refine zaK (zaO (s1.seq q2)) ((leaves.map λl=>zaw l zdO).map nums) (by rw[zlm,zlm];omega) (zan (by omega)) (λj x d H2 R hj hd s2 hx hR=>?_) (λv H2 s2 n2=>?_)
  ·obtain⟨d2,hd2,hrx⟩:=Reps.get' z2 hx
   rw[zgm] at hd2
   obtain⟨l,hl,rfl⟩:=zme.mp hd2
   rw[zgm,zgm,hl] at hd
   cases hd
   obtain⟨xa,rfl,hxa⟩:=zbi.mp (Rep.same (s1.trans s2) _ hrx)
   have l9:=h9 l (zmg hl)
   cases l with
   | nil=>simp at l9
   | cons c fs=>
    ac_rfl
    refine⟨xa,ea,c,fs,zdO,rfl,hxa,Rep.same s2 _ hE,by simpa using l9,by simp[zdO,zkW],zlv,λi l w el _ n hn=>?_,λv' H3 s3 n3=>?_⟩
    ·rcases zlw l (zmg el) n hn with z | z <;> subst z <;> exact .inl ⟨by decide,by decide⟩
    ·exact hR _ _ s3 n3
  exact q _ _ (s1.trans s2) (n2.back s1)
 ·have e':¬ place=(xs3.length:Int):=of_decide_eq_false (Bool.eq_false_iff.mpr e)
  rw[if_neg (by omega)] at q
  ac_rfl
  refine⟨p,(C 0),dx,_,_,rfl,hp,Z.c_Craft,Z.n_Craft_deeds,zcN _ _ _ _,?_⟩
  ac_rfl
  refine zcZ (.inl q3) ?_
  ac_rfl
  refine⟨p,(C 0),dx,_,_,rfl,hp,Z.c_Craft,Z.n_Craft_notes,zd4 _ _ _ _,?_⟩
  ac_rfl
  refine zcZ (.inl q4) ?_
  ac_rfl
  refine i_min ?_
  ac_rfl
  refine zdj ?_
  rw[show (if ((xs4.length:Nat):Int)<((xs3.length:Nat):Int) then ((xs4.length:Nat):Int) else ((xs3.length:Nat):Int))=(xs3.length:Int) by rw[if_neg (by omega)],decide_eq_true h0,decide_eq_true (show place≤(xs3.length:Int) - 1 by omega)]
  show ∃ c,V.bl true=.bl c∧_
  ac_rfl
  refine⟨p,(C 0),dx,_,_,rfl,hp,Z.c_Craft,Z.n_Craft_notes,zd4 _ _ _ _,?_⟩
  ac_rfl
  have pl:place.toNat<notes.length:=by omega
  obtain⟨x,hx,hr4⟩:=z4.get (i:=place.toNat) (d:=zaF notes[place.toNat]) (by simp[pl])
  have ei:atI xs4 place=some x:=by
   have:=zaN hx
   rwa [show ((place.toNat:Nat):Int)=place by omega] at this
  obtain⟨b,rfl⟩:∃ b,x=.ref b:=by unfold zaF Rep at hr4;obtain⟨a,_,e,_⟩:=hr4;exact⟨a,e⟩
  refine zbA q4 ei ?_
  ac_rfl
  refine⟨b,_,rfl,hr4,hns _ (List.getElem_mem pl),λv H1 s1 n1=>?_⟩
  refine q _ _ s1 ?_
  rw[show notes.getD place.toNat []=notes[place.toNat] by simp[List.getD,pl]]
  exact n1
inductive Q39 (K:Fg) (vs:List V) (H:Hp) (Q:VK) (E:XK):Prop
 | mk (d:Addr) (kvs:List (Key × V)) (ch:Nat→Option (List Int)):vs=[.ref d]→H d=some (.dK kvs)→(∀ i:Nat,i<8→(ch i=none∧valV kvs (.inl (0+(i:Int)))=none)∨∃ a l,ch i=some l∧valV kvs (.inl (0+(i:Int)))=some (.ref a)∧l.length=9∧H a=some (.lst (l.map V.int)))→(∀ a H',Same H H'→H a=none→Ls H' a (zaA ch)→Q (.ref a) H')→Q39 K vs H Q E
theorem zjH (i:Int):(zah i).length=9:=by simp[zah]
theorem zbI (ch:Nat→Option (List Int)):(zaA ch).length=8:=by simp[zaA]
theorem zlG {i n:Int}(h:n∈zah i):n=0∨n=1:=by
 unfold zah at h
 rcases List.mem_cons.mp h with h | h
 ·exact .inl h
 ·obtain⟨k,_,rfl⟩:=zmm.mp h
  split
  ·exact .inr rfl
  ·exact .inl rfl
theorem zcz (i:Int):Sm (zah i):=λn hn=>by rcases zlG hn with z | z <;> subst z <;> exact⟨by decide,by decide⟩
theorem zd7 {eight:List (List Int)}{ws:List Int}(h:∀ l∈eight,Sm l):zor eight ws:=λi l w e _ n hn=>.inl (h l (zmg e) n hn)
theorem zbq {ch:Nat→Option (List Int)}{P:List Int→Prop}(hb:∀ i:Int,P (zah i)) (hc:∀ i l,ch i=some l→P l):∀ l∈zaA ch,P l:=λl hl=>by
 obtain⟨i,_,rfl⟩:=zmm.mp hl
 cases e:ch i with
 | none=>exact hb _
 | some l=>exact hc i l e
theorem zfH {k:Int}{l:List Int}{P:List Int→Prop}(h:P l):∀ i m,ch1 k l i=some m→P m:=λi m e=>by
 unfold ch1 at e
 split at e
 ·cases e;exact h
 ·cases e
theorem znj {H:Hp}{k:Int}{l:List Int}{a:Addr}(h9:l.length=9) (ha:H a=some (.lst (l.map V.int))):∀ i:Nat,i<8→(ch1 k l i=none∧valV (zb1 [] [(Sum.inl k,V.ref a)]) (.inl (0+(i:Int)))=none)∨∃ b m,ch1 k l i=some m∧valV (zb1 [] [(Sum.inl k,V.ref a)]) (.inl (0+(i:Int)))=some (.ref b)∧m.length=9∧H b=some (.lst (m.map V.int)):=λi _=>by
 have e:valV (zb1 [] [((Sum.inl k:Key),V.ref a)]) (.inl (0+(i:Int)))=if (Sum.inl (0+(i:Int)):Key)=Sum.inl k then some (.ref a) else none:=by
  show valV (putK [] _ _) _=_
  rw[zdu];rfl
 by_cases z:k=0+(i:Int)
 ·refine .inr ⟨a,l,by unfold ch1;rw[if_pos z],?_,h9,ha⟩
  rw[e,if_pos (by rw[z])]
 ·refine .inl ⟨by unfold ch1;rw[if_neg z],?_⟩
  rw[e,if_neg (by intro w;injection w with w;exact z w.symm)]
theorem zit {k0 k1:Int}{l0 l1:List Int}{P:List Int→Prop}(h0:P l0) (h1:P l1):∀ i m,ch2 k0 l0 k1 l1 i=some m→P m:=λi m e=>by
 unfold ch2 at e
 split at e
 ·cases e;exact h1
 split at e
 ·cases e;exact h0
 ·cases e
theorem zo4 {H:Hp}{k0 k1:Int}{l0 l1:List Int}{a0 a1:Addr}(h90:l0.length=9) (h91:l1.length=9) (ha0:H a0=some (.lst (l0.map V.int))) (ha1:H a1=some (.lst (l1.map V.int))):∀ i:Nat,i<8→(ch2 k0 l0 k1 l1 i=none∧valV (zb1 [] [(Sum.inl k0,V.ref a0),(Sum.inl k1,V.ref a1)]) (.inl (0+(i:Int)))=none)∨∃ b m,ch2 k0 l0 k1 l1 i=some m∧valV (zb1 [] [(Sum.inl k0,V.ref a0),(Sum.inl k1,V.ref a1)]) (.inl (0+(i:Int)))=some (.ref b)∧m.length=9∧H b=some (.lst (m.map V.int)):=λi _=>by
 have e:valV (zb1 [] [((Sum.inl k0:Key),V.ref a0),(Sum.inl k1,V.ref a1)]) (.inl (0+(i:Int)))=if (Sum.inl (0+(i:Int)):Key)=Sum.inl k1 then some (.ref a1) else if (Sum.inl (0+(i:Int)):Key)=Sum.inl k0 then some (.ref a0) else none:=by
  show valV (putK (putK [] _ _) _ _) _=_
  rw[zdu,zdu];rfl
 by_cases z1:k1=0+(i:Int)
 ·refine .inr ⟨a1,l1,by unfold ch2;rw[if_pos z1],?_,h91,ha1⟩
  rw[e,if_pos (by rw[z1])]
 ·have n1:¬ (Sum.inl (0+(i:Int)):Key)=Sum.inl k1:=by intro w;injection w with w;exact z1 w.symm
  by_cases z0:k0=0+(i:Int)
  ·refine .inr ⟨a0,l0,by unfold ch2;rw[if_neg z1,if_pos z0],?_,h90,ha0⟩
   rw[e,if_neg n1,if_pos (by rw[z0])]
  ·refine .inl ⟨by unfold ch2;rw[if_neg z1,if_neg z0],?_⟩
   rw[e,if_neg n1,if_neg (by intro w;injection w with w;exact z0 w.symm)]
include B Z in
theorem ziu (Q0:Fn P w K mg b8 "bare" ["i"] 1 (zew K)) (F:Fun K "eight_with" "eight_with" zcP f fd) (m:mg "eight_with"=some (.ref f)):Fn P w K mg b8 "eight_with" ["changes"] 2 (Q39 K):=by
 refine Fn.of (k:=1) F zik m (λ_ _ _ _ _ _ us hl=>match us,hl with | [_],_=>rfl) (λvs H Q E h=>?_) (λcdv A outer s H vs Q E hr h=>?_)
 ·first
  | (obtain⟨_,_,_,rfl,_⟩:=h;rfl)
 obtain⟨d,kvs,ch,rfl,hd,hch,q⟩:=h
 refine⟨_,(zaj (zao (za1 rfl (COk.m (sc0:=zai zcP) (N:=["changes"]) (N':=["changes","i"]) (ms:=[false,true])) (zbJ rfl B.range (zab (zbd rfl B.c_FACTORS) zac)) (λ_ _ _ _ _=>(zas (i:=1) (ndS (N:=["changes","i"])) rfl (Or.inl rfl))) (λ_ _ _ _ _=>zaG) (λ_ _ _ _ _=>(znO (hr_u hr) (pv 0) (pv 1) (zap Q0 hr rfl (zab (pv 1) zac)) ⟨rfl,rfl,rfl,rfl⟩))))),?_⟩
 have h9:∀ l∈zaA ch,l.length=9:=λl hl=>by
  obtain⟨i,hi,rfl⟩:=zmm.mp hl
  rcases hch i (List.mem_range.mp hi) with ⟨e,_⟩ | ⟨a,l,e,_,hl9,_⟩
  ·rw[e];exact zjH _
  ·rw[e];exact hl9
 ac_rfl
 refine zc0 (by decide) (by decide) ?_
 refine zpI (n:=8) zcC (zaA ch) (zbI ch) (by decide) h9 (λi x l H1 R hi hl s1 hx hR=>?_) (λa H1 s1 ha hL=>?_)
 ·subst hx
  have el:l=(ch i).getD (zah (0+(i:Int))):=by
   unfold zaA at hl
   rw[zgm,List.getElem?_range hi] at hl
   cases hl;rfl
  ac_rfl
  refine⟨d,rfl,.inl ⟨kvs,.inl (s1 _ _ hd)⟩,?_⟩
  ac_rfl
  refine zdC λv H2 s2 n2=>?_
  obtain⟨b,rfl,b0,b1⟩:=New.iif.mp n2
  have hg:DGet H2 d (.int (0+(i:Int))) (valV kvs (.inl (0+(i:Int)))):=DGet.k (k:=.inl (0+(i:Int))) (s2 _ _ (s1 _ _ hd))
  refine⟨_,hg,?_⟩
  rcases hch i hi with ⟨e,ev⟩ | ⟨a,l',e,ev,_,ha⟩
  ·rw[ev]
   exact hR b _ s2 (by rw[el,e];exact b1)
  ·rw[ev]
   exact hR a _ s2 (by rw[el,e];exact s2 _ _ (s1 _ _ ha))
 ·ac_rfl
  exact q a H1 s1 ha hL
inductive Q35 (K:Fg) (vs:List V) (H:Hp) (Q:VK) (E:XK):Prop
 | mk (a b:Addr) (goals hyps:List (List Int)):vs=[.ref a,.ref b]→Rep K H (zaF goals) (.ref a)→Rep K H (zaF hyps) (.ref b)→goals.length≤1000→hyps.length≤1000→(∀ v H',Same H H'→New H H' (.lst (goals.map λg=>zec g hyps)) v→Q v H')→Q35 K vs H Q E
include B Z in
theorem zjI (Q8:Fn P w K mg b8 "copied_lines" ["lines"] 1 (Q7 K)) (F:Fun K "each_from" "each_from" zdd f fd) (m:mg "each_from"=some (.ref f)):Fn P w K mg b8 "each_from" ["goals","hypotheses"] 2 (Q35 K):=by
 refine Fn.of (k:=1) F zjz m (λ_ _ _ _ _ _ us hl=>match us,hl with | [_,_],_=>rfl) (λvs H Q E h=>?_) (λcdv A outer s H vs Q E hr h=>?_)
 ·first
  | (obtain⟨_,_,_,_,rfl,_⟩:=h;rfl)
 obtain⟨a,b,goals,hyps,rfl,hA,hB,hg,hh,q⟩:=h
 refine⟨_,(zaj (zao (za1 rfl (COk.m (sc0:=zai zdd) (N:=["goals","hypotheses"]) (N':=["goals","hypotheses","goal"]) (ms:=[false,false,true])) (zaX K (pv 0)) (λ_ _ _ _ _=>(zas (i:=2) (ndS (N:=["goals","hypotheses","goal"])) rfl (Or.inl rfl))) (λ_ _ _ _ _=>zaG) (λ_ _ _ _ _=>(zbn (zaC (zcR (zi0 K) rfl B.list L2.zcS (zab (pv 2) zac)) (zaC (zap Q8 hr rfl (zab (pv 1) zac)) zac))))))),?_⟩
 unfold zaF Rep at hA
 obtain⟨_,xs,e,hA,hx⟩:=hA
 cases e
 have lx:=hx.length
 rw[zlm] at lx
 ac_rfl
 refine⟨a,rfl,⟨_,hA⟩,?_⟩
 refine zaK (zaO hA) (goals.map λg=>zec g hyps) (by simp[lx]) (zan (by omega)) (λi x d H1 R hi hd s1 hx' hR=>?_) (λv H1 s1 n1=>?_)
 ·obtain⟨d2,hd2,hrx⟩:=hx.get' hx'
  rw[zgm] at hd2
  obtain⟨l,hl',rfl⟩:=zme.mp hd2
  rw[zgm,hl'] at hd
  cases hd
  obtain⟨xa,rfl,hxa⟩:=zbi.mp (Rep.same s1 _ hrx)
  ac_rfl
  refine zfb (.inl hxa) λp hp=>?_
  have t1:=zaf hp (.lst (l.map V.int))
  ac_rfl
  refine⟨b,hyps,rfl,Rep.same (s1.trans t1) _ hB,hh,λv H2 s2 n2=>?_⟩
  ac_rfl
  refine⟨(by walk_at "sm"),λT hT=>?_⟩
  have t3:=zaf hT (.tup [.ref p,v])
  obtain⟨fp,f1,f2,f3⟩:=n2
  have pn:p∉fp:=λm=>by have:=f3 p m;rw[zad] at this;cases this
  refine hR _ _ (t1.trans (s2.trans t3)) (New.tup (fp:=p::fp) (zak.cany (f:=[p]) (fp:=fp) (RepF.line (t3 _ _ (s2 _ _ zad))) ?_) (List.nodup_cons.mpr ⟨pn,f2⟩) (λc hc=>?_) zad)
  ·have:=zak.cany (RepF.sq t3.sq _ f1) (zak.nil (H:=upd H2 T (.tup [.ref p,v])))
   rw[List.append_nil] at this
   exact this
  ·rcases List.mem_cons.mp hc with z | z
   ·rw[z];exact hp
   ·exact t1.free (f3 c z)
 ·ac_rfl
  exact q _ _ s1 n1
inductive Q37 (K:Fg) (vs:List V) (H:Hp) (Q:VK) (E:XK):Prop
 | mk (a b:Addr) (ls eight:List (List Int)):vs=[.ref a,.ref b]→Rep K H (zaF ls) (.ref a)→Rep K H (.lst (eight.map nums)) (.ref b)→ls.length≤1000→(∀ l∈ls,l.length=9∧zor eight l.tail)→eight.length=8→(∀ l∈eight,l.length=9)→(∀ v H',Same H H'→New H H' (zaF (ls.map λl=>zaw l eight)) v→Q v H')→Q37 K vs H Q E
include B Z in
theorem ziv (Q5:Fn P w K mg b8 "turned" ["line","eight"] 2 (Q4 K)) (F:Fun K "all_turned" "all_turned" zcO f fd) (m:mg "all_turned"=some (.ref f)):Fn P w K mg b8 "all_turned" ["lines","eight"] 3 (Q37 K):=by
 refine Fn.of (k:=2) F zij m (λ_ _ _ _ _ _ us hl=>match us,hl with | [_,_],_=>rfl) (λvs H Q E h=>?_) (λcdv A outer s H vs Q E hr h=>?_)
 ·first
  | (obtain⟨_,_,_,_,rfl,_⟩:=h;rfl)
 obtain⟨a,b,ls,eight,rfl,hA,hB,hl,hk,l8,e9,q⟩:=h
 refine⟨_,(zaj (zao (za1 rfl (COk.m (sc0:=zai zcO) (N:=["lines","eight"]) (N':=["lines","eight","line"]) (ms:=[false,false,true])) (zaX K (pv 0)) (λ_ _ _ _ _=>(zas (i:=2) (ndS (N:=["lines","eight","line"])) rfl (Or.inl rfl))) (λ_ _ _ _ _=>zaG) (λ_ _ _ _ _=>(zap Q5 hr rfl (zab (pv 2) (zab (pv 1) zac))))))),?_⟩
 unfold zaF Rep at hA
 obtain⟨_,xs,e,hA,hx⟩:=hA
 cases e
 have lx:=hx.length
 rw[zlm] at lx
 ac_rfl
 refine⟨a,rfl,⟨_,hA⟩,?_⟩
 refine zaK (zaO hA) ((ls.map λl=>zaw l eight).map nums) (by simp[lx]) (zan (by omega)) (λi x d H1 R hi hd s1 hx' hR=>?_) (λv H1 s1 n1=>?_)
 ·obtain⟨d2,hd2,hrx⟩:=hx.get' hx'
  rw[zgm] at hd2
  obtain⟨l,hl',rfl⟩:=zme.mp hd2
  rw[zgm,zgm,hl'] at hd
  cases hd
  obtain⟨xa,rfl,hxa⟩:=zbi.mp (Rep.same s1 _ hrx)
  obtain⟨l9,ok⟩:=hk l (zmg hl')
  obtain⟨c,fs,rfl⟩:∃ c fs,l=c::fs:=by
   cases l with
   | nil=>simp at l9
   | cons c fs=>exact⟨c,fs,rfl⟩
  ac_rfl
  refine⟨xa,b,c,fs,eight,rfl,hxa,Rep.same s1 _ hB,by simpa using l9,l8,e9,ok,λv H2 s2 n2=>?_⟩
  exact hR _ _ s2 n2
 ·ac_rfl
  exact q _ _ s1 n1
abbrev zo5:=kL
def zcF (K:Fg):Sp:=λvs H Q _=>∃ i:Int,vs=[.int i]∧∀ v H',Same H H'→New H H' (nums (zo5 i)) v→Q v H'
theorem zfI {H:Hp}{Q:VK}{E:XK}{i:Int}(q:∀ v H',Same H H'→New H H' (nums (zo5 i)) v→Q v H'):zcF K [.int i] H Q E:=⟨i,rfl,q⟩
include B Z in
theorem zkt (F:Fun K "constant" "constant" zey f fd) (m:mg "constant"=some (.ref f)):Fn P w K mg b8 "constant" ["number"] 1 (zcF K):=by
 refine Fn.of (k:=0) F zkp m (λ_ _ _ _ _ _ us hl=>match us,hl with | [_],_=>rfl) (λvs H Q E h=>?_) (λcdv A outer s H vs Q E hr h=>?_)
 ·first
  | (obtain⟨_,rfl,_⟩:=h;rfl)
 obtain⟨i,rfl,q⟩:=h
 refine⟨_,(zaj (zao (zam (zaL K) (zaE (zab (pv 0) zac)) (zam zbT (zaE (zae zaa zac)) (zbd rfl B.c_FACTORS))))),?_⟩
 ac_rfl
 refine⟨(by walk_at "sm"),λp hp=>?_⟩
 ac_rfl
 refine⟨(by walk_at "sm"),λp2 hp2=>?_⟩
 ac_rfl
 refine .inr ⟨p2,8,[.int 0],rfl,rfl,zad,by decide,by decide,by decide,λp3 hp3=>?_⟩
 have t1:=zaf hp (.lst [.int i])
 have t2:=zaf hp2 (.lst [.int 0])
 have t3:=zaf hp3 (.lst (List.replicate (8:Int).toNat [V.int 0]).flatten)
 ac_rfl
 refine zbz (t3 _ _ (t2 _ _ zad)) zad (zan (by show 1+8≤1000;decide)) λp4 hp4=>?_
 have s:=t1.trans (t2.trans t3)
 exact q _ _ (s.trans (zaf hp4 _)) (New.iif.mpr ⟨p4,rfl,s.free hp4,zad⟩)
theorem sm_k {n:Int}(h:-(2 ^ 64)<n∧n<2 ^ 64):Sm (kL n):=λm hm=>by
 unfold kL at hm
 rcases List.mem_cons.mp hm with z | z
 ·rw[z];exact h
 ·rw[(List.mem_replicate.mp z).2];exact⟨by decide,by decide⟩
theorem znk {P:List Int→Prop}(h4:P (zah 4)) (h5:P (zah 5)) (hk:P (kL 0)):∀ i m,ch4 i=some m→P m:=λi m e=>by
 unfold ch4 at e
 split at e
 ·cases e;exact h4
 split at e
 ·cases e;exact h5
 split at e
 ·cases e;exact hk
 split at e
 ·cases e;exact hk
 ·cases e
theorem zrz {H:Hp}{a b c d:Addr}(ha:H a=some (.lst ((zah 4).map V.int))) (hb:H b=some (.lst ((zah 5).map V.int))) (hc:H c=some (.lst ((kL 0).map V.int))) (hd:H d=some (.lst ((kL 0).map V.int))):∀ i:Nat,i<8→(ch4 i=none∧valV (zb1 [] [(Sum.inl 0,V.ref a),(Sum.inl 1,V.ref b),(Sum.inl 2,V.ref c),(Sum.inl 3,V.ref d)]) (.inl (0+(i:Int)))=none)∨∃ x m,ch4 i=some m∧valV (zb1 [] [(Sum.inl 0,V.ref a),(Sum.inl 1,V.ref b),(Sum.inl 2,V.ref c),(Sum.inl 3,V.ref d)]) (.inl (0+(i:Int)))=some (.ref x)∧m.length=9∧H x=some (.lst (m.map V.int)):=λi hi=>by
 have e:∀ k:Key,valV (zb1 [] [((Sum.inl 0:Key),V.ref a),(Sum.inl 1,V.ref b),(Sum.inl 2,V.ref c),(Sum.inl 3,V.ref d)]) k=if k=Sum.inl 3 then some (.ref d) else if k=Sum.inl 2 then some (.ref c) else if k=Sum.inl 1 then some (.ref b) else if k=Sum.inl 0 then some (.ref a) else none:=λk=>by
  simp only[zb1,List.foldl_cons,List.foldl_nil,zdu]
  rfl
 rw[e]
 match i,hi with
 | 0,_=>exact .inr ⟨a,_,rfl,rfl,zal 4,ha⟩
 | 1,_=>exact .inr ⟨b,_,rfl,rfl,zal 5,hb⟩
 | 2,_=>exact .inr ⟨c,_,rfl,rfl,zbC 0,hc⟩
 | 3,_=>exact .inr ⟨d,_,rfl,rfl,zbC 0,hd⟩
 | 4,_=>exact .inl ⟨rfl,rfl⟩
 | 5,_=>exact .inl ⟨rfl,rfl⟩
 | 6,_=>exact .inl ⟨rfl,rfl⟩
 | 7,_=>exact .inl ⟨rfl,rfl⟩
inductive Q29 (K:Fg) (C:Nat→Addr) (vs:List V) (H:Hp) (Q:VK) (E:XK):Prop
 | mk (p:Addr) (needs leaves:List (List Int)) (deeds:List D) (notes:List (List (List Int))):vs=[.ref p]→zbF K (C 0) H p needs leaves deeds notes→Good needs leaves deeds.length notes→(∀ v H',Same H H'→New H H' (.lst (zje needs leaves notes)) v→Q v H')→Q29 K C vs H Q E
include B Z in
theorem zg9 (Q3a:Fn P w K mg b8 "eight_with" ["changes"] 2 (Q39 K)) (Q36:Fn P w K mg b8 "each_from" ["goals","hypotheses"] 2 (Q35 K)) (Q38:Fn P w K mg b8 "all_turned" ["lines","eight"] 3 (Q37 K)) (Q0:Fn P w K mg b8 "bare" ["i"] 1 (zew K)) (Q3b:Fn P w K mg b8 "constant" ["number"] 1 (zcF K)) (Q27:Fn P w K mg b8 "due_at" ["craft","place"] 3 (Q26 K C)) (F:Fun K "first_duties" "first_duties" zcI f fd) (m:mg "first_duties"=some (.ref f)):Fn P w K mg b8 "first_duties" ["craft"] 4 (Q29 K C):=by
 refine Fn.of (k:=3) F zeu m (λ_ _ _ _ _ _ us hl=>match us,hl with | [_],_=>rfl) (λvs H Q E h=>?_) (λcdv A outer s H vs Q E hr h=>?_)
 ·first
  | (obtain⟨_,_,_,_,_,rfl,_⟩:=h;rfl)
 obtain⟨p,needs,leaves,deeds,notes,rfl,hC,hg,q⟩:=h
 refine⟨_,(zag (zay (i:=1) zeu.nd rfl (Or.inl rfl) (zap Q3a hr rfl (zbv (zfx (zcq zaa (zap Q0 hr rfl (zab (zbd rfl B.c_ASKED_0) zac)) (zcq zaa (zap Q0 hr rfl (zab (zbd rfl B.c_ASKED_1) zac)) (zcq zaa (zap Q3b hr rfl (zae zaa zac)) (zcq zaa (zap Q3b hr rfl (zae zaa zac)) zfw)))) rfl rfl (by simp) (by simp)) zac)))
   (zaj (zao (zap Q36 hr rfl (zaC (zap Q38 hr rfl (zaC (zap Q27 hr rfl (zab (pv 0) (zae zaa zac))) (zab (pv 1) zac))) (zbP (zbD K (pv 0) rfl) zac)))))),?_⟩
 walk_at "q"
 nofun
 refine zhG λdp hdp=>?_
 have u0:=zaf hdp (.dK [])
 nofun
 refine zdC λv H1 s1 n1=>?_
 obtain⟨b1,rfl,b10,b11⟩:=New.iif.mp n1
 nofun
 refine zdC λv H2 s2 n2=>?_
 obtain⟨b2,rfl,b20,b21⟩:=New.iif.mp n2
 nofun
 refine zfI λv H3 s3 n3=>?_
 obtain⟨b3,rfl,b30,b31⟩:=New.iif.mp n3
 nofun
 refine zfI λv H4 s4 n4=>?_
 obtain⟨b4,rfl,b40,b41⟩:=New.iif.mp n4
 nofun
 have d1:H1 dp=some (.dK []):=s1 _ _ zad
 have d4:H4 dp=some (.dK []):=s4 _ _ (s3 _ _ (s2 _ _ d1))
 have ne:∀ {b:Addr}{l:List Int},H4 b=some (.lst (l.map V.int))→b≠dp:=λe z=>by rw[z,d4] at e;cases e
 have f1:=s4 _ _ (s3 _ _ (s2 _ _ b11))
 have f2:=s4 _ _ (s3 _ _ b21)
 have f3:=s4 _ _ b31
 refine⟨d4,[(.inl 0,.ref b1),(.inl 1,.ref b2),(.inl 2,.ref b3),(.inl 3,.ref b4)],rfl,by simp,?_⟩
 have s05:Same H (upd H4 dp (.dK (zb1 [] [(.inl 0,.ref b1),(.inl 1,.ref b2),(.inl 2,.ref b3),(.inl 3,.ref b4)]))):=(u0.trans (s1.trans (s2.trans (s3.trans s4)))).put hdp
 nofun
 refine⟨dp,_,ch4,rfl,zad,zrz (by rw[zaq (ne f1)];exact f1) (by rw[zaq (ne f2)];exact f2) (by rw[zaq (ne f3)];exact f3) (by rw[zaq (ne b41)];exact b41),λea H6 s6 ea0 hE=>?_⟩
 have s06:=s05.trans s6
 have m9:∀ l∈zaA ch4,l.length=9:=zbq (λi=>zal i) (znk (zal 4) (zal 5) (zbC 0))
 have msm:∀ l∈zaA ch4,Sm l:=zbq (λi=>zcz i) (znk (zcz 4) (zcz 5) (sm_k ⟨by decide,by decide⟩))
 have gd:=hg.due 0
 nofun
 refine⟨p,0,needs,leaves,deeds,notes,rfl,hC.same s06,by decide,by omega,hg.dn,by have:=hg.d;omega,by have:=hg.l;omega,hg.l9,λls hl=>by have:=(hg.o ls hl).1;omega,λv H7 s7 n7=>?_⟩
 have rv:=New.rep (K:=K) n7
 obtain⟨da,rfl⟩:∃ b,v=.ref b:=by obtain⟨b,_,e,_⟩:=New.news n7;exact⟨b,e⟩
 nofun
 refine⟨da,ea,_,zaA ch4,rfl,rv,(hE.same s7).rep,by omega,λl hl=>⟨gd.2 l hl,zd7 msm⟩,zbI _,m9,λv H8 s8 n8=>?_⟩
 have rv8:=New.rep (K:=K) n8
 obtain⟨ga,rfl⟩:∃ b,v=.ref b:=by obtain⟨b,_,e,_⟩:=New.news n8;exact⟨b,e⟩
 have s08:=s06.trans (s7.trans s8)
 obtain⟨dx,w1,w2,w3,w4,hp,r1,r2,r3,r4⟩:=hC.same s08
 obtain⟨y1,rfl⟩:∃ b,w1=.ref b:=by unfold zaF Rep at r1;obtain⟨a,_,e,_⟩:=r1;exact⟨a,e⟩
 nofun
 refine⟨p,(C 0),dx,_,_,rfl,hp,Z.c_Craft,Z.n_Craft_needs,zdz _ _ _ _,?_⟩
 nofun
 refine⟨ga,y1,_,needs,rfl,rv8,r1,by simp;omega,by have:=hg.n;omega,λv H9 s9 n9=>?_⟩
 exact q _ _ (s08.trans s9) (n9.back s08)
--LEN (obtain ⟨_, _, _, _, _, _, _, _, _, _, _, _, _, _, _, _, _, rfl, _⟩ := h; rfl)
inductive Q33 (K:Fg) (C:Nat→Addr) (vs:List V) (H:Hp) (Q:VK) (E:XK):Prop
 | mk (t na aa o g2 t2:Addr) (m g0 g1 t0 t1:Int) (notes after needs leaves:List (List Int)) (deeds:List D) (ns:List (List (List Int))):vs=[.ref t,.ref na,.ref aa,.ref o]→SqT K H t [.str "call",.int m,.ref g2,.ref t2]→SqT K H g2 [.int g0,.int g1]→SqT K H t2 [.int t0,.int t1]→Ls H na notes→Rep K H (zaF after) (.ref aa)→notes.length≤100→after.length≤100→(∀ l∈notes,l.length=9)→(∀ l∈after,l.length=9)→zbF K (C 0) H o needs leaves deeds ns→Good needs leaves deeds.length ns→(∀ v H',Same H H'→New H H' (.lst (((needs.map λl=>zaw l (zaA (ch2 4 (zah g0) 5 (zah g1)))).map λg=>zec g notes)++(after.map λl=>zaw l (zaA (ch2 t0 (zah 6) t1 (zah 7)))).map λg=>zec g (notes++leaves.map λl=>zaw l (zaA (ch2 4 (zah g0) 5 (zah g1)))))) v→Q v H')→Q33 K C vs H Q E
include B Z in
theorem zhs (Q3a:Fn P w K mg b8 "eight_with" ["changes"] 2 (Q39 K)) (Q36:Fn P w K mg b8 "each_from" ["goals","hypotheses"] 2 (Q35 K)) (Q38:Fn P w K mg b8 "all_turned" ["lines","eight"] 3 (Q37 K)) (Q0:Fn P w K mg b8 "bare" ["i"] 1 (zew K)) (F:Fun K "call_duties" "call_duties" zda f fd) (m:mg "call_duties"=some (.ref f)):Fn P w K mg b8 "call_duties" ["deed","notes","after","other"] 4 (Q33 K C):=by
 refine Fn.of (k:=3) F zbO m (λ_ _ _ _ _ _ us hl=>match us,hl with | [_,_,_,_],_=>rfl) (λvs H Q E h=>?_) (λcdv A outer s H vs Q E hr h=>?_)
 ·first
  | (obtain⟨_,_,_,_,_,_,_,_,_,_,_,_,_,_,_,_,_,rfl,_⟩:=h;rfl)
 obtain⟨t,na,aa,o,g2,t2,m,g0,g1,t0,t1,notes,after,needs,leaves,deeds,ns,rfl,hT,hG,hK,hN,hA,ln,lf,o9,a9,hC,hg,q⟩:=h
 refine⟨_,(zag (zay (i:=4) zbO.nd rfl (Or.inl rfl) (zaH (k_ix K) (pv 0) zaa (λ_ _=>rfl)))
   (zag (zay (i:=5) zbO.nd rfl (Or.inl rfl) (zaH (k_ix K) (pv 0) zaa (λ_ _=>rfl)))
   (zag (zay (i:=6) zbO.nd rfl (Or.inl rfl) (zap Q3a hr rfl (zbv (zfx (zcq (zbd rfl B.c_ASKED_0) (zap Q0 hr rfl (zaR (zaH (k_ix K) (pv 4) zaa (λ_ _=>rfl)) zac)) (zcq (zbd rfl B.c_ASKED_1) (zap Q0 hr rfl (zaR (zaH (k_ix K) (pv 4) zaa (λ_ _=>rfl)) zac)) zfw)) rfl rfl (by simp) (by simp)) zac)))
   (zag (zay (i:=7) zbO.nd rfl (Or.inl rfl) (zap Q3a hr rfl (zbv (zfx (zcq (zaH (k_ix K) (pv 5) zaa (λ_ _=>rfl)) (zap Q0 hr rfl (zab (zbd rfl B.c_NEW_0) zac)) (zcq (zaH (k_ix K) (pv 5) zaa (λ_ _=>rfl)) (zap Q0 hr rfl (zab (zbd rfl B.c_NEW_1) zac)) zfw)) rfl rfl (by simp) (by simp)) zac)))
   (zag (zay (i:=8) zbO.nd rfl (Or.inl rfl) (zap Q36 hr rfl (zaC (zap Q38 hr rfl (zbP (zbD K (pv 3) rfl) (zab (pv 6) zac))) (zab (pv 1) zac))))
   (zaj (zao (zam (zaL K) (pv 8) (zap Q36 hr rfl (zaC (zap Q38 hr rfl (zab (pv 2) (zab (pv 7) zac))) (zaP (zam (zaL K) (pv 1) (zap Q38 hr rfl (zbP (zbD K (pv 3) rfl) (zab (pv 6) zac)))) zac))))))))))),?_⟩
 walk_at "q"
 nofun
 refine za8 hT (v:=.ref g2) (zaN (j:=2) rfl) ?_
 nofun
 walk_at "q"
 nofun
 refine za8 hT (v:=.ref t2) (zaN (j:=3) rfl) ?_
 nofun
 walk_at "q"
 nofun
 refine zhG λdp hdp=>?_
 have u0:=zaf hdp (.dK [])
 nofun
 refine za8 (u0.tup hG) (v:=.int g0) zbV ?_
 nofun
 refine zdC λv H1 s1 n1=>?_
 obtain⟨b1,rfl,b10,b11⟩:=New.iif.mp n1
 nofun
 refine za8 ((u0.trans s1).tup hG) (v:=.int g1) (zaN (j:=1) rfl) ?_
 nofun
 refine zdC λv H2 s2 n2=>?_
 obtain⟨b2,rfl,b20,b21⟩:=New.iif.mp n2
 nofun
 have d2:H2 dp=some (.dK []):=s2 _ _ (s1 _ _ zad)
 have ne:∀ {b:Addr}{l:List Int},H2 b=some (.lst (l.map V.int))→b≠dp:=λe z=>by rw[z,d2] at e;cases e
 have f1:=s2 _ _ b11
 refine⟨d2,[(.inl 4,.ref b1),(.inl 5,.ref b2)],rfl,by simp,?_⟩
 have s03:Same H (upd H2 dp (.dK (zb1 [] [(.inl 4,.ref b1),(.inl 5,.ref b2)]))):=(u0.trans (s1.trans s2)).put hdp
 nofun
 refine⟨dp,_,ch2 4 (zah g0) 5 (zah g1),rfl,zad,zo4 (zal g0) (zal g1) (by rw[zaq (ne f1)];exact f1) (by rw[zaq (ne b21)];exact b21),λea H4 s4 ea0 hE=>?_⟩
 have s04:=s03.trans s4
 have e9:∀ l∈zaA (ch2 4 (zah g0) 5 (zah g1)),l.length=9:=zbq (λi=>zal i) (zit (zal g0) (zal g1))
 have esm:∀ l∈zaA (ch2 4 (zah g0) 5 (zah g1)),Sm l:=zbq (λi=>zcz i) (zit (zcz g0) (zcz g1))
 have elen:=zbI (ch2 4 (zah g0) 5 (zah g1))
 generalize zaA (ch2 4 (zah g0) 5 (zah g1))=giving at hE e9 esm elen q
 nofun
 walk_at "q"
 nofun
 refine zhG λdq hdq=>?_
 have w0:=zaf hdq (.dK [])
 nofun
 refine za8 ((s04.trans w0).tup hK) (v:=.int t0) zbV ?_
 nofun
 refine zdC λv H5 s5 n5=>?_
 obtain⟨b3,rfl,b30,b31⟩:=New.iif.mp n5
 nofun
 refine za8 ((s04.trans (w0.trans s5)).tup hK) (v:=.int t1) (zaN (j:=1) rfl) ?_
 nofun
 refine zdC λv H6 s6 n6=>?_
 obtain⟨b4,rfl,b40,b41⟩:=New.iif.mp n6
 nofun
 have d6:H6 dq=some (.dK []):=s6 _ _ (s5 _ _ zad)
 have ne6:∀ {b:Addr}{l:List Int},H6 b=some (.lst (l.map V.int))→b≠dq:=λe z=>by rw[z,d6] at e;cases e
 have f3:=s6 _ _ b31
 refine⟨d6,[(.inl t0,.ref b3),(.inl t1,.ref b4)],rfl,by simp,?_⟩
 have s47:Same H4 (upd H6 dq (.dK (zb1 [] [(.inl t0,.ref b3),(.inl t1,.ref b4)]))):=(w0.trans (s5.trans s6)).put hdq
 nofun
 refine⟨dq,_,ch2 t0 (zah 6) t1 (zah 7),rfl,zad,zo4 (zal 6) (zal 7) (by rw[zaq (ne6 f3)];exact f3) (by rw[zaq (ne6 b41)];exact b41),λta H8 s8 ta0 hF=>?_⟩
 have s48:=s47.trans s8
 have s08:=s04.trans s48
 have k9:∀ l∈zaA (ch2 t0 (zah 6) t1 (zah 7)),l.length=9:=zbq (λi=>zal i) (zit (zal 6) (zal 7))
 have ksm:∀ l∈zaA (ch2 t0 (zah 6) t1 (zah 7)),Sm l:=zbq (λi=>zcz i) (zit (zcz 6) (zcz 7))
 have klen:=zbI (ch2 t0 (zah 6) t1 (zah 7))
 generalize zaA (ch2 t0 (zah 6) t1 (zah 7))=taking at hF k9 ksm klen q
 obtain⟨dx,w1,w2,w3,w4,hp,r1,r2,r3,r4⟩:=hC
 obtain⟨y1,rfl⟩:∃ b,w1=.ref b:=by unfold zaF Rep at r1;obtain⟨a,_,e,_⟩:=r1;exact⟨a,e⟩
 obtain⟨y2,rfl⟩:∃ b,w2=.ref b:=by unfold zaF Rep at r2;obtain⟨a,_,e,_⟩:=r2;exact⟨a,e⟩
 nofun
 walk_at "q"
 nofun
 refine⟨o,(C 0),dx,_,_,rfl,s08 _ _ hp,Z.c_Craft,Z.n_Craft_needs,zdz _ _ _ _,?_⟩
 nofun
 have hE8:=hE.same s48
 refine⟨y1,ea,needs,giving,rfl,Rep.same s08 _ r1,hE8.rep,by have:=hg.n;omega,λl hl=>⟨hg.n9 l hl,zd7 esm⟩,elen,e9,λv H9 s9 n9=>?_⟩
 have rv9:=New.rep (K:=K) n9
 obtain⟨ga,rfl⟩:∃ b,v=.ref b:=by obtain⟨b,_,e,_⟩:=New.news n9;exact⟨b,e⟩
 nofun
 have hN9:=hN.same (s08.trans s9)
 refine⟨ga,na,_,notes,rfl,rv9,hN9.rep,by simp;have:=hg.n;omega,by omega,λv1 Ha sa n1'=>?_⟩
 have s0a:=s08.trans (s9.trans sa)
 nofun
 refine⟨aa,ta,after,taking,rfl,Rep.same s0a _ hA,(hF.same (s9.trans sa)).rep,by omega,λl hl=>⟨a9 l hl,zd7 ksm⟩,klen,k9,λv Hb sb nb=>?_⟩
 have rvb:=New.rep (K:=K) nb
 obtain⟨ha,rfl⟩:∃ b,v=.ref b:=by obtain⟨b,_,e,_⟩:=New.news nb;exact⟨b,e⟩
 have s0b:=s0a.trans sb
 nofun
 refine⟨o,(C 0),dx,_,_,rfl,s0b _ _ hp,Z.c_Craft,Z.n_Craft_leaves,zcV _ _ _ _,?_⟩
 nofun
 refine⟨y2,ea,leaves,giving,rfl,Rep.same s0b _ r2,(hE8.same (s9.trans (sa.trans sb))).rep,by have:=hg.l;omega,λl hl=>⟨hg.l9 l hl,zd7 esm⟩,elen,e9,λv Hc sc nc=>?_⟩
 obtain⟨la,rfl,la0,hL⟩:=nc.ls
 have s0c:=s0b.trans sc
 obtain⟨xs,hxs,lxs⟩:=(hN.same s0c).len
 have hLl:=hL.len
 obtain⟨bs,hbs,lbs,ibs⟩:=hL
 rw[zlm] at lbs
 nofun
 refine zbz hxs hbs (zan (by rw[zlm];have:=hg.l;omega)) λp7 hp7=>?_
 have hM:=Ls.more (p:=p7) (bs:=bs) (ms:=leaves.map λl=>zaw l giving) (hN.same s0c) hxs (by rw[zlm];exact lbs) ibs hp7
 have t7:=zaf hp7 (.lst (xs++bs.map V.ref))
 nofun
 refine⟨ha,p7,_,notes++leaves.map λl=>zaw l giving,rfl,Rep.same (sc.trans t7) _ rvb,hM.rep,by simp;omega,by simp;have:=hg.l;omega,λv2 Hd sd nd=>?_⟩
 obtain⟨a1,vs1,fa1,rfl,z1,y1',r1',_⟩:=New.lso n1'
 obtain⟨a2,vs2,fa2,rfl,z2,y2',r2',_⟩:=New.lso nd
 have l1:=r1'.length
 have l2:=r2'.length
 simp only[zlm] at l1 l2
 have sad:=sb.trans (sc.trans (t7.trans sd))
 nofun
 refine zbz (sad _ _ y1') y2' (zan (by have:=hg.n;omega)) λp8 hp8=>?_
 exact q _ _ ((s0a.trans sad).trans (zaf hp8 _)) (New.cat (n1'.back (s08.trans s9)) s0a sad (nd.back (sb.trans (sc.trans t7))) (sad _ _ y1') y2' hp8)
theorem zku {H:Hp}{a c d:Addr}{l k j:List Int}(h:H a=some (.lst (l.map V.int))) (h':H c=some (.lst (k.map V.int))) (h2:H d=some (.lst (j.map V.int))):∀ (i:Nat) b m,[a,c,d][i]?=some b→[l,k,j][i]?=some m→H b=some (.lst (m.map V.int)):=λi b m e1 e2=>by
 cases i with
 | zero=>simp at e1 e2;subst e1;subst e2;exact h
 | succ i=>exact zdh h' h2 i b m (by simpa using e1) (by simpa using e2)
inductive Q2d (K:Fg) (vs:List V) (H:Hp) (Q:VK) (E:XK):Prop
 | mk (t na aa la:Addr) (h by':Int) (line:List Int) (notes after:List (List Int)):vs=[.ref t,.ref na,.ref aa]→SqT K H t [.str "part",.int h,.ref la,.int by']→H la=some (.lst (line.map V.int))→line.length=9→(-1000000<by'∧by'<1000000)→Ls H na notes→Rep K H (zaF after) (.ref aa)→notes.length≤100→after.length≤100→(∀ l∈after,l.length=9)→(∀ v H',Same H H'→New H H' (.lst ((after.map λl=>zaw l (zaA (ch1 h (zah 6)))).map λg=>zec g (notes++[zaB line by',greatest line by']))) v→Q v H')→Q2d K vs H Q E
include B Z in
theorem zht (Q3:Fn P w K mg b8 "summed" ["lines","weights"] 1 (Q1 K)) (Q36:Fn P w K mg b8 "each_from" ["goals","hypotheses"] 2 (Q35 K)) (Q38:Fn P w K mg b8 "all_turned" ["lines","eight"] 3 (Q37 K)) (Q0:Fn P w K mg b8 "bare" ["i"] 1 (zew K)) (Q3b:Fn P w K mg b8 "constant" ["number"] 1 (zcF K)) (Q3a:Fn P w K mg b8 "eight_with" ["changes"] 2 (Q39 K)) (F:Fun K "part_duties" "part_duties" zc7 f fd) (m:mg "part_duties"=some (.ref f)):Fn P w K mg b8 "part_duties" ["deed","notes","after"] 4 (Q2d K):=by
 refine Fn.of (k:=3) F zb8 m (λ_ _ _ _ _ _ us hl=>match us,hl with | [_,_,_],_=>rfl) (λvs H Q E h=>?_) (λcdv A outer s H vs Q E hr h=>?_)
 ·first
  | (obtain⟨_,_,_,_,_,_,_,_,_,rfl,_⟩:=h;rfl)
 obtain⟨t,na,aa,la,h,by',line,notes,after,rfl,hT,hla,l9,hby,hN,hA,ln,lf,a9,q⟩:=h
 refine⟨_,(zag (zay (i:=3) zb8.nd rfl (Or.inl rfl) (zaH (k_ix K) (pv 0) zaa (λ_ _=>rfl)))
   (zag (zay (i:=4) zb8.nd rfl (Or.inl rfl) (zaH (k_ix K) (pv 0) zaa (λ_ _=>rfl)))
   (zag (zay (i:=5) zb8.nd rfl (Or.inl rfl) (zap Q3 hr rfl (zbU (zaE (zab (pv 3) (zaC (zap Q0 hr rfl (zab (zbd rfl B.c_NEW_0) zac)) zac))) (zbU (zaE (zae zaa (zfW (zdZ zcp (pv 4)) zac))) zac))))
   (zag (zay (i:=6) zb8.nd rfl (Or.inl rfl) (zap Q3 hr rfl (zbU (zaE (zaC (zap Q0 hr rfl (zab (zbd rfl B.c_NEW_0) zac)) (zaC (zap Q3b hr rfl (zaP (zam ziG (pv 4) zaa) zac)) (zab (pv 3) zac)))) (zbU (zaE (zab (pv 4) (zae zaa (zfW (zdZ zcp zaa) zac)))) zac))))
   (zaj (zao (zap Q36 hr rfl (zaC (zap Q38 hr rfl (zab (pv 2) (zaC (zap Q3a hr rfl (zbv (zfx (zcq (zaH (k_ix K) (pv 0) zaa (λ_ _=>rfl)) (zap Q0 hr rfl (zab (zbd rfl B.c_NEW_0) zac)) zfw) rfl rfl (by simp) (by simp)) zac)) zac))) (zaP (zam (zaL K) (pv 1) (zaE (zab (pv 5) (zab (pv 6) zac)))) zac))))))))),?_⟩
 walk_at "q"
 nofun
 refine za8 hT (v:=.ref la) (zaN (j:=2) rfl) ?_
 nofun
 walk_at "q"
 nofun
 refine za8 hT (v:=.int by') (zaN (j:=3) rfl) ?_
 nofun
 walk_at "q"
 nofun
 refine zdC λv H1 s1 n1=>?_
 obtain⟨b1,rfl,b10,b11⟩:=New.iif.mp n1
 nofun
 refine⟨(by walk_at "sm"),λp hp=>?_⟩
 have t1:=zaf hp (.lst [V.ref la,.ref b1])
 nofun
 refine⟨(by walk_at "sm"),λp2 hp2=>?_⟩
 have t2:=zaf hp2 (.lst [V.int 1,.int (-by')])
 have s02:=s1.trans (t1.trans t2)
 nofun
 refine⟨p,p2,[line,zah 6],[1,-by'],rfl,zdN (bs:=[la,b1]) (t2 _ _ zad) rfl (zdh (s02 _ _ hla) ((t1.trans t2) _ _ b11)),SqL.of zad,rfl,by simp,λl hl=>?_,λi l w _ e2 n _=>?_,λv H3 s3 n3=>?_⟩
 ·simp at hl;rcases hl with rfl | rfl
  ·exact l9
  ·exact zal 6
 ·have:w=1∨w=-by':=by
   have:=zmg e2
   simp at this;exact this
  rcases this with z | z <;> subst z <;> exact .inr ⟨by omega,by omega⟩
 obtain⟨fa,rfl,fa0,fa1⟩:=New.iif.mp n3
 have s03:=s02.trans s3
 nofun
 walk_at "q"
 nofun
 refine zdC λv H4 s4 n4=>?_
 obtain⟨b2,rfl,b20,b21⟩:=New.iif.mp n4
 nofun
 refine zfI λv H5 s5 n5=>?_
 obtain⟨c2,rfl,c20,c21⟩:=New.iif.mp n5
 nofun
 refine⟨(by walk_at "sm"),λp3 hp3=>?_⟩
 have t3:=zaf hp3 (.lst [V.ref b2,.ref c2,.ref la])
 nofun
 refine⟨(by walk_at "sm"),λp4 hp4=>?_⟩
 have t4:=zaf hp4 (.lst [V.int by',.int 1,.int (-1)])
 have s35:=s4.trans (s5.trans (t3.trans t4))
 nofun
 refine⟨p3,p4,[zah 6,kL (by' - 1),line],[by',1,-1],rfl,zdN (bs:=[b2,c2,la]) (t4 _ _ zad) rfl (zku ((s5.trans (t3.trans t4)) _ _ b21) ((t3.trans t4) _ _ c21) ((s03.trans s35) _ _ hla)),SqL.of zad,rfl,by simp,λl hl=>?_,λi l w _ e2 n _=>?_,λv H6 s6 n6=>?_⟩
 ·simp at hl;rcases hl with rfl | rfl | rfl
  ·exact zal 6
  ·exact zbC _
  ·exact l9
 ·have:w=by'∨w=1∨w=-1:=by
   have:=zmg e2
   simp at this;exact this
  rcases this with z | z | z <;> subst z <;> exact .inr ⟨by omega,by omega⟩
 obtain⟨ta,rfl,ta0,ta1⟩:=New.iif.mp n6
 have s36:=s35.trans s6
 have s06:=s03.trans s36
 nofun
 refine zhG λdp hdp=>?_
 have u0:=zaf hdp (.dK [])
 nofun
 refine za8 ((s06.trans u0).tup hT) (v:=.int h) (zaN (j:=1) rfl) ?_
 nofun
 refine zdC λv H7 s7 n7=>?_
 obtain⟨b3,rfl,b30,b31⟩:=New.iif.mp n7
 nofun
 refine⟨s7 _ _ zad,[(.inl h,.ref b3)],rfl,by simp,?_⟩
 have b3d:b3≠dp:=λz=>by rw[z,zad] at b30;cases b30
 have s67:Same H6 (upd H7 dp (.dK (zb1 [] [(.inl h,.ref b3)]))):=(u0.trans s7).put hdp
 have s07:=s06.trans s67
 nofun
 refine⟨dp,_,ch1 h (zah 6),rfl,zad,znj (zal 6) (by rw[zaq b3d];exact b31),λea H8 s8 ea0 hE=>?_⟩
 have s08:=s07.trans s8
 have m9:∀ l∈zaA (ch1 h (zah 6)),l.length=9:=zbq (λi=>zal i) (zfH (zal 6))
 have msm:∀ l∈zaA (ch1 h (zah 6)),Sm l:=zbq (λi=>zcz i) (zfH (zcz 6))
 nofun
 refine⟨aa,ea,after,zaA (ch1 h (zah 6)),rfl,Rep.same s08 _ hA,hE.rep,by omega,λl hl=>⟨a9 l hl,zd7 msm⟩,zbI _,m9,λv H9 s9 n9=>?_⟩
 have gv:=New.rep (K:=K) n9
 obtain⟨ga,rfl⟩:∃ b,v=.ref b:=by obtain⟨b,_,e,_⟩:=New.news n9;exact⟨b,e⟩
 have s09:=s08.trans s9
 have s69:=s67.trans (s8.trans s9)
 nofun
 refine⟨(by walk_at "sm"),λp5 hp5=>?_⟩
 have t5:=zaf hp5 (.lst [V.ref fa,.ref ta])
 obtain⟨xs,hxs,lxs⟩:=(hN.same s09).len
 nofun
 refine zbz (t5 _ _ hxs) zad (zan (by simp;omega)) λp6 hp6=>?_
 have hL:=Ls.more (p:=p6) (bs:=[fa,ta]) (ms:=[zaB line by',greatest line by']) ((hN.same s09).same t5) (t5 _ _ hxs) rfl (zdh (t5 _ _ (s69 _ _ (s36 _ _ fa1))) (t5 _ _ (s69 _ _ ta1))) hp6
 have t6:=zaf hp6 (.lst (xs++[V.ref fa,.ref ta]))
 have t56:=t5.trans t6
 nofun
 refine⟨ga,p6,_,notes++[zaB line by',greatest line by'],rfl,Rep.same t56 _ gv,hL.rep,by simp;omega,by simp;omega,λv Ha sa na'=>?_⟩
 exact q _ _ (s09.trans (t56.trans sa)) (na'.back (s09.trans t56))
inductive Q2f (K:Fg) (vs:List V) (H:Hp) (Q:VK) (E:XK):Prop
 | mk (t na aa:Addr) (h lo hi:Int) (notes after:List (List Int)):vs=[.ref t,.ref na,.ref aa]→SqT K H t [.str "draw",.int h,.int lo,.int hi]→Ls H na notes→Rep K H (zaF after) (.ref aa)→notes.length≤100→after.length≤100→(∀ l∈after,l.length=9)→(∀ v H',Same H H'→New H H' (.lst ((after.map λl=>zaw l (zaA (ch1 h (zah 6)))).map λg=>zec g (notes++[zaQ lo,za4 hi]))) v→Q v H')→Q2f K vs H Q E
include B Z in
theorem zhu (Q3:Fn P w K mg b8 "summed" ["lines","weights"] 1 (Q1 K)) (Q36:Fn P w K mg b8 "each_from" ["goals","hypotheses"] 2 (Q35 K)) (Q38:Fn P w K mg b8 "all_turned" ["lines","eight"] 3 (Q37 K)) (Q0:Fn P w K mg b8 "bare" ["i"] 1 (zew K)) (Q3b:Fn P w K mg b8 "constant" ["number"] 1 (zcF K)) (Q3a:Fn P w K mg b8 "eight_with" ["changes"] 2 (Q39 K)) (F:Fun K "draw_duties" "draw_duties" zc8 f fd) (m:mg "draw_duties"=some (.ref f)):Fn P w K mg b8 "draw_duties" ["deed","notes","after"] 4 (Q2f K):=by
 refine Fn.of (k:=3) F zdH m (λ_ _ _ _ _ _ us hl=>match us,hl with | [_,_,_],_=>rfl) (λvs H Q E h=>?_) (λcdv A outer s H vs Q E hr h=>?_)
 ·first
  | (obtain⟨_,_,_,_,_,_,_,_,rfl,_⟩:=h;rfl)
 obtain⟨t,na,aa,h,lo,hi,notes,after,rfl,hT,hN,hA,ln,lf,a9,q⟩:=h
 refine⟨_,(zag (zay (i:=3) zdH.nd rfl (Or.inl rfl) (zap Q3 hr rfl (zbU (zaE (zaC (zap Q0 hr rfl (zab (zbd rfl B.c_NEW_0) zac)) (zaC (zap Q3b hr rfl (zaR (zaH (k_ix K) (pv 0) zaa (λ_ _=>rfl)) zac)) zac))) (zbU (zaE (zae zaa (zfW (zdZ zcp zaa) zac))) zac))))
   (zag (zay (i:=4) zdH.nd rfl (Or.inl rfl) (zap Q3 hr rfl (zbU (zaE (zaC (zap Q3b hr rfl (zaR (zaH (k_ix K) (pv 0) zaa (λ_ _=>rfl)) zac)) (zaC (zap Q0 hr rfl (zab (zbd rfl B.c_NEW_0) zac)) zac))) (zbU (zaE (zae zaa (zfW (zdZ zcp zaa) zac))) zac))))
   (zaj (zao (zap Q36 hr rfl (zaC (zap Q38 hr rfl (zab (pv 2) (zaC (zap Q3a hr rfl (zbv (zfx (zcq (zaH (k_ix K) (pv 0) zaa (λ_ _=>rfl)) (zap Q0 hr rfl (zab (zbd rfl B.c_NEW_0) zac)) zfw) rfl rfl (by simp) (by simp)) zac)) zac))) (zaP (zam (zaL K) (pv 1) (zaE (zab (pv 3) (zab (pv 4) zac)))) zac))))))),?_⟩
 obtain⟨c6,hc6⟩:=B.c_NEW_0
 walk_at "q"
 nofun
 refine zdC λv H1 s1 n1=>?_
 obtain⟨b1,rfl,b10,b11⟩:=New.iif.mp n1
 nofun
 refine za8 (s1.tup hT) (v:=.int lo) (zaN (j:=2) rfl) ?_
 nofun
 refine zfI λv H2 s2 n2=>?_
 obtain⟨c1,rfl,c10,c11⟩:=New.iif.mp n2
 nofun
 refine⟨(by walk_at "sm"),λp hp=>?_⟩
 have t1:=zaf hp (.lst [V.ref b1,.ref c1])
 nofun
 refine⟨(by walk_at "sm"),λp2 hp2=>?_⟩
 have t2:=zaf hp2 (.lst [V.int 1,.int (-1)])
 have s02:=s1.trans (s2.trans (t1.trans t2))
 nofun
 refine⟨p,p2,[zah 6,kL lo],[1,-1],rfl,zdN (bs:=[b1,c1]) (t2 _ _ zad) rfl (zdh ((s2.trans (t1.trans t2)) _ _ b11) ((t1.trans t2) _ _ c11)),SqL.of zad,rfl,by simp,λl hl=>?_,λi l w _ e2 n _=>?_,λv H3 s3 n3=>?_⟩
 ·simp at hl;rcases hl with rfl | rfl
  ·exact zal 6
  ·exact zbC lo
 ·have:w=1∨w=-1:=by
   have:=zmg e2
   simp at this;exact this
  rcases this with z | z <;> subst z <;> exact .inr ⟨by decide,by decide⟩
 obtain⟨fa,rfl,fa0,fa1⟩:=New.iif.mp n3
 have s03:=s02.trans s3
 nofun
 walk_at "q"
 nofun
 refine za8 (s03.tup hT) (v:=.int hi) (zaN (j:=3) rfl) ?_
 nofun
 refine zfI λv H4 s4 n4=>?_
 obtain⟨c2,rfl,c20,c21⟩:=New.iif.mp n4
 nofun
 refine zdC λv H5 s5 n5=>?_
 obtain⟨b2,rfl,b20,b21⟩:=New.iif.mp n5
 nofun
 refine⟨(by walk_at "sm"),λp3 hp3=>?_⟩
 have t3:=zaf hp3 (.lst [V.ref c2,.ref b2])
 nofun
 refine⟨(by walk_at "sm"),λp4 hp4=>?_⟩
 have t4:=zaf hp4 (.lst [V.int 1,.int (-1)])
 have s35:=s4.trans (s5.trans (t3.trans t4))
 nofun
 refine⟨p3,p4,[kL hi,zah 6],[1,-1],rfl,zdN (bs:=[c2,b2]) (t4 _ _ zad) rfl (zdh ((s5.trans (t3.trans t4)) _ _ c21) ((t3.trans t4) _ _ b21)),SqL.of zad,rfl,by simp,λl hl=>?_,λi l w _ e2 n _=>?_,λv H6 s6 n6=>?_⟩
 ·simp at hl;rcases hl with rfl | rfl
  ·exact zbC hi
  ·exact zal 6
 ·have:w=1∨w=-1:=by
   have:=zmg e2
   simp at this;exact this
  rcases this with z | z <;> subst z <;> exact .inr ⟨by decide,by decide⟩
 obtain⟨ta,rfl,ta0,ta1⟩:=New.iif.mp n6
 have s36:=s35.trans s6
 have s06:=s03.trans s36
 nofun
 refine zhG λdp hdp=>?_
 have u0:=zaf hdp (.dK [])
 nofun
 refine za8 ((s06.trans u0).tup hT) (v:=.int h) (zaN (j:=1) rfl) ?_
 nofun
 refine zdC λv H7 s7 n7=>?_
 obtain⟨b3,rfl,b30,b31⟩:=New.iif.mp n7
 nofun
 refine⟨s7 _ _ zad,[(.inl h,.ref b3)],rfl,by simp,?_⟩
 have b3d:b3≠dp:=λz=>by rw[z,zad] at b30;cases b30
 have s67:Same H6 (upd H7 dp (.dK (zb1 [] [(.inl h,.ref b3)]))):=(u0.trans s7).put hdp
 have s07:=s06.trans s67
 nofun
 refine⟨dp,_,ch1 h (zah 6),rfl,zad,znj (zal 6) (by rw[zaq b3d];exact b31),λea H8 s8 ea0 hE=>?_⟩
 have s08:=s07.trans s8
 have m9:∀ l∈zaA (ch1 h (zah 6)),l.length=9:=zbq (λi=>zal i) (zfH (zal 6))
 have msm:∀ l∈zaA (ch1 h (zah 6)),Sm l:=zbq (λi=>zcz i) (zfH (zcz 6))
 nofun
 refine⟨aa,ea,after,zaA (ch1 h (zah 6)),rfl,Rep.same s08 _ hA,hE.rep,by omega,λl hl=>⟨a9 l hl,zd7 msm⟩,zbI _,m9,λv H9 s9 n9=>?_⟩
 have gv:=New.rep (K:=K) n9
 obtain⟨ga,rfl⟩:∃ b,v=.ref b:=by obtain⟨b,_,e,_⟩:=New.news n9;exact⟨b,e⟩
 have s09:=s08.trans s9
 have s69:=s67.trans (s8.trans s9)
 nofun
 refine⟨(by walk_at "sm"),λp5 hp5=>?_⟩
 have t5:=zaf hp5 (.lst [V.ref fa,.ref ta])
 obtain⟨xs,hxs,lxs⟩:=(hN.same s09).len
 nofun
 refine zbz (t5 _ _ hxs) zad (zan (by simp;omega)) λp6 hp6=>?_
 have hL:=Ls.more (p:=p6) (bs:=[fa,ta]) (ms:=[zaQ lo,za4 hi]) ((hN.same s09).same t5) (t5 _ _ hxs) rfl (zdh (t5 _ _ (s69 _ _ (s36 _ _ fa1))) (t5 _ _ (s69 _ _ ta1))) hp6
 have t6:=zaf hp6 (.lst (xs++[V.ref fa,.ref ta]))
 have t56:=t5.trans t6
 nofun
 refine⟨ga,p6,_,notes++[zaQ lo,za4 hi],rfl,Rep.same t56 _ gv,hL.rep,by simp;omega,by simp;omega,λv Ha sa na'=>?_⟩
 exact q _ _ (s09.trans (t56.trans sa)) (na'.back (s09.trans t56))
inductive Q31 (K:Fg) (vs:List V) (H:Hp) (Q:VK) (E:XK):Prop
 | mk (la na ta aa:Addr) (line:List Int) (notes there after:List (List Int)):vs=[.ref la,.ref na,.ref ta,.ref aa]→H la=some (.lst (line.map V.int))→line.length=9→Ls H na notes→Rep K H (zaF there) (.ref ta)→Rep K H (zaF after) (.ref aa)→notes.length≤100→there.length≤100→after.length≤100→(∀ v H',Same H H'→New H H' (.lst ((there.map λg=>zec g (notes++[line]))++after.map λg=>zec g (notes++[zff line]))) v→Q v H')→Q31 K vs H Q E
include B Z in
theorem zhv (Q3:Fn P w K mg b8 "summed" ["lines","weights"] 1 (Q1 K)) (Q36:Fn P w K mg b8 "each_from" ["goals","hypotheses"] 2 (Q35 K)) (Q3b:Fn P w K mg b8 "constant" ["number"] 1 (zcF K)) (F:Fun K "turn_duties" "turn_duties" zc9 f fd) (m:mg "turn_duties"=some (.ref f)):Fn P w K mg b8 "turn_duties" ["line","notes","there","after"] 3 (Q31 K):=by
 refine Fn.of (k:=2) F zeQ m (λ_ _ _ _ _ _ us hl=>match us,hl with | [_,_,_,_],_=>rfl) (λvs H Q E h=>?_) (λcdv A outer s H vs Q E hr h=>?_)
 ·first
  | (obtain⟨_,_,_,_,_,_,_,_,rfl,_⟩:=h;rfl)
 obtain⟨la,na,ta,aa,line,notes,there,after,rfl,hla,l9,hN,hT,hA,ln,lt,lf,q⟩:=h
 refine⟨_,(zag (zay (i:=4) zeQ.nd rfl (Or.inl rfl) (zap Q3 hr rfl (zbU (zaE (zab (pv 0) (zaC (zap Q3b hr rfl (zae zaa zac)) zac))) (zbU (zaE (zfW (zdZ zcp zaa) (zfW (zdZ zcp zaa) zac))) zac))))
   (zaj (zao (zam (zaL K) (zap Q36 hr rfl (zab (pv 2) (zaP (zam (zaL K) (pv 1) (zaE (zab (pv 0) zac))) zac))) (zap Q36 hr rfl (zab (pv 3) (zaP (zam (zaL K) (pv 1) (zaE (zab (pv 4) zac))) zac))))))),?_⟩
 walk_at "q"
 nofun
 refine zfI λv H1 s1 n1=>?_
 obtain⟨ca,rfl,ca0,ca1⟩:=New.iif.mp n1
 nofun
 refine⟨(by walk_at "sm"),λp hp=>?_⟩
 have t1:=zaf hp (.lst [V.ref la,.ref ca])
 nofun
 refine⟨(by walk_at "sm"),λp2 hp2=>?_⟩
 have t2:=zaf hp2 (.lst [V.int (-1),.int (-1)])
 have s12:=s1.trans (t1.trans t2)
 nofun
 refine⟨p,p2,[line,kL 1],[-1,-1],rfl,zdN (bs:=[la,ca]) (t2 _ _ zad) rfl (zdh (s12 _ _ hla) ((t1.trans t2) _ _ ca1)),SqL.of zad,rfl,by simp,λl hl=>?_,λi l w _ e2 n _=>?_,λv H2 s2 n2=>?_⟩
 ·simp at hl;rcases hl with rfl | rfl
  ·exact l9
  ·exact zbC 1
 ·have:w=-1:=by
   have:=zmg e2
   simp at this;exact this
  subst this;exact .inr ⟨by decide,by decide⟩
 obtain⟨ba,rfl,ba0,ba1⟩:=New.iif.mp n2
 have sA:=s12.trans s2
 obtain⟨xs,hxs,lxs⟩:=(hN.same sA).len
 nofun
 refine⟨(by walk_at "sm"),λp3 hp3=>?_⟩
 have t3:=zaf hp3 (.lst [V.ref la])
 nofun
 refine zbz (t3 _ _ hxs) zad (zan (by simp;omega)) λp4 hp4=>?_
 have hL4:=Ls.more (p:=p4) (bs:=[la]) (ms:=[line]) ((hN.same sA).same t3) (t3 _ _ hxs) rfl (zgd (t3 _ _ (sA _ _ hla))) hp4
 have t4:=zaf hp4 (.lst (xs++[V.ref la]))
 have sB:=sA.trans (t3.trans t4)
 nofun
 refine⟨ta,p4,there,notes++[line],rfl,Rep.same sB _ hT,hL4.rep,by omega,by simp;omega,λv1 H3 s3 n3=>?_⟩
 have sC:=sB.trans s3
 have sAC:=(t3.trans t4).trans s3
 nofun
 refine⟨(by walk_at "sm"),λp5 hp5=>?_⟩
 have t5:=zaf hp5 (.lst [V.ref ba])
 nofun
 refine zbz (t5 _ _ (sAC _ _ hxs)) zad (zan (by simp;omega)) λp6 hp6=>?_
 have hL6:=Ls.more (p:=p6) (bs:=[ba]) (ms:=[zff line]) ((hN.same sC).same t5) (t5 _ _ (sAC _ _ hxs)) rfl (zgd (t5 _ _ (sAC _ _ ba1))) hp6
 have t6:=zaf hp6 (.lst (xs++[V.ref ba]))
 have t56:=t5.trans t6
 nofun
 refine⟨aa,p6,after,notes++[zff line],rfl,Rep.same (sC.trans t56) _ hA,hL6.rep,by omega,by simp;omega,λv2 H4 s4 n4=>?_⟩
 obtain⟨a1,vs1,f1,rfl,z1,y1,r1,_⟩:=New.lso n3
 obtain⟨a2,vs2,f2,rfl,z2,y2,r2,_⟩:=New.lso n4
 have l1:=r1.length
 have l2:=r2.length
 simp only[zlm] at l1 l2
 have sD:=t56.trans s4
 nofun
 refine zbz (sD _ _ y1) y2 (zan (by omega)) λp7 hp7=>?_
 exact q _ _ ((sC.trans sD).trans (zaf hp7 _)) (New.cat (n3.back sB) sC sD (n4.back t56) (sD _ _ y1) y2 hp7)
theorem zoA:decide (("part" : Str) ="set")=false∧decide (("draw" : Str) ="set")=false∧decide (("draw" : Str) ="part")=false∧decide (("turn" : Str) ="set")=false∧decide (("turn" : Str) ="part")=false∧decide (("turn" : Str) ="draw")=false∧decide (("hold" : Str) ="set")=false∧decide (("hold" : Str) ="part")=false∧decide (("hold" : Str) ="draw")=false∧decide (("hold" : Str) ="turn")=false∧decide (("call" : Str) ="set")=false∧decide (("call" : Str) ="part")=false∧decide (("call" : Str) ="draw")=false∧decide (("call" : Str) ="turn")=false∧decide (("call" : Str) ="hold")=false:=by decide +kernel
inductive Q2b (K:Fg) (C:Nat→Addr) (vs:List V) (H:Hp) (Q:VK) (E:XK):Prop
 | mk (p ca:Addr) (place:Nat) (needs leaves:List (List Int)) (deeds:List Dd) (notes:List (List (List Int))) (kvs:List (Key × V)) (oath:Oath) (d:Dd):vs=[.ref p,.int place,.ref ca]→zes K (C 0) H p needs leaves deeds notes→Good needs leaves deeds.length notes→deeds[place]?=some d→dOk deeds.length d→H ca=some (.dK kvs)→calls K (C 0) H kvs oath d→(∀ v H',Same H H'→New H H' (.lst (zfh (dueL leaves notes place) (dueL leaves notes (place+1)) (dueL leaves notes) oath d)) v→Q v H')→Q2b K C vs H Q E
include B Z in
theorem zhw (Q27:Fn P w K mg b8 "due_at" ["craft","place"] 3 (Q26 K C)) (Q34:Fn P w K mg b8 "call_duties" ["deed","notes","after","other"] 4 (Q33 K C)) (Q36:Fn P w K mg b8 "each_from" ["goals","hypotheses"] 2 (Q35 K)) (Q2e:Fn P w K mg b8 "part_duties" ["deed","notes","after"] 4 (Q2d K)) (Q30:Fn P w K mg b8 "draw_duties" ["deed","notes","after"] 4 (Q2f K)) (Q32:Fn P w K mg b8 "turn_duties" ["line","notes","there","after"] 3 (Q31 K)) (Q38:Fn P w K mg b8 "all_turned" ["lines","eight"] 3 (Q37 K)) (Q3a:Fn P w K mg b8 "eight_with" ["changes"] 2 (Q39 K)) (F:Fun K "deed_duties" "deed_duties" zc6 f fd) (m:mg "deed_duties"=some (.ref f)):Fn P w K mg b8 "deed_duties" ["craft","place","crafts"] 5 (Q2b K C):=by
 refine Fn.of (k:=4) F zb7 m (λ_ _ _ _ _ _ us hl=>match us,hl with | [_,_,_],_=>rfl) (λvs H Q E h=>?_) (λcdv A outer s H vs Q E hr h=>?_)
 ·first
  | (obtain⟨_,_,_,_,_,_,_,_,_,_,rfl,_⟩:=h;rfl)
 obtain⟨p,ca,place,needs,leaves,deeds,notes,kvs,oath,d,rfl,hT,hg,hd,ok,hca,hcl,q⟩:=h
 refine⟨_,(zag (zay (i:=3) zb7.nd rfl (Or.inl rfl) (zaH (k_ix K) (zbD K (pv 0) rfl) (pv 1) (λ_ _=>rfl)))
   (zag (zay (i:=4) zb7.nd rfl (Or.inl rfl) (zap Q27 hr rfl (zab (pv 0) (zab (pv 1) zac))))
   (zag (zay (i:=5) zb7.nd rfl (Or.inl rfl) (zap Q27 hr rfl (zab (pv 0) (zaP (zam (zaL K) (pv 1) zaa) zac))))
   (zag (zay (i:=6) zb7.nd rfl (Or.inl rfl) (zaH (k_ix K) (pv 3) zaa (λ_ _=>rfl)))
   (zag (za0 (zau (k_eq K hr) (pv 6) zbr (zav _)) (zaj (zao (zap Q36 hr rfl (zaC (zap Q38 hr rfl (zab (pv 5) (zaC (zap Q3a hr rfl (zbv (zfx (zcq (zaH (k_ix K) (pv 3) zaa (λ_ _=>rfl)) (zaH (k_ix K) (pv 3) zaa (λ_ _=>rfl)) zfw) rfl rfl (by simp) (by simp)) zac)) zac))) (zab (pv 4) zac))))) zax)
   (zag (za0 (zau (k_eq K hr) (pv 6) zbr (zav _)) (zaj (zao (zap Q2e hr rfl (zab (pv 3) (zab (pv 4) (zab (pv 5) zac)))))) zax)
   (zag (za0 (zau (k_eq K hr) (pv 6) zbr (zav _)) (zaj (zao (zap Q30 hr rfl (zab (pv 3) (zab (pv 4) (zab (pv 5) zac)))))) zax)
   (zag (za0 (zau (k_eq K hr) (pv 6) zbr (zav _)) (zaj (zao (zap Q32 hr rfl (zaR (zaH (k_ix K) (pv 3) zaa (λ_ _=>rfl)) (zab (pv 4) (zaC (zap Q27 hr rfl (zab (pv 0) (zaR (zaH (k_ix K) (pv 3) zaa (λ_ _=>rfl)) zac))) (zab (pv 5) zac))))))) zax)
   (zag (za0 (zau (k_eq K hr) (pv 6) zbr (zav _)) (zaj (zao (zam (zaL K) (zap Q36 hr rfl (zbU (zaE (zaR (zaH (k_ix K) (pv 3) zaa (λ_ _=>rfl)) zac)) (zab (pv 4) zac))) (zap Q36 hr rfl (zab (pv 5) (zaP (zam (zaL K) (pv 4) (zaE (zaR (zaH (k_ix K) (pv 3) zaa (λ_ _=>rfl)) zac))) zac)))))) zax)
   (zaj (zao (zap Q34 hr rfl (zab (pv 3) (zab (pv 4) (zab (pv 5) (zaR (zei (hr_u hr) (pv 2) (zaH (k_ix K) (pv 3) zaa (λ_ _=>rfl)) (λ_ _=>rfl)) zac)))))))))))))))),?_⟩
 obtain⟨k1,k2,k3,k4,k5,k6,k7,k8,k9,k10,k11,k12,k13,k14,k15⟩:=zoA
 have lp:place<deeds.length:=(zge.mp hd).1
 obtain⟨hC,dx,w1,w2,bd,w4,dvs,hp,hbd,hD⟩:=hT
 obtain⟨x,hx,rx⟩:=R2.get hD lp
 rw[List.getElem?_eq_getElem lp] at hd
 cases hd
 generalize hdd:deeds[place]=d at rx ok hcl q
 obtain⟨t,ys,rfl,htup⟩:=zj7 rx
 walk_at "q"
 nofun
 refine⟨p,(C 0),dx,_,_,rfl,hp,Z.c_Craft,Z.n_Craft_deeds,zcN _ _ _ _,?_⟩
 nofun
 refine zbA (SqL.of hbd) (v:=.ref t) (zaN hx) ?_
 nofun
 have due:∀ {Hx:Hp}{Q':VK}(k:Int),Same H Hx→0≤k→k≤(deeds.length:Int)→(∀ a H',Same Hx H'→Hx a=none→Ls H' a (dueL leaves notes k)→Q' (.ref a) H')→Q26 K C [.ref p,.int k] Hx Q' E0:=λ{Hx Q'} k s k0 kn hq=>
  ⟨p,k,needs,leaves,deeds.map toD,notes,rfl,hC.same s,k0,by rw[zlm];exact kn,by rw[zlm];exact hg.dn,by rw[zlm];have:=hg.d;omega,by have:=hg.l;omega,hg.l9,λls hl=>by have:=(hg.o ls hl).1;omega,λv H' s' n'=>by obtain⟨a,rfl,a0,hL⟩:=n'.ls;exact hq a H' s' a0 hL⟩
 walk_at "q"
 nofun
 refine due _ (Same.refl _) (by omega) (by omega) λna H1 s1 na0 hN=>?_
 nofun
 walk_at "q"
 nofun
 refine due _ s1 (by omega) (by omega) λaa H2 s2 aa0 hA=>?_
 have s02:=s1.trans s2
 have hN2:=hN.same s2
 have gN:=hg.due (place:Int)
 have gA:=hg.due ((place:Int)+1)
 have h2:=s02 _ _ htup
 nofun
 walk_at "q"
 nofun
 refine za8 (SqT.of h2) zbV ?_
 nofun
 have rx2:zcE H2 (toD d) (.ref t):=rx.sq s02.sq
 generalize dueL leaves notes (place:Int)=N at hN2 gN q
 generalize dueL leaves notes ((place:Int)+1)=A at hA gA q
 cases d with
 | set h l=>
  obtain⟨t',xs,et,hT2,px⟩:=zcu rx2
  cases et
  obtain⟨x0,r,rfl,e0,px⟩:=zaI px
  obtain⟨x1,r,rfl,e1,px⟩:=zaI px
  obtain⟨x2,r,rfl,e2,px⟩:=zaI px
  cases zdQ px;cases zd0 e0
  cases zcM e1
  obtain⟨b2,rfl,hb2⟩:=zfg e2
  with_reducible refine zi7 (λQ2 q2=>?_) (λNX=>?_)
  ·nofun
   rw[decide_eq_true (show zc1 (Dd.set h l) ="set" from rfl)]
   exact q2
  nofun
  refine zhG λdp hdp=>?_
  have u0:=zaf hdp (.dK [])
  nofun
  refine za8 (SqT.of (u0 _ _ hT2)) (v:=.int h) (zaN (j:=1) rfl) ?_
  nofun
  refine za8 (SqT.of (u0 _ _ hT2)) (v:=.ref b2) (zaN (j:=2) rfl) ?_
  nofun
  refine⟨zad,[(.inl h,.ref b2)],rfl,by simp,?_⟩
  have s23:Same H2 (upd (upd H2 dp (.dK [])) dp (.dK (zb1 [] [(.inl h,.ref b2)]))):=u0.put hdp
  nofun
  refine⟨dp,_,ch1 h l,rfl,zad,znj ok.1 (s23 _ _ hb2),λea H4 s4 ea0 hE=>?_⟩
  have s24:=s23.trans s4
  nofun
  refine⟨aa,ea,A,zaA (ch1 h l),rfl,(hA.same s24).rep,hE.rep,by omega,λz hz=>⟨gA.2 z hz,zd7 (zbq (λi=>zcz i) (zfH ok.2))⟩,zbI _,zbq (λi=>zal i) (zfH ok.1),λv H5 s5 n5=>?_⟩
  have rv:=New.rep (K:=K) n5
  obtain⟨ga,rfl⟩:∃ b,v=.ref b:=by obtain⟨b,_,e,_⟩:=New.news n5;exact⟨b,e⟩
  have s25:=s24.trans s5
  nofun
  refine⟨ga,na,_,N,rfl,rv,(hN2.same s25).rep,by simp;omega,by omega,λv H6 s6 n6=>?_⟩
  exact q _ _ (s02.trans (s25.trans s6)) (n6.back (s02.trans s25))
 | part h l b=>
  obtain⟨t',xs,et,hT2,px⟩:=zcu rx2
  cases et
  obtain⟨x0,r,rfl,e0,px⟩:=zaI px
  obtain⟨x1,r,rfl,e1,px⟩:=zaI px
  obtain⟨x2,r,rfl,e2,px⟩:=zaI px
  obtain⟨x3,r,rfl,e3,px⟩:=zaI px
  cases zdQ px;cases zd0 e0
  cases zcM e1
  obtain⟨b2,rfl,hb2⟩:=zfg e2
  cases zcM e3
  with_reducible refine zdg (λQ2 q2=>?_) ?_
  ·nofun
   rw[show decide (zc1 (Dd.part h l b) ="set")=false from k1]
   exact q2
  with_reducible refine zi7 (λQ2 q2=>?_) (λNX=>?_)
  ·nofun
   rw[decide_eq_true (show zc1 (Dd.part h l b) ="part" from rfl)]
   exact q2
  nofun
  refine⟨t,na,aa,b2,h,b,l,N,A,rfl,SqT.of hT2,hb2,ok.1,ok.2,hN2,hA.rep,by omega,by omega,gA.2,λv H3 s3 n3=>?_⟩
  exact q _ _ (s02.trans s3) (n3.back s02)
 | draw h lo hi=>
  obtain⟨t',xs,et,hT2,px⟩:=zcu rx2
  cases et
  obtain⟨x0,r,rfl,e0,px⟩:=zaI px
  obtain⟨x1,r,rfl,e1,px⟩:=zaI px
  obtain⟨x2,r,rfl,e2,px⟩:=zaI px
  obtain⟨x3,r,rfl,e3,px⟩:=zaI px
  cases zdQ px;cases zd0 e0
  cases zcM e1
  cases zcM e2
  cases zcM e3
  with_reducible refine zdg (λQ2 q2=>?_) ?_
  ·nofun
   rw[show decide (zc1 (Dd.draw h lo hi) ="set")=false from k2]
   exact q2
  with_reducible refine zdg (λQ2 q2=>?_) ?_
  ·nofun
   rw[show decide (zc1 (Dd.draw h lo hi) ="part")=false from k3]
   exact q2
  with_reducible refine zi7 (λQ2 q2=>?_) (λNX=>?_)
  ·nofun
   rw[decide_eq_true (show zc1 (Dd.draw h lo hi) ="draw" from rfl)]
   exact q2
  nofun
  refine⟨t,na,aa,h,lo,hi,N,A,rfl,SqT.of hT2,hN2,hA.rep,by omega,by omega,gA.2,λv H3 s3 n3=>?_⟩
  exact q _ _ (s02.trans s3) (n3.back s02)
 | turn l p2=>
  obtain⟨t',xs,et,hT2,px⟩:=zcu rx2
  cases et
  obtain⟨x0,r,rfl,e0,px⟩:=zaI px
  obtain⟨x1,r,rfl,e1,px⟩:=zaI px
  obtain⟨x2,r,rfl,e2,px⟩:=zaI px
  cases zdQ px;cases zd0 e0
  obtain⟨b1,rfl,hb1⟩:=zfg e1
  cases zcM e2
  with_reducible refine zdg (λQ2 q2=>?_) ?_
  ·nofun
   rw[show decide (zc1 (Dd.turn l p2) ="set")=false from k4]
   exact q2
  with_reducible refine zdg (λQ2 q2=>?_) ?_
  ·nofun
   rw[show decide (zc1 (Dd.turn l p2) ="part")=false from k5]
   exact q2
  with_reducible refine zdg (λQ2 q2=>?_) ?_
  ·nofun
   rw[show decide (zc1 (Dd.turn l p2) ="draw")=false from k6]
   exact q2
  with_reducible refine zi7 (λQ2 q2=>?_) (λNX=>?_)
  ·nofun
   rw[decide_eq_true (show zc1 (Dd.turn l p2) ="turn" from rfl)]
   exact q2
  nofun
  refine za8 (SqT.of hT2) (v:=.ref b1) (zaN (j:=1) rfl) ?_
  nofun
  refine za8 (SqT.of hT2) (v:=.int p2) (zaN (j:=2) rfl) ?_
  nofun
  refine due _ s02 ok.2.1 ok.2.2 λta H3 s3 ta0 hTh=>?_
  have gT:=hg.due p2
  have s03:=s02.trans s3
  nofun
  refine⟨b1,na,ta,aa,l,N,_,A,rfl,s3 _ _ hb1,ok.1,hN2.same s3,hTh.rep,(hA.same s3).rep,by omega,by omega,by omega,λv H4 s4 n4=>?_⟩
  exact q _ _ (s03.trans s4) (n4.back s03)
 | hold l=>
  obtain⟨t',xs,et,hT2,px⟩:=zcu rx2
  cases et
  obtain⟨x0,r,rfl,e0,px⟩:=zaI px
  obtain⟨x1,r,rfl,e1,px⟩:=zaI px
  cases zdQ px;cases zd0 e0
  obtain⟨b1,rfl,hb1⟩:=zfg e1
  with_reducible refine zdg (λQ2 q2=>?_) ?_
  ·nofun
   rw[show decide (zc1 (Dd.hold l) ="set")=false from k7]
   exact q2
  with_reducible refine zdg (λQ2 q2=>?_) ?_
  ·nofun
   rw[show decide (zc1 (Dd.hold l) ="part")=false from k8]
   exact q2
  with_reducible refine zdg (λQ2 q2=>?_) ?_
  ·nofun
   rw[show decide (zc1 (Dd.hold l) ="draw")=false from k9]
   exact q2
  with_reducible refine zdg (λQ2 q2=>?_) ?_
  ·nofun
   rw[show decide (zc1 (Dd.hold l) ="turn")=false from k10]
   exact q2
  with_reducible refine zi7 (λQ2 q2=>?_) (λNX=>?_)
  ·nofun
   rw[decide_eq_true (show zc1 (Dd.hold l) ="hold" from rfl)]
   exact q2
  nofun
  refine za8 (SqT.of hT2) (v:=.ref b1) (zaN (j:=1) rfl) ?_
  nofun
  refine⟨(by walk_at "sm"),λp3 hp3=>?_⟩
  have t3:=zaf hp3 (.lst [V.ref b1])
  nofun
  refine⟨p3,na,[l],N,rfl,zdN (bs:=[b1]) zad rfl (zgd (t3 _ _ hb1)),(hN2.same t3).rep,by simp,by omega,λv1 H3 s3 n3=>?_⟩
  have s23:=t3.trans s3
  nofun
  refine za8 (SqT.of (s23 _ _ hT2)) (v:=.ref b1) (zaN (j:=1) rfl) ?_
  nofun
  refine⟨(by walk_at "sm"),λp5 hp5=>?_⟩
  have t5:=zaf hp5 (.lst [V.ref b1])
  obtain⟨xs,hxs,lxs⟩:=(hN2.same s23).len
  nofun
  refine zbz (t5 _ _ hxs) zad (zan (by simp;omega)) λp6 hp6=>?_
  have hL6:=Ls.more (p:=p6) (bs:=[b1]) (ms:=[l]) ((hN2.same s23).same t5) (t5 _ _ hxs) rfl (zgd (t5 _ _ (s23 _ _ hb1))) hp6
  have t6:=zaf hp6 (.lst (xs++[V.ref b1]))
  have t56:=t5.trans t6
  nofun
  refine⟨aa,p6,A,N++[l],rfl,(hA.same (s23.trans t56)).rep,hL6.rep,by omega,by simp;omega,λv2 H4 s4 n4=>?_⟩
  obtain⟨a1,vs1,f1,rfl,z1,y1,r1,_⟩:=New.lso n3
  obtain⟨a2,vs2,f2,rfl,z2,y2,r2,_⟩:=New.lso n4
  have l1:=r1.length
  have l2:=r2.length
  simp only[zlm] at l1 l2
  have sD:=t56.trans s4
  nofun
  refine zbz (sD _ _ y1) y2 (zan (by simp at l1;omega)) λp7 hp7=>?_
  exact q _ _ ((s02.trans (s23.trans sD)).trans (zaf hp7 _)) (New.cat (n3.back (s02.trans t3)) (s02.trans s23) sD (n4.back t56) (sD _ _ y1) y2 hp7)
 | call m g0 g1 t0 t1=>
  obtain⟨t',xs,et,hT2,px⟩:=zcu rx2
  cases et
  obtain⟨x0,r,rfl,e0,px⟩:=zaI px
  obtain⟨x1,r,rfl,e1,px⟩:=zaI px
  obtain⟨x2,r,rfl,e2,px⟩:=zaI px
  obtain⟨x3,r,rfl,e3,px⟩:=zaI px
  cases zdQ px;cases zd0 e0
  cases zcM e1
  obtain⟨b2,rfl,hb2⟩:=zjc e2
  obtain⟨b3,rfl,hb3⟩:=zjc e3
  with_reducible refine zdg (λQ2 q2=>?_) ?_
  ·nofun
   rw[show decide (zc1 (Dd.call m g0 g1 t0 t1) ="set")=false from k11]
   exact q2
  with_reducible refine zdg (λQ2 q2=>?_) ?_
  ·nofun
   rw[show decide (zc1 (Dd.call m g0 g1 t0 t1) ="part")=false from k12]
   exact q2
  with_reducible refine zdg (λQ2 q2=>?_) ?_
  ·nofun
   rw[show decide (zc1 (Dd.call m g0 g1 t0 t1) ="draw")=false from k13]
   exact q2
  with_reducible refine zdg (λQ2 q2=>?_) ?_
  ·nofun
   rw[show decide (zc1 (Dd.call m g0 g1 t0 t1) ="turn")=false from k14]
   exact q2
  with_reducible refine zdg (λQ2 q2=>?_) ?_
  ·nofun
   rw[show decide (zc1 (Dd.call m g0 g1 t0 t1) ="hold")=false from k15]
   exact q2
  obtain⟨o,od,ons,hv,hO,hgo⟩:=hcl
  nofun
  refine za8 (SqT.of hT2) (v:=.int m) (zaN (j:=1) rfl) ?_
  nofun
  refine⟨ca,.ref o,rfl,by rw[←hv];exact DGet.k (k:=.inl m) (s02 _ _ hca),?_⟩
  nofun
  refine⟨t,na,aa,o,b2,b3,m,g0,g1,t0,t1,N,A,_,_,od,ons,rfl,SqT.of hT2,SqT.of hb2,SqT.of hb3,hN2,hA.rep,by omega,by omega,gN.2,gA.2,hO.same s02,hgo,λv H3 s3 n3=>?_⟩
  exact q _ _ (s02.trans s3) (n3.back s02)
inductive Q28 (K:Fg) (C:Nat→Addr) (vs:List V) (H:Hp) (Q:VK) (E:XK):Prop
  | mk (p ca:Addr) (needs leaves:List (List Int)) (deeds:List Dd) (notes:List (List (List Int))) (kvs:List (Key × V)) (oath:Oath):vs=[.ref p,.ref ca]→zes K (C 0) H p needs leaves deeds notes→Good needs leaves deeds.length notes→(∀ d∈deeds,dOk deeds.length d)→H ca=some (.dK kvs)→(∀ m∈zaD deeds,m.natAbs<zbE)→(((∃ m∈zaD deeds,valV kvs (.inl m)=none)∧∀ H',Same H H'→E (.ref (C 4)) none H')∨
   ((∀ m∈zaD deeds,(valV kvs (.inl m)).isSome=true)∧(∀ d∈deeds,calls K (C 0) H kvs oath d)∧(zgL needs leaves deeds notes oath).length≤1000∧∀ v H',Same H H'→New H H' (.lst (zgL needs leaves deeds notes oath)) v→Q v H'))→Q28 K C vs H Q E
include B Z in
theorem znl (Qe:Fn P w K mg b8 "called_by" ["craft"] 1 (Qd K C)) (Q2a:Fn P w K mg b8 "first_duties" ["craft"] 4 (Q29 K C)) (Q2c:Fn P w K mg b8 "deed_duties" ["craft","place","crafts"] 5 (Q2b K C)) (F:Fun K "duties" "duties" zf1 f fd) (m:mg "duties"=some (.ref f)):Fnx P w K mg b8 "duties" ["craft","crafts"] 6 (Q28 K C):=by
 refine⟨f,fd,F.okx (k:=5) zfp (λvs H Q E h=>?_) (λcdv A outer s H vs Q E hr h=>?_),F.binds λ_ _ _ _ _ _ us hl=>match us,hl with | [_,_],_=>rfl,F.kp,m⟩
 ·first
  | (obtain⟨_,_,_,_,_,_,_,_,rfl,_⟩:=h;rfl)
 obtain⟨p,ca,needs,leaves,deeds,notes,kvs,oath,rfl,hT,hg,hok,hca,hm,hc⟩:=h
 refine⟨_,(zag (zds PassesOwn.leaving rfl (zaX K (zap Qe hr rfl (zab (pv 0) zac))) (zas (i:=2) zfp.nd rfl (Or.inl rfl)) (zaj (za0 (ziB (zgs (hr_u hr) (pv 2) (pv 1))) (zaj (zgc Z.e_Unmet rfl Z.m_Unmet rfl zh6 (zbv (zrp (pv 2) (by decide +kernel) (by decide +kernel)) zac))) zax)))
   (zag (zay (i:=3) zfp.nd rfl (Or.inl rfl) (zap Q2a hr rfl (zab (pv 0) zac)))
   (zag (zds PassesOwn.leaving rfl (zbJ rfl B.range (zaC (zaz (zcD K) rfl B.len L2.boot_len (zbP (zbD K (pv 0) rfl) zac)) zac)) (zas (i:=4) zfp.nd rfl (Or.inl rfl)) (zaj (zbc (znL PySem.F.plainAttrs_list PySem.F.slot_list_extend PySem.F.type_list_extend zmi (pv 3) (zaC (zap Q2c hr rfl (zab (pv 0) (zab (pv 4) (zab (pv 1) zac)))) zac)))))
   (zaj (zao (pv 3)))))),?_⟩
 have hT0:=hT
 obtain⟨hC,dx,w1,w2,bd,w4,dvs,hp,hbd,hD⟩:=hT
 walk_at "q"
 nofun
 refine⟨p,dx,bd,w1,w2,w4,dvs,deeds,rfl,hp,hbd,hD,by have:=hg.d;omega,λv H1 s1 n1=>?_⟩
 obtain⟨la,rfl,la0,la1⟩:=New.iif.mp n1
 have lc:(zaD deeds).length≤deeds.length:=List.length_filterMap_le _ _
 refine⟨la,rfl,⟨_,SqL.of la1⟩,?_⟩
 refine zh4 (zaO (SqL.of la1)) (λi σ H2=>∃ x,A3 (σ=[some (.ref p),some (.ref ca),x,none,none]) (Same H1 H2) (∀ m∈(zaD deeds).take i,(valV kvs (.inl m)).isSome=true))
  ⟨none,rfl,Same.refl _,λm hm=>by simp at hm⟩ (λi σ H2 ⟨_,_,e,_⟩=>e) ?_ ?_
 ·rintro i v σ H2 H3 hi ⟨x,rfl,s2,hpre⟩ s3 hv
  rw[zgm] at hv
  obtain⟨m,hm',rfl⟩:=zme.mp hv
  have mm:=zmg hm'
  have s03:=s1.trans (s2.trans s3)
  nofun
  refine⟨ca,_,rfl,DGet.k (k:=.inl m) (s03 _ _ hca),?_⟩
  cases hv':valV kvs (.inl m) with
  | none=>
   nofun
   refine zcT (λ_=>?_) (λz=>by cases z)
   nofun
   refine⟨hm m mm,λz=>?_⟩
   nofun
   refine⟨(by walk_at "sm"),?_⟩
   rcases hc with ⟨_,hE⟩ | ⟨hB,_⟩
   ·exact hE _ s03
   ·have:=hB m mm
    rw[hv'] at this;cases this
  | some y=>
   nofun
   refine zcT (λz=>by cases z) (λ_=>?_)
   nofun
   refine⟨_,rfl,s2.trans s3,λk hk=>?_⟩
   rw[List.take_add_one,hm'] at hk
   rcases zma.mp hk with hk | hk
   ·exact hpre k hk
   ·simp at hk;subst hk;rw[hv'];rfl
 rintro σ H2 ⟨x,rfl,s2,hall⟩
 rw[zlm,List.take_of_length_le (Nat.le_refl _)] at hall
 rcases hc with ⟨⟨m,mm,hn⟩,_⟩ | ⟨_,hcl,hlen,q⟩
 ·have:=hall m mm
  rw[hn] at this;cases this
 have s02:=s1.trans s2
 walk_at "q"
 nofun
 refine⟨p,needs,leaves,deeds.map toD,notes,rfl,hC.same s02,by rw[zlm];exact hg,λv H3 s3 n3=>?_⟩
 have s03:=s02.trans s3
 obtain⟨ta,tvs,rfl,ta0,ac⟩:=(n3.back s02).acc
 nofun
 walk_at "q"
 nofun
 refine⟨p,(C 0),dx,_,_,rfl,s03 _ _ hp,Z.c_Craft,Z.n_Craft_deeds,zcN _ _ _ _,?_⟩
 nofun
 refine zcZ (.inl (SqL.of (s03 _ _ hbd))) ?_
 rw[←hD.1]
 refine zc0 (by omega) (by have:=hg.d;omega) ?_
 refine zgA (λi σ H4=>∃ x y vs,i≤deeds.length∧σ=[some (.ref p),some (.ref ca),x,some (.ref ta),y]∧Same H H4∧Free H H4∧Acc H ta H4 (zje needs leaves notes++zbk leaves notes oath (deeds.take i) 0) vs)
  ⟨_,none,tvs,Nat.zero_le _,rfl,s03,s03.fr,by rw[List.take_zero];show Acc H ta H3 (_++[]) tvs;rw[List.append_nil];exact ac⟩ ?_ ?_
 ·rintro i σ H4 hi ⟨x',y,vs,him,rfl,s4,f4,ac4⟩
  have hi':i<deeds.length:=by have:i<((deeds.length:Int)).toNat:=hi;omega
  have eT:deeds=deeds.take i++deeds[i]::deeds.drop (i+1):=by rw[List.getElem_cons_drop,List.take_append_drop]
  have eS:deeds.take (i+1)=deeds.take i++[deeds[i]]:=by rw[List.take_add_one,List.getElem?_eq_getElem hi'];rfl
  have step:zbk leaves notes oath (deeds.take (i+1)) 0=zbk leaves notes oath (deeds.take i) 0++zfh (dueL leaves notes i) (dueL leaves notes ((i:Int)+1)) (dueL leaves notes) oath deeds[i]:=by
   rw[eS,zeU]
   congr 1
   show zfh _ _ _ _ _++[]=_
   rw[List.append_nil,List.length_take,Nat.zero_add,Nat.min_eq_left (by omega)]
  have short:(zje needs leaves notes++zbk leaves notes oath (deeds.take (i+1)) 0).length≤1000:=by
   refine Nat.le_trans ?_ hlen
   unfold zgL
   have:=zeU leaves notes oath (deeds.take (i+1)) (deeds.drop (i+1)) 0
   rw[List.take_append_drop] at this
   rw[this]
   simp only[List.length_append];omega
  nofun
  refine⟨tyL ac4.get,?_⟩
  nofun
  rw[Int.zero_add]
  refine⟨p,ca,i,needs,leaves,deeds,notes,kvs,oath,deeds[i],rfl,zes.same s4 hT0,hg,List.getElem?_eq_getElem hi',hok _ (List.getElem_mem hi'),s4 _ _ hca,(hcl _ (List.getElem_mem hi')).same s4,λv H5 s5 n5=>?_⟩
  obtain⟨b,zs,rfl,b0,ab⟩:=n5.acc
  have lz:=ab.len
  have lv:=ac4.len
  nofun
  refine⟨ta,b,vs,zs,rfl,rfl,s5 _ _ ac4.get,ab.get,?_,?_⟩
  ·rw[step] at short
   simp only[List.length_append] at short lv
   exact zan (by omega)
  ·refine⟨_,_,vs++zs,hi',rfl,(s4.trans s5).put ta0,f4.trans (s5.fr.trans zeE),?_⟩
   rw[step,←List.append_assoc]
   exact ac4.ext f4 s5 n5 ab.get
 ·rintro σ H4 ⟨x',y,vs,him,rfl,s4,f4,ac4⟩
  nofun
  refine q _ _ s4 ?_
  rw[show ((deeds.length:Int)).toNat=deeds.length by omega,List.take_of_length_le (Nat.le_refl _)] at ac4
  exact ac4.new ta0
--LEN (rcases h with ⟨_, rfl, _⟩ | ⟨_, _, _, _, _, _, _, _, _, _, rfl, _⟩ <;> rfl)
def CB (w:Int):Prop:=-(2 ^ 62)<w∧w<2 ^ 62
def ziw (K:Fg):Sp:=λvs H Q _=>(∃ d,vs=[d,.non]∧Q (.bl false) H)∨∃ (d r ga ha wa:Addr) (goal:List Int) (hyps:List (List Int)) (xs:List V) (whole:Int) (ws:List Int),vs=[.ref d,.ref r]∧SqT K H d [.ref ga,.ref ha]∧H ga=some (.lst (goal.map V.int))∧H ha=some (.lst xs)∧Reps K H (hyps.map nums) xs∧SqT K H r [.int whole,.ref wa]∧SqL K H wa (ws.map V.int)∧goal.length=9∧(∀ l∈hyps,l.length=9)∧hyps.length≤100∧ws.length≤1000∧CB whole∧(∀ w∈ws,CB w)∧
 ∀ H',Same H H'→Q (.bl (zeL goal hyps whole ws)) H'
theorem zp6 (ws:List Int):(ws.map λw=>decide (w<0)).any id=!ws.all λw=>decide (0≤w):=by
 induction ws with
 | nil=>rfl
 | cons w ws ih=>
  rw[zmc,List.any_cons,ih,List.all_cons,Bool.not_and]
  congr 1
  by_cases h:w<0
  ·rw[id,decide_eq_true h,decide_eq_false (by omega)];rfl
  ·rw[id,decide_eq_false h,decide_eq_true (by omega)];rfl
theorem zrA:(List.replicate (8:Int).toNat [V.int 0]).flatten=(List.replicate 8 (0:Int)).map V.int:=rfl
include B Z in
theorem zoB (Q3:Fn P w K mg b8 "summed" ["lines","weights"] 1 (Q1 K)) (F:Fun K "shows" "shows" zed f fd) (m:mg "shows"=some (.ref f)):Fn P w K mg b8 "shows" ["duty","row"] 2 (ziw K):=by
 refine Fn.of (k:=1) F zcw m (λ_ _ _ _ _ _ us hl=>match us,hl with | [_,_],_=>rfl) (λvs H Q E h=>?_) (λcdv A outer s H vs Q E hr h=>?_)
 ·first
  | (rcases h with ⟨_,rfl,_⟩ | ⟨_,_,_,_,_,_,_,_,_,_,rfl,_⟩ <;> rfl)
  | (obtain⟨rfl,_⟩:=h;rfl)
  | (obtain⟨_,rfl,_⟩:=h;rfl)
  | (obtain⟨_,_,rfl,_⟩:=h;rfl)
  | (obtain⟨_,_,_,rfl,_⟩:=h;rfl)
  | (obtain⟨_,_,_,_,rfl,_⟩:=h;rfl)
  | (obtain⟨_,_,_,_,_,rfl,_⟩:=h;rfl)
  | (obtain⟨_,_,_,_,_,_,rfl,_⟩:=h;rfl)
  | (obtain⟨_,_,_,_,_,_,_,rfl,_⟩:=h;rfl)
  | (obtain⟨_,_,_,_,_,_,_,_,rfl,_⟩:=h;rfl)
  | (obtain⟨_,_,_,_,_,_,_,_,_,rfl,_⟩:=h;rfl)
  | (obtain⟨_,_,_,_,_,_,_,_,_,_,rfl,_⟩:=h;rfl)
  | (obtain⟨_,_,_,_,_,_,_,_,_,_,_,rfl,_⟩:=h;rfl)
  | (obtain⟨_,_,_,_,_,_,_,_,_,_,_,_,rfl,_⟩:=h;rfl)
  | (obtain⟨_,_,_,_,_,_,_,_,_,_,_,_,_,rfl,_⟩:=h;rfl)
  | (obtain⟨_,_,_,_,_,_,_,_,_,_,_,_,_,_,rfl,_⟩:=h;rfl)
  | (obtain⟨_,_,_,_,_,_,_,_,_,_,_,_,_,_,_,rfl,_⟩:=h;rfl)
  | (obtain⟨_,_,_,_,_,_,_,_,_,_,_,_,_,_,_,_,rfl,_⟩:=h;rfl)
 rcases h with ⟨d,rfl,q⟩ | ⟨d,r,ga,ha,wa,goal,hyps,xs,whole,ws,rfl,hd,hga,hha,hx,hrr,hwa,l9,h9,hl,hlw,cw,cws,q⟩
 ·refine⟨_,(zag (za0 (zau zlY (pv 1) zeI (zav _)) (zaj (zao zef)) zax)
   (zag (zay (i:=2) zcw.nd rfl (Or.inl rfl) (zaH (k_ix K) (pv 0) zaa (λ_ _=>rfl)))
   (zag (zay (i:=3) zcw.nd rfl (Or.inl rfl) (zaH (k_ix K) (pv 0) zaa (λ_ _=>rfl)))
   (zag (zay (i:=4) zcw.nd rfl (Or.inl rfl) (zaH (k_ix K) (pv 1) zaa (λ_ _=>rfl)))
   (zag (zay (i:=5) zcw.nd rfl (Or.inl rfl) (zaH (k_ix K) (pv 1) zaa (λ_ _=>rfl)))
   (zag (za0 (PW.pt (zjU (zau zld (pv 4) zaa (zav _)) (zjU (zau (k_ne K hr) (zaz (zcD K) rfl B.len L2.boot_len (zab (pv 5) zac)) (zaz (zcD K) rfl B.len L2.boot_len (zab (pv 3) zac)) (zav _)) (ziC (zcQ (zaz (zpE K rfl) rfl B.any L2.zh5 (zcs (za1 rfl (COk.m (sc0:=zai zed) (N:=["duty","row","goal","hypotheses","whole","weights","rest"]) (N':=["duty","row","goal","hypotheses","whole","weights","rest","weight"]) (ms:=[false,false,false,false,false,false,false,true])) (zaX K (pv 5)) (λ_ _ _ _ _=>(zas (i:=7) (ndS (N:=["duty","row","goal","hypotheses","whole","weights","rest","weight"])) rfl (Or.inl rfl))) (λ_ _ _ _ _=>zaG) (λ_ _ _ _ _=>(zbh zld (pv 7) zaa (zav _)))) zac))))))) (zaj (zao zef)) zax)
   (zag (zay (i:=6) zcw.nd rfl (Or.inl rfl) (zap Q3 hr rfl (zaP (zam (zaL K) (zaE (zab (pv 2) zac)) (pv 3)) (zaP (zam (zaL K) (zaE (zab (pv 4) zac)) (za1 rfl (COk.m (sc0:=zai zed) (N:=["duty","row","goal","hypotheses","whole","weights","rest"]) (N':=["duty","row","goal","hypotheses","whole","weights","rest","weight"]) (ms:=[false,false,false,false,false,false,false,true])) (zaX K (pv 5)) (λ_ _ _ _ _=>(zas (i:=7) (ndS (N:=["duty","row","goal","hypotheses","whole","weights","rest","weight"])) rfl (Or.inl rfl))) (λ_ _ _ _ _=>zaG) (λ_ _ _ _ _=>(zdZ zcp (pv 7))))) zac))))
   (zaj (zao (zbR (zbh zlX (zaH (k_ix K) (pv 6) zaa (λ_ _=>rfl)) (zdZ zcp (pv 4)) (zav _)) (zci (zbh (k_eq K hr) (zf8 (k_sl K) (pv 6) (zhW zaa) zhV) (zam zbT (zaE (zae zaa zac)) (zbd rfl B.c_FACTORS)) (zav _))))))))))))),?_⟩
  ac_rfl
  refine⟨rfl,?_⟩
  rw[zpH]
  ac_rfl
  exact q
 refine⟨_,(zag (za0 (zau zlY (pv 1) zeI (zav _)) (zaj (zao zef)) zax)
   (zag (zay (i:=2) zcw.nd rfl (Or.inl rfl) (zaH (k_ix K) (pv 0) zaa (λ_ _=>rfl)))
   (zag (zay (i:=3) zcw.nd rfl (Or.inl rfl) (zaH (k_ix K) (pv 0) zaa (λ_ _=>rfl)))
   (zag (zay (i:=4) zcw.nd rfl (Or.inl rfl) (zaH (k_ix K) (pv 1) zaa (λ_ _=>rfl)))
   (zag (zay (i:=5) zcw.nd rfl (Or.inl rfl) (zaH (k_ix K) (pv 1) zaa (λ_ _=>rfl)))
   (zag (za0 (PW.pt (zjU (zau zld (pv 4) zaa (zav _)) (zjU (zau (k_ne K hr) (zaz (zcD K) rfl B.len L2.boot_len (zab (pv 5) zac)) (zaz (zcD K) rfl B.len L2.boot_len (zab (pv 3) zac)) (zav _)) (ziC (zcQ (zaz (zpE K rfl) rfl B.any L2.zh5 (zcs (za1 rfl (COk.m (sc0:=zai zed) (N:=["duty","row","goal","hypotheses","whole","weights","rest"]) (N':=["duty","row","goal","hypotheses","whole","weights","rest","weight"]) (ms:=[false,false,false,false,false,false,false,true])) (zaX K (pv 5)) (λ_ _ _ _ _=>(zas (i:=7) (ndS (N:=["duty","row","goal","hypotheses","whole","weights","rest","weight"])) rfl (Or.inl rfl))) (λ_ _ _ _ _=>zaG) (λ_ _ _ _ _=>(zbh zld (pv 7) zaa (zav _)))) zac))))))) (zaj (zao zef)) zax)
   (zag (zay (i:=6) zcw.nd rfl (Or.inl rfl) (zap Q3 hr rfl (zaP (zam (zaL K) (zaE (zab (pv 2) zac)) (pv 3)) (zaP (zam (zaL K) (zaE (zab (pv 4) zac)) (za1 rfl (COk.m (sc0:=zai zed) (N:=["duty","row","goal","hypotheses","whole","weights","rest"]) (N':=["duty","row","goal","hypotheses","whole","weights","rest","weight"]) (ms:=[false,false,false,false,false,false,false,true])) (zaX K (pv 5)) (λ_ _ _ _ _=>(zas (i:=7) (ndS (N:=["duty","row","goal","hypotheses","whole","weights","rest","weight"])) rfl (Or.inl rfl))) (λ_ _ _ _ _=>zaG) (λ_ _ _ _ _=>(zdZ zcp (pv 7))))) zac))))
   (zaj (zao (zbR (zbh zlX (zaH (k_ix K) (pv 6) zaa (λ_ _=>rfl)) (zdZ zcp (pv 4)) (zav _)) (zci (zbh (k_eq K hr) (zf8 (k_sl K) (pv 6) (zhW zaa) zhV) (zam zbT (zaE (zae zaa zac)) (zbd rfl B.c_FACTORS)) (zav _))))))))))))),?_⟩
 have lx:=hx.length
 rw[zlm] at lx
 ac_rfl
 refine⟨rfl,?_⟩
 rw[zmI]
 ac_rfl
 refine za8 hd zbV ?_
 ac_rfl
 refine za8 hd (v:=.ref ha) (zaN (j:=1) rfl) ?_
 ac_rfl
 refine za8 hrr zbV ?_
 ac_rfl
 refine za8 hrr (v:=.ref wa) (zaN (j:=1) rfl) ?_
 ac_rfl
 have no:rowB hyps whole ws=false→∀ H',Same H H'→Q (.bl false) H':=λe H' s=>by
  have:=q H' s
  unfold zeL at this
  rwa [e,Bool.false_and] at this
 refine zcT (λe=>?_) (λe=>?_)
 ·ac_rfl
  refine no ?_ _ (Same.refl _)
  unfold rowB
  rw[decide_eq_false (by have:=of_decide_eq_true e;omega)];rfl
 have w1:1≤whole:=by have:=of_decide_eq_false e;omega
 ac_rfl
 refine zcZ (.inl hwa) ?_
 ac_rfl
 refine zcZ (.inl (SqL.of hha)) ?_
 ac_rfl
 refine zcT (λe=>?_) (λe=>?_)
 ·ac_rfl
  refine no ?_ _ (Same.refl _)
  have e1:¬ ((((ws.map V.int).length:Nat):Int)=(xs.length:Int)):=by simpa using e
  unfold rowB
  rw[decide_eq_false (show ¬ (ws.length=hyps.length) by rw[zlm] at e1;omega),Bool.false_and,Bool.and_false]
 have e1:(((ws.map V.int).length:Nat):Int)=(xs.length:Int):=by simpa using e
 have lw:ws.length=hyps.length:=by rw[zlm] at e1;omega
 ac_rfl
 refine⟨wa,rfl,⟨_,hwa⟩,?_⟩
 refine zaK (zaO hwa) ((ws.map λw=>decide (w<0)).map D.bl) (by simp) (zan (by simp;omega)) (λj x d' H4 R hj hd' s4 hx' hR=>?_) (λv H4 s4 n4=>?_)
 ·rw[zgm] at hx'
  obtain⟨w,hw,rfl⟩:=zme.mp hx'
  rw[zgm,zgm,hw] at hd'
  cases hd'
  ac_rfl
  exact hR _ _ (Same.refl _) New.bl
 obtain⟨ba,rfl,ba0,ba1⟩:=New.bls n4
 ac_rfl
 refine zq5 (SqL.of ba1) ?_
 rw[zp6]
 ac_rfl
 refine zcT (λe=>?_) (λe=>?_)
 ·ac_rfl
  refine no ?_ _ s4
  unfold rowB
  rw[show (ws.all λw=>decide (0≤w))=false by simpa using e,Bool.and_false,Bool.and_false]
 have hrow:rowB hyps whole ws=true:=by
  unfold rowB
  rw[decide_eq_true w1,decide_eq_true lw,show (ws.all λw=>decide (0≤w))=true by simpa using e];rfl
 ac_rfl
 refine⟨(by walk_at "sm"),λp hp=>?_⟩
 have s5:=s4.trans (zaf hp (.lst [.ref ga]))
 ac_rfl
 refine zbz zad (s5 _ _ hha) (zan (by simp;omega)) λp2 hp2=>?_
 have s6:=s5.trans (zaf hp2 (.lst ([.ref ga]++xs)))
 ac_rfl
 refine⟨(by walk_at "sm"),λp3 hp3=>?_⟩
 have s7:=s6.trans (zaf hp3 (.lst [.int whole]))
 ac_rfl
 refine⟨wa,rfl,⟨_,s7.seq hwa⟩,?_⟩
 refine zaK (zaO (s7.seq hwa)) ((negs ws).map D.int) (by simp[negs]) (zan (by simp;omega)) (λj x d' H8 R hj hd' s8 hx' hR=>?_) (λv H8 s8 n8=>?_)
 ·rw[zgm] at hx'
  obtain⟨w,hw,rfl⟩:=zme.mp hx'
  unfold negs at hd'
  rw[zgm,zgm,hw] at hd'
  cases hd'
  ac_rfl
  exact hR _ _ (Same.refl _) New.int
 obtain⟨na,rfl,na0,na1⟩:=New.iif.mp n8
 ac_rfl
 refine zbz (s8 _ _ zad) na1 (zan (by simp[negs];omega)) λp4 hp4=>?_
 have s9:=s8.trans (zaf hp4 (.lst ([.int whole]++(negs ws).map V.int)))
 have s09:=s7.trans s9
 ac_rfl
 have hL:Rep K (upd H8 p4 (.lst ([.int whole]++(negs ws).map V.int))) (.lst ((goal::hyps).map nums)) (.ref p2):=by
  unfold Rep
  refine⟨p2,[.ref ga]++xs,rfl,SqL.of (s9 _ _ (zaf hp3 _ _ _ zad)),?_⟩
  rw[zmc]
  unfold Reps
  exact⟨_,_,rfl,zbi.mpr ⟨ga,rfl,SqL.of (s09 _ _ hga)⟩,Reps.same s09 _ hx⟩
 refine⟨p2,p4,goal::hyps,whole::negs ws,rfl,hL,SqL.of zad,by simp[negs];omega,by simp;omega,λl hl=>?_,λi l w e1 e2 n hn=>?_,λv Ha sa na=>?_⟩
 ·rcases List.mem_cons.mp hl with hl | hl
  ·subst hl;exact l9
  ·exact h9 l hl
 ·refine .inr ?_
  cases i with
  | zero=>simp at e2;subst e2;unfold CB at cw;exact⟨by omega,by omega⟩
  | succ i=>
   have e2':(negs ws)[i]?=some w:=by simpa using e2
   unfold negs at e2'
   rw[zgm] at e2'
   obtain⟨u,hu,rfl⟩:=zme.mp e2'
   have:=cws u (zmg hu)
   unfold CB at this
   exact⟨by omega,by omega⟩
 obtain⟨ra,rfl,ra0,ra1⟩:=New.iif.mp na
 have hr9:(zbB goal hyps whole ws).length=9:=za2 λl hl=>by
  rcases List.mem_cons.mp hl with hl | hl
  ·subst hl;exact l9
  ·exact h9 l hl
 obtain⟨c,fs,ec⟩:∃ c fs,zbB goal hyps whole ws=c::fs:=by
  cases e:zbB goal hyps whole ws with
  | nil=>rw[e] at hr9;simp at hr9
  | cons c fs=>exact⟨c,fs,rfl⟩
 have ra2:Ha ra=some (.lst ((c::fs).map V.int)):=by rw[←ec];exact ra1
 have sf:=s09.trans sa
 have yes:∀ H',Same H H'→Q (.bl (decide (-whole<c) && decide (fs=List.replicate 8 0))) H':=λH' s=>by
  have:=q H' s
  unfold zeL zb3 at this
  rw[hrow,ec,Bool.true_and] at this
  exact this
 ac_rfl
 refine zbA (SqL.of ra2) (v:=.int c) zbV ?_
 ac_rfl
 cases hb:decide (-whole<c) with
 | false=>
  ac_rfl
  have:=yes _ sf
  rw[hb,Bool.false_and] at this
  exact this
 | true=>
  ac_rfl
  refine i_slL (SqL.of ra2) λp5 hp5=>?_
  rw[show cutV ((c::fs).map V.int) (some 1) none=fs.map V.int from zn9 (k:=1) (by simp)]
  ac_rfl
  refine⟨(by walk_at "sm"),λp6 hp6=>?_⟩
  ac_rfl
  refine .inr ⟨p6,8,[.int 0],rfl,rfl,zad,by decide,by decide,by decide,λp7 hp7=>?_⟩
  rw[zrA]
  have t5:=zaf hp5 (.lst (fs.map V.int))
  have t6:=zaf hp6 (.lst [.int 0])
  have t7:=zaf hp7 (.lst ((List.replicate 8 (0:Int)).map V.int))
  ac_rfl
  refine zpz (d:=nums fs) (e:=nums (List.replicate 8 0)) (zbi.mpr ⟨p5,rfl,SqL.of (t7 _ _ (t6 _ _ zad))⟩) (zbi.mpr ⟨p7,rfl,SqL.of zad⟩) (Nat.le_trans (zgb _) (by decide)) ?_
  have:=yes _ (sf.trans (t5.trans (t6.trans t7)))
  rw[hb,Bool.true_and] at this
  unfold pyEq
  rw[zfz]
  exact this
def zdk (K:Fg):Sp:=λvs H Q _=>∃ n:Nat,vs=[.int n]∧n≤8∧∀ v H',Same H H'→New H H' (.lst ((zbL n).map nums)) v→Q v H'
theorem znm {n:Nat}(h:n≤8):(zbL n).length≤256:=by
 rw[zfO]
 exact Nat.le_trans (Nat.pow_le_pow_right (by decide) h) (by decide)
theorem zoC {H:Hp}{p r:Addr}(hp:H p=none) (hr:(upd H p (.lst [])) r=none):New H (upd (upd H p (.lst [])) r (.lst [.ref p])) (.lst ((zbL 0).map nums)) (.ref r):=by
 have s1:=zaf hp (.lst [])
 have s2:=zaf hr (.lst [.ref p])
 have pr:r≠p:=λz=>by rw[z,zad] at hr;cases hr
 refine New.lst (fp:=[p]) ?_ (by simp) (λb hb=>?_) (s1.free hr) (by simpa using pr) zad
 ·show zak _ [nums []] [.ref p] [p]
  exact zak.cany (f:=[p]) (fp:=[]) (RepF.line (ns:=[]) (s2 _ _ zad)) zak.nil
 ·rw[zms.mp hb];exact hp
include B Z in
theorem ze0 (F:Fun K "noughts_and_ones" "noughts_and_ones" za9 f fd) (m:mg "noughts_and_ones"=some (.ref f)):Fn P w K mg b8 "noughts_and_ones" ["count"] 1 (zdk K):=by
 refine Fn.of (k:=0) F zbH m (λ_ _ _ _ _ _ us hl=>match us,hl with | [_],_=>rfl) (λvs H Q E h=>?_) (λcdv A outer s H vs Q E hr h=>?_)
 ·first
  | (obtain⟨_,rfl,_⟩:=h;rfl)
 obtain⟨n,rfl,hn,q⟩:=h
 refine⟨_,(zag (zay (i:=1) zbH.nd rfl (Or.inl rfl) (zaE (zbU (zaE zac) zac)))
   (zag (zds PassesOwn.never rfl (zbJ rfl B.range (zab (pv 0) zac)) (zas (i:=2) zbH.nd rfl (Or.inl rfl)) (zaj (zay (i:=1) zbH.nd rfl (Or.inl rfl) (zam (zaL K) (za1 rfl (COk.m (sc0:=zai za9) (N:=["count","found","bit"]) (N':=["count","found","bit","weights"]) (ms:=[false,false,false,true])) (zaX K (pv 1)) (λ_ _ _ _ _=>(zas (i:=3) (ndS (N:=["count","found","bit","weights"])) rfl (Or.inl rfl))) (λ_ _ _ _ _=>zaG) (λ_ _ _ _ _=>(zam (zaL K) (pv 3) (zaE (zae zaa zac))))) (za1 rfl (COk.m (sc0:=zai za9) (N:=["count","found","bit"]) (N':=["count","found","bit","weights"]) (ms:=[false,false,false,true])) (zaX K (pv 1)) (λ_ _ _ _ _=>(zas (i:=3) (ndS (N:=["count","found","bit","weights"])) rfl (Or.inl rfl))) (λ_ _ _ _ _=>zaG) (λ_ _ _ _ _=>(zam (zaL K) (pv 3) (zaE (zae zaa zac)))))))))
   (zaj (zao (pv 1))))),?_⟩
 ac_rfl
 refine⟨(by walk_at "sm"),λp1 hp1=>?_⟩
 ac_rfl
 refine⟨(by walk_at "sm"),λp2 hp2=>?_⟩
 have n0:=zoC hp1 hp2
 have s0:=(zaf hp1 (.lst [])).trans (zaf hp2 (.lst [.ref p1]))
 ac_rfl
 refine zc0 (by omega) (by omega) ?_
 refine zgA (λi σ H2=>∃ x fa,i≤n∧σ=[some (.int n),some (.ref fa),x]∧Same H H2∧New H H2 (.lst ((zbL i).map nums)) (.ref fa))
  ⟨none,p2,Nat.zero_le _,rfl,s0,n0⟩ ?_ ?_
 ·rintro i σ H2 hi ⟨x,fa,him,rfl,s2,n2⟩
  have hi':i<n:=by have:i<((n:Int)).toNat:=hi;omega
  have lr:=znm (n:=i) (by omega)
  obtain⟨_,ef,fa0,lsf⟩:=n2.ls
  cases ef
  obtain⟨vs,hvs,lvs⟩:=lsf.len
  ac_rfl
  refine⟨fa,rfl,⟨_,SqL.of hvs⟩,?_⟩
  refine zaK (zaO (SqL.of hvs)) (((zbL i).map λr=>r++[0]).map nums) (by simp[lvs]) (zan (by omega)) (λj x' d H4 R hj hd s4 hx' hR=>?_) (λv H3 s3 n3=>?_)
  ·obtain⟨wa,r,rfl,hr',hwa⟩:=lsf.item hvs hx'
   rw[zgm,zgm,hr'] at hd;cases hd
   have lr2:=(zb6 _ _ (zmg hr')).1
   ac_rfl
   refine⟨(by walk_at "sm"),λp hp=>?_⟩
   have t1:=zaf hp (.lst [.int 0])
   ac_rfl
   refine zbz (t1 _ _ (s4 _ _ hwa)) zad (zan (by simp;omega)) λp' hp'=>?_
   exact hR _ _ (t1.trans (zaf hp' _)) (New.iif.mpr ⟨p',rfl,t1.free hp',by rw[zad,List.map_append];rfl⟩)
  ac_rfl
  refine⟨fa,rfl,⟨_,SqL.of (s3 _ _ hvs)⟩,?_⟩
  refine zaK (zaO (SqL.of (s3 _ _ hvs))) (((zbL i).map λr=>r++[1]).map nums) (by simp[lvs]) (zan (by omega)) (λj x' d H4 R hj hd s4 hx' hR=>?_) (λv' H4 s4 n4=>?_)
  ·obtain⟨wa,r,rfl,hr',hwa⟩:=lsf.item hvs hx'
   rw[zgm,zgm,hr'] at hd;cases hd
   have lr2:=(zb6 _ _ (zmg hr')).1
   ac_rfl
   refine⟨(by walk_at "sm"),λp hp=>?_⟩
   have t1:=zaf hp (.lst [.int 1])
   ac_rfl
   refine zbz (t1 _ _ (s4 _ _ (s3 _ _ hwa))) zad (zan (by simp;omega)) λp' hp'=>?_
   exact hR _ _ (t1.trans (zaf hp' _)) (New.iif.mpr ⟨p',rfl,t1.free hp',by rw[zad,List.map_append];rfl⟩)
  obtain⟨a1,vs1,f1,rfl,z1,y1,r1,_⟩:=New.lso n3
  obtain⟨a2,vs2,f2,rfl,z2,y2,r2,_⟩:=New.lso n4
  have l1:=r1.length
  have l2:=r2.length
  simp only[zlm] at l1 l2
  ac_rfl
  refine zbz (s4 _ _ y1) y2 (zan (by omega)) λp hp=>?_
  ac_rfl
  refine⟨_,p,by omega,rfl,(s2.trans (s3.trans s4)).trans (zaf hp _),?_⟩
  have:=New.cat (n3.back s2) (s2.trans s3) s4 n4 (s4 _ _ y1) y2 hp
  rw[←List.map_append] at this
  exact this
 ·rintro σ H2 ⟨x,fa,him,rfl,s2,n2⟩
  ac_rfl
  exact q _ _ s2 n2
inductive Q3d (K:Fg) (vs:List V) (H:Hp) (Q:VK) (E:XK):Prop
 | mk (d ga ha:Addr) (goal:List Int) (hyps:List (List Int)) (xs:List V):vs=[.ref d]→SqT K H d [.ref ga,.ref ha]→H ga=some (.lst (goal.map V.int))→H ha=some (.lst xs)→Reps K H (hyps.map nums) xs→goal.length=9→(∀ l∈hyps,l.length=9)→hyps.length≤8→(∀ v H',Same H H'→New H H' (rowD (za3 goal hyps)) v→Q v H')→Q3d K vs H Q E
theorem zp7 {n:Nat}{r:List Int}(h:r∈zbL n):∀ w∈r,CB w:=λw hw=>by
 have:=(zb6 _ _ h).2 w hw
 unfold CB
 rcases this with z | z <;> exact⟨by omega,by omega⟩
include B Z in
theorem znn (Q3e:Fn P w K mg b8 "noughts_and_ones" ["count"] 1 (zdk K)) (Q3c:Fn P w K mg b8 "shows" ["duty","row"] 2 (ziw K)) (F:Fun K "sought" "sought" zf2 f fd) (m:mg "sought"=some (.ref f)):Fn P w K mg b8 "sought" ["duty"] 3 (Q3d K):=by
 refine Fn.of (k:=2) F zfq m (λ_ _ _ _ _ _ us hl=>match us,hl with | [_],_=>rfl) (λvs H Q E h=>?_) (λcdv A outer s H vs Q E hr h=>?_)
 ·first
  | (obtain⟨_,_,_,_,_,_,rfl,_⟩:=h;rfl)
 obtain⟨d,ga,ha,goal,hyps,xs,rfl,hd,hga,hha,hx,l9,h9,hl,q⟩:=h
 obtain⟨gw,g_WHOLES,hT⟩:=B.t_WHOLES
 have lx:=hx.length
 rw[zlm] at lx
 refine⟨_,(zag (zay (i:=1) zfq.nd rfl (Or.inl rfl) (zap Q3e hr rfl (zaC (zaz (zcD K) rfl B.len L2.boot_len (zaR (zaH (k_ix K) (pv 0) zaa (λ_ _=>rfl)) zac)) zac)))
   (zag (zds PassesOwn.never rfl (zi2 K (zdF rfl g_WHOLES)) (zas (i:=2) zfq.nd rfl (Or.inl rfl)) (zaj (zds PassesOwn.never rfl (zaX K (pv 1)) (zas (i:=3) zfq.nd rfl (Or.inl rfl)) (zaj (za0 (zcQ (zap Q3c hr rfl (zab (pv 0) (zeK (zbn (zab (pv 2) (zab (pv 3) zac))) zac)))) (zaj (zao (zbn (zab (pv 2) (zab (pv 3) zac))))) zax)))))
   (zaj (zao zeI)))),?_⟩
 ac_rfl
 refine za8 hd (v:=.ref ha) (zaN (j:=1) rfl) ?_
 ac_rfl
 refine zcZ (.inl (SqL.of hha)) ?_
 ac_rfl
 refine⟨xs.length,rfl,by omega,λv H1 s1 n1=>?_⟩
 rw[←lx] at n1
 obtain⟨ra,rfl,ra0,lsr⟩:=n1.ls
 obtain⟨vs,hvs,lvs⟩:=lsr.len
 have lr:=znm (n:=hyps.length) hl
 ac_rfl
 refine⟨gw,rfl,⟨_,hT _⟩,?_⟩
 refine zh4 (n:=4) (zfa (xs:=([1,2,3,4]:List Int).map V.int) (hT H1)) (λi σ H2=>∃ x y,A3 (σ=[some (.ref d),some (.ref ra),x,y]) (Same H1 H2) ((([1,2,3,4]:List Int).take i).findSome? (zfe goal hyps)=none))
  ⟨none,none,rfl,Same.refl _,rfl⟩ (λi σ H2 ⟨_,_,_,e,_⟩=>e) ?_ ?_
 ·rintro i v σ H2 H3 hi ⟨x,y,rfl,s2,f2⟩ s3 hv
  rw[zgm] at hv
  obtain⟨w,hw,rfl⟩:=zme.mp hv
  have w4:1≤w∧w≤4:=by
   have:=zmg hw
   simp at this
   omega
  have s13:=s2.trans s3
  ac_rfl
  refine⟨ra,rfl,⟨_,SqL.of (s13 _ _ hvs)⟩,?_⟩
  refine zh4 (zaO (SqL.of (s13 _ _ hvs))) (λj σ H4=>∃ y,A3 (σ=[some (.ref d),some (.ref ra),some (.int w),y]) (Same H3 H4) (((zbL hyps.length).take j).findSome? (zgJ goal hyps w)=none))
   ⟨y,rfl,Same.refl _,rfl⟩ (λi σ H2 ⟨_,_,e,_⟩=>e) ?_ ?_
  ·rintro j v σ H4 H5 hj ⟨y',rfl,s4,f4⟩ s5 hv
   obtain⟨wa,r,rfl,hr',hwa⟩:=lsr.item hvs hv
   have hm:=zmg hr'
   have lr2:=(zb6 _ _ hm).1
   have s15:=s13.trans (s4.trans s5)
   have s05:=s1.trans s15
   ac_rfl
   refine⟨(by walk_at "sm"),λT hTT=>?_⟩
   have t1:=zaf hTT (.tup [.int w,.ref wa])
   have s06:=s05.trans t1
   ac_rfl
   refine .inr ⟨d,T,ga,ha,wa,goal,hyps,xs,w,r,rfl,s06.tup hd,s06 _ _ hga,s06 _ _ hha,Reps.same s06 _ hx,SqT.of zad,SqL.of (t1 _ _ (s15 _ _ hwa)),l9,h9,by omega,by omega,by unfold CB;exact⟨by omega,by omega⟩,zp7 hm,λH7 s7=>?_⟩
   have s17:=s15.trans (t1.trans s7)
   cases hb:zeL goal hyps w r with
   | true=>
    ac_rfl
    refine⟨(by walk_at "sm"),λT2 hT2=>?_⟩
    have e1:zgJ goal hyps w r=some (w,r):=by unfold zgJ;rw[if_pos hb]
    have e2:zfe goal hyps w=some (w,r):=zib f4 hr' e1
    have e3:za3 goal hyps=some (w,r):=zib f2 hw e2
    have n7:New H H7 (nums r) (.ref wa):=(New.item (d:=nums r) n1 hvs (by rw[zgm,hr'];rfl) hv).same s17
    refine q _ _ ((s1.trans s17).trans (zaf hT2 _)) ?_
    rw[e3]
    exact n7.pairT hT2
   | false=>
    ac_rfl
    refine⟨_,rfl,s4.trans (s5.trans (t1.trans s7)),zgK f4 hr' ?_⟩
    unfold zgJ
    rw[if_neg (by rw[hb];decide)]
  ·rintro σ H4 ⟨y',rfl,s4,f4⟩
   refine⟨_,_,rfl,s13.trans s4,zgK f2 hw ?_⟩
   exact zkX f4 (by omega)
 ·rintro σ H2 ⟨x,y,rfl,s2,f2⟩
  ac_rfl
  refine q _ _ (s1.trans s2) ?_
  have e3:za3 goal hyps=none:=zkX f2 (by decide)
  rw[e3]
  exact New.non
inductive Q3f (K:Fg) (C:Nat→Addr) (vs:List V) (H:Hp) (Q:VK) (E:XK):Prop
 | mk (ha dx:Addr):vs=[.ref ha]→H ha=some (.ins (C 6) dx [])→(∀ la va H',H la=none→H va=none→la≠va→OffA [ha] H H'→H' ha=some (.ins (C 6) dx (hfl la va))→H' la=some (.dK [])→H' va=some (.dK [])→Q .non H')→Q3f K C vs H Q E
include B Z in
theorem zp8 (F:Fun K "__init__" "Hall.__init__" zcn f fd) (M:Mk K (C 6) f):Mkr P w K mg b8 "Hall" (C 6) ["self"] 1 (Q3f K C):=by
 refine⟨f,fd,M,F.ok (k:=0) zfX (λvs H Q E h=>?_) (λcdv A outer s H vs Q E hr h=>?_),F.binds λ_ _ _ _ _ _ us hl=>match us,hl with | [_],_=>rfl,Z.m_Hall⟩
 ·first
  | (obtain⟨_,_,rfl,_⟩:=h;rfl)
 obtain⟨ha,dx,rfl,hh,q⟩:=h
 refine⟨_,(zag (zhA (pv 0) zh0 rfl)
   (zaj (zhA (pv 0) zh0 rfl))),?_⟩
 walk_at "q"
 nofun
 intro la la0
 have e1:(upd H la (.dK [])) ha=some (.ins (C 6) dx []):=by rw[zaq (zaM hh la0)];exact hh
 nofun
 refine⟨ha,(C 6),dx,[],rfl,e1,Z.c_Hall,Z.n_Hall_laid,by show 0<1000;decide,?_⟩
 nofun
 intro va va0
 have nha:va≠ha:=λz=>by rw[z,zad] at va0;cases va0
 have nla:va≠la:=λz=>by rw[z,zaq (zaM hh la0).symm,zad] at va0;cases va0
 have v0:H va=none:=by rw[zaq nha,zaq nla] at va0;exact va0
 nofun
 refine⟨ha,(C 6),dx,_,rfl,by rw[zaq nha.symm,zad],Z.c_Hall,Z.n_Hall_vouched,Nat.lt_of_lt_of_le (zd5 (n:=1) (by decide)) (by decide),?_⟩
 have nl:la≠ha:=(zaM hh la0).symm
 refine q la va _ la0 v0 nla.symm (λb o n e=>?_) zad ?_ ?_
 ·have n1:b≠ha:=λz=>n (by simp[z])
  rw[zaq n1,zaq (zaM e v0),zaq n1,zaq (zaM e la0)]
  exact e
 ·rw[zaq nl,zaq nla.symm,zaq nl,zad]
 ·rw[zaq nha,zad]
inductive Q4f (K:Fg) (C:Nat→Addr) (vs:List V) (H:Hp) (Q:VK) (E:XK):Prop
 | mk (ha la va:Addr) (n:Int) (ks:List Int) (cr:Int→Cr) (ws:List Int) (fp:List Addr):vs=[.ref ha,.int n]→HAt (C 6) (C 0) H ha la va ks cr ws fp→(∀ H' ws',OffA [va] H H'→HAt (C 6) (C 0) H' ha la va ks cr ws' fp→(∀ m,m∈ws'↔m∈ws∧m≠n)→Q .non H')→Q4f K C vs H Q E
include B Z in
theorem zha (F:Fun K "release" "Hall.release" zcJ f fd) (M:Meth K (C 6) "release" f):Mth CX0 P w K mg b8 (C 6) "release" ["self","number"] 1 (Q4f K C):=by
 refine⟨f,fd,M,F.ok (k:=0) zg2 (λvs H Q E h=>?_) (λcdv A outer s H vs Q E hr h=>?_),F.binds λ_ _ _ _ _ _ us hl=>match us,hl with | [_,_],_=>rfl⟩
 ·first
  | (obtain⟨_,_,_,_,_,_,_,_,rfl,_⟩:=h;rfl)
 obtain⟨ha,la,va,n,ks,cr,ws,fp,rfl,hA,q⟩:=h
 refine⟨_,(zaj (zbc (znQ (zbD K (pv 0) rfl) (pv 1) zeI ⟨rfl,rfl,rfl,rfl⟩))),?_⟩
 obtain⟨dx,hh⟩:=hA.ins
 obtain⟨kvs,hva,hk⟩:=hA.vou
 nofun
 refine⟨ha,(C 6),dx,_,_,rfl,hh,Z.c_Hall,Z.n_Hall_vouched,zdR _ _,?_⟩
 refine⟨va,rfl,.inl ⟨_,.inl hva⟩,?_⟩
 nofun
 refine⟨kvs,.inl n,hva,rfl,λv hv=>?_,λhv=>?_⟩
 ·nofun
  refine q _ _ (zcb (by simp)) (hA.putV hk.drop λm hm=>hA.sub m (List.mem_filter.mp hm).1) λm=>?_
  rw[List.mem_filter,decide_eq_true_eq]
 ·nofun
  refine q _ ws (Same.refl _).offA hA λm=>⟨λhm=>⟨hm,λz=>?_⟩,λhm=>hm.1⟩
  subst z
  obtain⟨v,e,_⟩:=hk.2.2 m hm
  rw[e] at hv;cases hv
inductive Q4d (K:Fg) (C:Nat→Addr) (vs:List V) (H:Hp) (Q:VK) (E:XK):Prop
 | mk (ha la va:Addr) (n:Int) (ks:List Int) (cr:Int→Cr) (ws:List Int) (fp:List Addr):vs=[.ref ha,.int n]→HAt (C 6) (C 0) H ha la va ks cr ws fp→(∀ v H',Same H H'→New H H' (nums (zcg ks cr n)) v→Q v H')→Q4d K C vs H Q E
include B Z in
theorem zfJ (Qe:Fn P w K mg b8 "called_by" ["craft"] 1 (Qd K C)) (F:Fun K "called_at" "Hall.called_at" zca f fd) (M:Meth K (C 6) "called_at" f):Mth CX0 P w K mg b8 (C 6) "called_at" ["self","number"] 2 (Q4d K C):=by
 refine⟨f,fd,M,F.ok (k:=1) zfF (λvs H Q E h=>?_) (λcdv A outer s H vs Q E hr h=>?_),F.binds λ_ _ _ _ _ _ us hl=>match us,hl with | [_,_],_=>rfl⟩
 ·first
  | (obtain⟨_,_,_,_,_,_,_,_,rfl,_⟩:=h;rfl)
 obtain⟨ha,la,va,n,ks,cr,ws,fp,rfl,hA,q⟩:=h
 refine⟨_,(zag (za0 (ziB (zmn (hr_u hr) (pv 1) (zbD K (pv 0) rfl))) (zaj (zao (zap Qe hr rfl (zaR (zei (hr_u hr) (zbD K (pv 0) rfl) (pv 1) (λ_ _=>rfl)) zac)))) zax)
   (zaj (zao (zaE zac)))),?_⟩
 obtain⟨dx,hh⟩:=hA.ins
 obtain⟨kvs,hla,hk⟩:=hA.laid
 unfold zcg at q
 walk_at "q"
 nofun
 refine⟨ha,(C 6),dx,_,_,rfl,hh,Z.c_Hall,Z.n_Hall_laid,zd1 _ _,?_⟩
 refine⟨la,_,rfl,DGet.k (k:=.inl n) hla,?_⟩
 by_cases hm:n∈ks
 ·obtain⟨v,hv,p,f,rfl,hC,hf⟩:=hk.2.2 n hm
  rw[if_pos hm] at q
  have rt:=hA.rt n hm
  obtain⟨_,dx',w1,w2,b3,w4,dvs,hp,hb3,hD⟩:=hC.t (K:=K) rt.nine.d9
  rw[hv]
  nofun
  refine zcT (λ_=>?_) (λz=>by cases z)
  nofun
  refine⟨ha,(C 6),dx,_,_,rfl,hh,Z.c_Hall,Z.n_Hall_laid,zd1 _ _,?_⟩
  nofun
  refine⟨la,.ref p,rfl,by rw[←hv];exact DGet.k (k:=.inl n) hla,?_⟩
  nofun
  exact⟨p,dx',b3,w1,w2,w4,dvs,(cr n).deeds,rfl,hp,hb3,hD,by have:=rt.nine.d;omega,q⟩
 ·rw[if_neg hm] at q
  rw[hk.no hm]
  nofun
  refine zcT (λz=>by cases z) (λ_=>?_)
  nofun
  refine⟨(by walk_at "sm"),λp hp=>?_⟩
  exact q _ _ (zaf hp _) (New.iif.mpr ⟨p,rfl,hp,zad⟩)
inductive Q51 (K:Fg) (C:Nat→Addr) (vs:List V) (H:Hp) (Q:VK) (E:XK):Prop
 | mk (ha la va:Addr) (n:Int) (ks:List Int) (cr:Int→Cr) (ws:List Int) (fp:List Addr):vs=[.ref ha,.int n]→HAt (C 6) (C 0) H ha la va ks cr ws fp→(∀ H' ws',OffA [va] H H'→HAt (C 6) (C 0) H' ha la va ks cr ws' fp→(∀ m,m∈ws'↔m∈ws∧n∉zcg ks cr m)→Q .non H')→Q51 K C vs H Q E
include B Z in
theorem zd8 (Q4e:Mth CX0 P w K mg b8 (C 6) "called_at" ["self","number"] 2 (Q4d K C)) (Q50:Mth CX0 P w K mg b8 (C 6) "release" ["self","number"] 1 (Q4f K C)) (F:Fun K "release_callers" "Hall.release_callers" zbm f fd) (M:Meth K (C 6) "release_callers" f):Mth CX0 P w K mg b8 (C 6) "release_callers" ["self","number"] 3 (Q51 K C):=by
 refine⟨f,fd,M,F.ok (k:=2) zcx (λvs H Q E h=>?_) (λcdv A outer s H vs Q E hr h=>?_),F.binds λ_ _ _ _ _ _ us hl=>match us,hl with | [_,_],_=>rfl⟩
 ·first
  | (obtain⟨_,_,_,_,_,_,_,_,rfl,_⟩:=h;rfl)
 obtain⟨ha,la,va,n,ks,cr,ws,fp,rfl,hA,q⟩:=h
 refine⟨_,(zaj (zds PassesOwn.never rfl (zaX K (zcR (zlt rfl) rfl B.list L2.zcS (zbP (zbD K (pv 0) rfl) zac))) (zas (i:=2) zcx.nd rfl (Or.inl rfl)) (zaj (za0 (zau (k_in K) (pv 1) (zcr Q4e Z.c_Hall hr zfV (pv 0) (zab (pv 2) zac)) rfl) (zaj (zbc (zcr Q50 Z.c_Hall hr zfV (pv 0) (zab (pv 2) zac)))) zax)))),?_⟩
 obtain⟨dx,hh⟩:=hA.ins
 obtain⟨kvs,hva,hk⟩:=hA.vou
 have nd:=hk.2.1
 nofun
 refine⟨ha,(C 6),dx,_,_,rfl,hh,Z.c_Hall,Z.n_Hall_vouched,zdR _ _,?_⟩
 nofun
 refine zpN hva hk.1 λl hl=>?_
 have s0:=zaf hl (.lst (ws.map V.int))
 have nlv:l≠va:=(zaM hva hl).symm
 refine⟨l,rfl,⟨_,SqL.of zad⟩,?_⟩
 refine zgB (xs:=ws.map V.int) (λi σ H'=>∃ x ws',A4 (σ=[some (.ref ha),some (.int n),x]) (OffA [va] (upd H l (.lst (ws.map V.int))) H') (HAt (C 6) (C 0) H' ha la va ks cr ws' fp) (∀ m,m∈ws'↔m∈ws∧(m∈ws.take i→n∉zcg ks cr m)))
  ⟨none,ws,rfl,(Same.refl _).offA,hA.same s0,λm=>by simp⟩ (λi σ H' _ ⟨_,_,_,e,_,_⟩=>SqL.of (e _ _ (by simp[nlv]) zad)) ?_ ?_
 ·rintro i v σ H2 hv ⟨x,ws',rfl,o2,hA2,hm2⟩
  rw[zgm] at hv
  obtain⟨m0,hm0,rfl⟩:=zme.mp hv
  obtain⟨dx2,hh2⟩:=hA2.ins
  nofun
  refine⟨ha,dx2,_,rfl,hh2,zd2 (by decide +kernel) (by decide +kernel),?_⟩
  nofun
  refine⟨ha,la,va,m0,ks,cr,ws',fp,rfl,hA2,λv H3 s3 n3=>?_⟩
  obtain⟨ca,rfl,ca0,ca1⟩:=New.iif.mp n3
  refine zry (SqL.of ca1) ?_
  have tk:∀ m,m∈ws.take (i+1)↔m∈ws.take i∨m=m0:=λm=>by
   rw[List.take_add_one,hm0];simp
  by_cases hc:n∈zcg ks cr m0
  ·rw[decide_eq_true hc]
   nofun
   refine⟨ha,dx2,_,rfl,s3 _ _ hh2,zd2 (by decide +kernel) (by decide +kernel),?_⟩
   nofun
   refine⟨ha,la,va,m0,ks,cr,ws',fp,rfl,hA2.same s3,λH4 ws4 o4 hA4 hm4=>?_⟩
   nofun
   refine⟨_,ws4,rfl,o2.trans (s3.offA.trans o4),hA4,λm=>?_⟩
   rw[hm4,hm2,tk]
   constructor
   ·rintro⟨⟨h1,h2⟩,h3⟩
    exact⟨h1,λz=>by rcases z with z | z;exact h2 z;exact absurd z h3⟩
   ·rintro⟨h1,h2⟩
    exact⟨⟨h1,λz=>h2 (.inl z)⟩,λz=>h2 (.inr z) (by rw[z];exact hc)⟩
  ·rw[decide_eq_false hc]
   nofun
   refine⟨_,ws',rfl,o2.trans s3.offA,hA2.same s3,λm=>?_⟩
   rw[hm2,tk]
   constructor
   ·rintro⟨h1,h2⟩
    exact⟨h1,λz=>by rcases z with z | z;exact h2 z;rw[z];exact hc⟩
   ·rintro⟨h1,h2⟩
    exact⟨h1,λz=>h2 (.inl z)⟩
 ·rintro σ H2 ⟨x,ws',rfl,o2,hA2,hm2⟩
  nofun
  refine q _ ws' (s0.offA.trans o2) hA2 λm=>?_
  rw[hm2,zlm,List.take_of_length_le (Nat.le_refl _)]
  exact⟨λh=>⟨h.1,h.2 h.1⟩,λh=>⟨h.1,λ_=>h.2⟩⟩
inductive Q53 (K:Fg) (C:Nat→Addr) (vs:List V) (H:Hp) (Q:VK) (E:XK):Prop
 | mk (p q:Addr) (n1 l1 n2 l2:List (List Int)) (d1 d2:List D) (o1 o2:List (List (List Int))):vs=[.ref p,.ref q]→zbF K (C 0) H p n1 l1 d1 o1→zbF K (C 0) H q n2 l2 d2 o2→Q (.bl (decide (n1=n2) && decide (l1=l2))) H→Q53 K C vs H Q E
include B Z in
theorem zjJ (F:Fun K "same_oath" "same_oath" zdX f fd) (m:mg "same_oath"=some (.ref f)):Fn P w K mg b8 "same_oath" ["craft","other"] 1 (Q53 K C):=by
 refine Fn.of (k:=0) F zjC m (λ_ _ _ _ _ _ us hl=>match us,hl with | [_,_],_=>rfl) (λvs H Q E h=>?_) (λcdv A outer s H vs Q E hr h=>?_)
 ·first
  | (obtain⟨_,_,_,_,_,_,_,_,_,_,rfl,_⟩:=h;rfl)
 obtain⟨p,q,n1,l1,n2,l2,d1,d2,o1,o2,rfl,hP,hQ,k⟩:=h
 refine⟨_,(zaj (zao (zbR (zbh (k_eq K hr) (zbD K (pv 0) rfl) (zbD K (pv 1) rfl) (zav _)) (zci (zbh (k_eq K hr) (zbD K (pv 0) rfl) (zbD K (pv 1) rfl) (zav _)))))),?_⟩
 obtain⟨dx,w1,w2,w3,w4,hp,r1,r2,_,_⟩:=hP
 obtain⟨dy,u1,u2,u3,u4,hq,t1,t2,_,_⟩:=hQ
 obtain⟨a1,rfl⟩:∃ b,w1=.ref b:=by unfold zaF Rep at r1;obtain⟨a,_,e,_⟩:=r1;exact⟨a,e⟩
 obtain⟨a2,rfl⟩:∃ b,w2=.ref b:=by unfold zaF Rep at r2;obtain⟨a,_,e,_⟩:=r2;exact⟨a,e⟩
 obtain⟨b1,rfl⟩:∃ b,u1=.ref b:=by unfold zaF Rep at t1;obtain⟨a,_,e,_⟩:=t1;exact⟨a,e⟩
 obtain⟨b2,rfl⟩:∃ b,u2=.ref b:=by unfold zaF Rep at t2;obtain⟨a,_,e,_⟩:=t2;exact⟨a,e⟩
 nofun
 refine⟨p,(C 0),dx,_,_,rfl,hp,Z.c_Craft,Z.n_Craft_needs,zdz _ _ _ _,?_⟩
 nofun
 refine⟨q,(C 0),dy,_,_,rfl,hq,Z.c_Craft,Z.n_Craft_needs,zdz _ _ _ _,?_⟩
 refine zpz r1 t1 (Nat.le_trans (zfc _) (by decide)) ?_
 rw[zeF]
 refine zdL (λe=>?_) (λe=>by rw[e,Bool.false_and] at k;exact k)
 rw[e,Bool.true_and] at k
 nofun
 refine⟨p,(C 0),dx,_,_,rfl,hp,Z.c_Craft,Z.n_Craft_leaves,zcV _ _ _ _,?_⟩
 nofun
 refine⟨q,(C 0),dy,_,_,rfl,hq,Z.c_Craft,Z.n_Craft_leaves,zcV _ _ _ _,?_⟩
 refine zpz r2 t2 (Nat.le_trans (zfc _) (by decide)) ?_
 rw[zeF]
 exact k
inductive Q40 (K:Fg) (C:Nat→Addr) (vs:List V) (H:Hp) (Q:VK) (E:XK):Prop
 | mk (ha la va p:Addr) (n:Int) (ks:List Int) (cr:Int→Cr) (ws:List Int) (fp:List Addr) (c:Cr):vs=[.ref ha,.int n,.ref p]→HAt (C 6) (C 0) H ha la va ks cr ws fp→zes K (C 0) H p c.needs c.leaves c.deeds c.notes→c.Nine→n.natAbs<zbE→(n∈ks∨ks.length<60)→(c.right=false→∀ H',Same H H'→E (.ref (C 2)) none H')→(c.right=true→∀ H' ks' ws' fp',OffA [la,va] H H'→HAt (C 6) (C 0) H' ha la va ks' (setC cr n c) ws' fp'→(∀ m,m∈ks'↔m∈ks∨m=n)→(n∈ks→ks'=ks)→(n∉ks→ks'=ks++[n])→
  (∀ m,m∈ws'↔m∈ws∧m≠n∧(n∈ks→¬ ((cr n).needs=c.needs∧(cr n).leaves=c.leaves)→n∉zcg ks cr m))→(∀ b∈fp',b∈fp∨H b=none)→Q .non H')→Q40 K C vs H Q E
include B Z in
theorem zkv (Q50:Mth CX0 P w K mg b8 (C 6) "release" ["self","number"] 1 (Q4f K C)) (Qc:Fn P w K mg b8 "copied_craft" ["craft"] 4 (Qb K C)) (G_right:Fn P w K mg b8 "right" ["craft"] 7 (Qf K C)) (Q52:Mth CX0 P w K mg b8 (C 6) "release_callers" ["self","number"] 3 (Q51 K C)) (Q54:Fn P w K mg b8 "same_oath" ["craft","other"] 1 (Q53 K C)) (F:Fun K "lay" "Hall.lay" zez f fd) (M:Meth K (C 6) "lay" f):Mth (CX1 P w) P w K mg b8 (C 6) "lay" ["self","number","craft"] 8 (Q40 K C):=by
 refine⟨f,fd,M,F.okx (k:=7) zkq (λvs H Q E h=>?_) (λcdv A outer s H vs Q E hr h=>?_),F.binds λ_ _ _ _ _ _ us hl=>match us,hl with | [_,_,_],_=>rfl⟩
 ·first
  | (obtain⟨_,_,_,_,_,_,_,_,_,_,rfl,_⟩:=h;rfl)
 obtain⟨ha,la,va,p,n,ks,cr,ws,fp,c,rfl,hA,hT,nine,hn,hfew,qE,qQ⟩:=h
 refine⟨_,(zag (za0 (ze5 (zcQ (zap G_right hr rfl (zab (pv 2) zac)))) (zaj (zgc Z.e_BadSheet rfl Z.m_BadSheet rfl zh6 (zbv (zrp (pv 1) (by decide +kernel) (by decide +kernel)) zac))) zax)
   (zag (za0 (PW.pt (ziD (ziB (zmn (hr_u hr) (pv 1) (zbD K (pv 0) rfl))) (zgn (ze5 (zcQ (zap Q54 hr rfl (zaR (zei (hr_u hr) (zbD K (pv 0) rfl) (pv 1) (λ_ _=>rfl)) (zab (pv 2) zac)))))))) (zaj (zbc (zcr Q52 Z.c_Hall hr zfV (pv 0) (zab (pv 1) zac)))) zax)
   (zag (zbc (zcr Q50 Z.c_Hall hr zfV (pv 0) (zab (pv 1) zac)))
   (zaj (zdE (hr_u hr) (zbD K (pv 0) rfl) (pv 1) (zap Qc hr rfl (zab (pv 2) zac)) rfl))))),?_⟩
 have g1:=nine.n
 have g2:=nine.l
 have g3:=nine.d
 have g4:=nine.o
 walk_at "q"
 nofun
 refine⟨p,c.needs,c.leaves,c.deeds,c.notes,rfl,hT.1,by omega,by omega,by omega,by omega,nine.n9,nine.l9,nine.d9,λls hl=>⟨by have:=(nine.o9 ls hl).1;omega,(nine.o9 ls hl).2⟩,λH1 s1=>?_⟩
 cases hr':zc4 c.needs c.leaves c.deeds c.notes with
 | false=>
  nofun
  refine⟨hn,λz=>?_⟩
  nofun
  exact⟨(by walk_at "sm"),qE hr' _ s1⟩
 | true=>
 have qQ:=qQ hr'
 clear qE
 have rtc:c.Rt:=⟨nine,hr'⟩
 nofun
 have hA1:=hA.same s1
 have hT1:=zes.same s1 hT
 have oA:∀ {Hx:Hp},OffA [va] H1 Hx→zes K (C 0) Hx p c.needs c.leaves c.deeds c.notes:=λ{Hx} o=>by
  obtain⟨kv,hv,_⟩:=hA1.vou
  have nd:=o.nod λa ha=>by rw[zms.mp ha];exact⟨_,hv⟩
  obtain⟨k0,dx,w1,w2,b3,w4,dvs,k1,k2,k3⟩:=hT1
  exact⟨k0.nod nd,dx,w1,w2,b3,w4,dvs,nd _ _ k1 (λ_ z=>by cases z),nd _ _ k2 (λ_ z=>by cases z),R2.mono k3 λ_ _ z=>z.sq nd.sq⟩
 -- who called it by another oath is let go
 with_reducible refine zdM (λσ H'=>σ=[some (.ref ha),some (.int n),some (.ref p)]∧∃ ws',OffA [va] H1 H'∧HAt (C 6) (C 0) H' ha la va ks cr ws' fp∧∀ m,m∈ws'↔m∈ws∧(n∈ks→¬ ((cr n).needs=c.needs∧(cr n).leaves=c.leaves)→n∉zcg ks cr m)) (λNX tail=>?_) ?_
 ·obtain⟨dx,hh⟩:=hA1.ins
  obtain⟨kvs,hla,hk⟩:=hA1.laid
  nofun
  refine⟨ha,(C 6),dx,_,_,rfl,hh,Z.c_Hall,Z.n_Hall_laid,zd1 _ _,?_⟩
  refine⟨la,_,rfl,DGet.k (k:=.inl n) hla,?_⟩
  by_cases hm:n∈ks
  ·obtain⟨v,hv,q,f,rfl,hC,hf⟩:=hk.2.2 n hm
   rw[hv]
   nofun
   refine zcT (λ_=>?_) (λz=>by cases z)
   nofun
   refine⟨ha,(C 6),dx,_,_,rfl,hh,Z.c_Hall,Z.n_Hall_laid,zd1 _ _,?_⟩
   nofun
   refine⟨la,.ref q,rfl,by rw[←hv];exact DGet.k (k:=.inl n) hla,?_⟩
   nofun
   refine⟨q,p,(cr n).needs,(cr n).leaves,c.needs,c.leaves,_,_,_,_,rfl,hC.at,hT1.1,?_⟩
   cases hs:(decide ((cr n).needs=c.needs) && decide ((cr n).leaves=c.leaves)) with
   | true=>
    nofun
    rw[Bool.and_eq_true,decide_eq_true_eq,decide_eq_true_eq] at hs
    exact tail _ _ ⟨rfl,ws,(Same.refl _).offA,hA1,λm=>⟨λz=>⟨z,λ_ w=>absurd hs w⟩,λz=>z.1⟩⟩
   | false=>
    have hs':¬ ((cr n).needs=c.needs∧(cr n).leaves=c.leaves):=λz=>by
     rw[decide_eq_true z.1,decide_eq_true z.2] at hs;cases hs
    nofun
    refine⟨ha,dx,_,rfl,hh,zd2 (by decide +kernel) (by decide +kernel),?_⟩
    nofun
    refine⟨ha,la,va,n,ks,cr,ws,fp,rfl,hA1,λH2 ws2 o2 hA2 hm2=>?_⟩
    nofun
    refine tail _ _ ⟨rfl,ws2,o2,hA2,λm=>?_⟩
    rw[hm2]
    exact⟨λz=>⟨z.1,λ_ _=>z.2⟩,λz=>⟨z.1,z.2 hm hs'⟩⟩
  ·rw[hk.no hm]
   nofun
   refine zcT (λz=>by cases z) (λ_=>?_)
   nofun
   exact tail _ _ ⟨rfl,ws,(Same.refl _).offA,hA1,λm=>⟨λz=>⟨z,λw=>absurd w hm⟩,λz=>z.1⟩⟩
 rintro σ H2 ⟨rfl,ws2,o2,hA2,hm2⟩
 obtain⟨dx2,hh2⟩:=hA2.ins
 walk_at "q"
 nofun
 refine⟨ha,dx2,_,rfl,hh2,zd2 (by decide +kernel) (by decide +kernel),?_⟩
 nofun
 refine⟨ha,la,va,n,ks,cr,ws2,fp,rfl,hA2,λH3 ws3 o3 hA3 hm3=>?_⟩
 have o13:=o2.trans o3
 nofun
 refine⟨p,c,rfl,oA o13,nine,λq f H4 s4 hC hf fn=>?_⟩
 have hA4:=hA3.same s4
 obtain⟨dx4,hh4⟩:=hA4.ins
 obtain⟨kvs,hla,hk⟩:=hA4.laid
 nofun
 refine⟨ha,(C 6),dx4,_,_,rfl,hh4,Z.c_Hall,Z.n_Hall_laid,zd1 _ _,?_⟩
 nofun
 have hkl:=hk.len
 have h60:=hA.few
 refine⟨la,_,rfl,DPut.k (k:=.inl n) hla (zbs (by omega)),?_⟩
 have nd5:NoD H4 (upd H4 la (.dK (putK kvs (.inl n) (.ref q)))):=zc2 hla
 obtain⟨kv,hva,hkv⟩:=hA4.vou
 have put:=hk.put' (m:=n) (v:=.ref q) (P':=CrIn (C 0) (upd H4 la (.dK (putK kvs (.inl n) (.ref q)))) (setC cr n c) (f++fp)) ⟨q,f,rfl,by unfold setC;rw[if_pos rfl];exact hC.nod nd5,λb hb=>List.mem_append_left _ hb⟩ (λk v ne ⟨p',f',e1,e2,e3⟩=>⟨p',f',e1,by unfold setC;rw[if_neg ne];exact e2.nod nd5,λb hb=>List.mem_append_right _ (e3 b hb)⟩)
 have kss:∀ m,m∈(if n∈ks then ks else ks++[n])↔m∈ks∨m=n:=λm=>by
  by_cases z:n∈ks
  ·rw[if_pos z]
   exact⟨.inl,λw=>by rcases w with w | w;exact w;rw[w];exact z⟩
  ·rw[if_neg z];simp
 refine qQ _ (if n∈ks then ks else ks++[n]) ws3 (f++fp) ?_ ⟨?_,⟨_,zad,put⟩,⟨kv,by rw[zaq hA4.ne.symm];exact hva,hkv⟩,hA4.ne,λm hm=>?_,?_,λm hm=>?_,λb hb=>?_⟩ kss (λz=>by rw[if_pos z]) (λz=>by rw[if_neg z]) (λm=>?_) (λb hb=>?_)
 ·refine OffA.trans (s1.offA.trans ?_) (s4.offA.trans (zcb (by simp)))
  exact OffA.putDict o13 λb hb=>by rw[zms.mp hb];simp
 ·exact⟨dx4,nd5 _ _ hh4 (λ_ z=>by cases z)⟩
 ·unfold setC
  by_cases z:m=n
  ·rw[if_pos z];exact rtc
  ·rw[if_neg z]
   exact hA.rt m (by rcases (kss m).mp hm with w | w;exact w;exact absurd w z)
 ·by_cases z:n∈ks
  ·rw[if_pos z];exact hA.few
  ·rw[if_neg z,List.length_append,List.length_singleton]
   rcases hfew with w | w
   ·exact absurd w z
   ·omega
 ·exact (kss m).mpr (.inl (hA4.sub m hm))
 ·rcases zma.mp hb with z | z
  ·obtain⟨o,e,n⟩:=hC.hasN b z
   exact⟨o,nd5 b o e n,n⟩
  ·obtain⟨o,e,n⟩:=hA4.has b z
   exact⟨o,nd5 b o e n,n⟩
 ·rw[hm3,hm2]
  exact⟨λz=>⟨z.1.1,z.2,z.1.2⟩,λz=>⟨⟨z.1,z.2.2⟩,z.2.1⟩⟩
 ·rcases zma.mp hb with z | z
  ·right
   have e3:=hf b z
   cases eb:H b with
   | none=>rfl
   | some o=>
    exfalso
    by_cases nb:b=va
    ·obtain⟨kv3,hv3,_⟩:=hA3.vou
     rw[nb,hv3] at e3;cases e3
    ·have:=o13 b o (by simp[nb]) (s1 _ _ eb)
     rw[this] at e3;cases e3
  ·exact .inl z
inductive Q49 (K:Fg) (C:Nat→Addr) (vs:List V) (H:Hp) (Q:VK) (E:XK):Prop
 | mk (ha dx la va:Addr) (n:Int) (kvs:List (Key × V)):vs=[.ref ha,.int n]→H ha=some (.ins (C 6) dx (hfl la va))→H la=some (.dK kvs)→n.natAbs<zbE→(valV kvs (.inl n)=none→E (.ref (C 3)) none H)→((valV kvs (.inl n)).isSome=true→Q .non H)→Q49 K C vs H Q E
include B Z in
theorem zft (F:Fun K "must_stand" "Hall.must_stand" zbX f fd) (M:Meth K (C 6) "must_stand" f):Mth (CX1 P w) P w K mg b8 (C 6) "must_stand" ["self","number"] 1 (Q49 K C):=by
 refine⟨f,fd,M,F.okx (k:=0) zfr (λvs H Q E h=>?_) (λcdv A outer s H vs Q E hr h=>?_),F.binds λ_ _ _ _ _ _ us hl=>match us,hl with | [_,_],_=>rfl⟩
 ·first
  | (obtain⟨_,_,_,_,_,_,rfl,_⟩:=h;rfl)
 obtain⟨ha,dx,la,va,n,kvs,rfl,hh,hla,hn,qE,qQ⟩:=h
 refine⟨_,(zaj (za0 (ziB (zgs (hr_u hr) (pv 1) (zbD K (pv 0) rfl))) (zaj (zgc Z.e_NoCraft rfl Z.m_NoCraft rfl zh6 (zbv (zoX (pv 1) (by decide +kernel)) zac))) zax)),?_⟩
 nofun
 refine⟨ha,(C 6),dx,_,_,rfl,hh,Z.c_Hall,Z.n_Hall_laid,zd1 _ _,?_⟩
 refine⟨la,_,rfl,DGet.k (k:=.inl n) hla,?_⟩
 cases hv:valV kvs (.inl n) with
 | none=>
  nofun
  refine zcT (λ_=>?_) (λz=>by cases z)
  nofun
  refine⟨hn,λz=>?_⟩
  nofun
  exact⟨(by walk_at "sm"),qE hv⟩
 | some y=>
  nofun
  refine zcT (λz=>by cases z) (λ_=>?_)
  nofun
  exact qQ (by rw[hv];rfl)
inductive Q41 (K:Fg) (C:Nat→Addr) (vs:List V) (H:Hp) (Q:VK) (E:XK):Prop
 | mk (ha la va:Addr) (n:Int) (ks:List Int) (cr:Int→Cr) (ws:List Int) (fp:List Addr):vs=[.ref ha,.int n]→HAt (C 6) (C 0) H ha la va ks cr ws fp→n.natAbs<zbE→(n∉ks→E (.ref (C 3)) none H)→(n∈ks→∀ H' ws',OffA [la,va] H H'→HAt (C 6) (C 0) H' ha la va (ks.filter λk=>decide (k≠n)) cr ws' fp→(∀ m,m∈ws'↔m∈ws∧m≠n∧n∉zcg ks cr m)→Q .non H')→Q41 K C vs H Q E
theorem HAt.dropL {cH cC:Addr}{H:Hp}{h la va:Addr}{ks vs:List Int}{cr:Int→Cr}{fp:List Addr}{kvs:List (Key × V)}{n:Int}(A:HAt cH cC H h la va ks cr vs fp) (hl:H la=some (.dK kvs)) (s:∀ m∈vs,m≠n):HAt cH cC (upd H la (.dK (zdm kvs (.inl n)))) h la va (ks.filter λk=>decide (k≠n)) cr vs fp where
 ins:=by
  obtain⟨dx,z⟩:=A.ins
  exact⟨dx,by rw[zaq (znz z hl (by intro w;cases w))];exact z⟩
 laid:=by
  obtain⟨kl,z,q⟩:=A.laid
  rw[hl] at z
  cases z
  exact⟨_,zad,(q.mono λm v ⟨p,f,e1,e2,e3⟩=>(⟨p,f,e1,e2.nod (zc2 hl),e3⟩:CrIn cC (upd H la (.dK (zdm kvs (.inl n)))) cr fp m v)).drop⟩
 vou:=by
  obtain⟨kv,z,q⟩:=A.vou
  exact⟨kv,by rw[zaq A.ne.symm];exact z,q⟩
 ne:=A.ne
 rt:=λm hm=>A.rt m (List.mem_filter.mp hm).1
 few:=Nat.le_trans (List.length_filter_le _ _) A.few
 sub:=λm hm=>List.mem_filter.mpr ⟨A.sub m hm,decide_eq_true (s m hm)⟩
 has:=λb hb=>by
  obtain⟨o,z,n⟩:=A.has b hb
  exact⟨o,zc2 hl b o z n,n⟩
include B Z in
theorem zjK (Q4a:Mth (CX1 P w) P w K mg b8 (C 6) "must_stand" ["self","number"] 1 (Q49 K C)) (Q52:Mth CX0 P w K mg b8 (C 6) "release_callers" ["self","number"] 3 (Q51 K C)) (Q50:Mth CX0 P w K mg b8 (C 6) "release" ["self","number"] 1 (Q4f K C)) (F:Fun K "tear" "Hall.tear" zdV f fd) (M:Meth K (C 6) "tear" f):Mth (CX1 P w) P w K mg b8 (C 6) "tear" ["self","number"] 4 (Q41 K C):=by
 refine⟨f,fd,M,F.okx (k:=3) zjA (λvs H Q E h=>?_) (λcdv A outer s H vs Q E hr h=>?_),F.binds λ_ _ _ _ _ _ us hl=>match us,hl with | [_,_],_=>rfl⟩
 ·first
  | (obtain⟨_,_,_,_,_,_,_,_,rfl,_⟩:=h;rfl)
 obtain⟨ha,la,va,n,ks,cr,ws,fp,rfl,hA,hn,qE,qQ⟩:=h
 refine⟨_,(zag (zbc (zcr Q4a Z.c_Hall hr zcf (pv 0) (zab (pv 1) zac)))
   (zag (zbc (zcr Q52 Z.c_Hall hr zfV (pv 0) (zab (pv 1) zac)))
   (zag (zbc (zcr Q50 Z.c_Hall hr zfV (pv 0) (zab (pv 1) zac)))
   (zaj (zbc (znP (zbD K (pv 0) rfl) (pv 1) ⟨rfl,rfl,rfl,rfl⟩)))))),?_⟩
 obtain⟨dx,hh⟩:=hA.ins
 obtain⟨kvs,hla,hk⟩:=hA.laid
 nofun
 walk_at "q"
 nofun
 refine⟨ha,dx,_,rfl,hh,zd2 (by decide +kernel) (by decide +kernel),?_⟩
 nofun
 refine⟨ha,dx,la,va,n,kvs,rfl,hh,hla,hn,λz=>qE λhm=>?_,λz=>?_⟩
 ·obtain⟨v,e,_⟩:=hk.2.2 n hm
  rw[e] at z;cases z
 have hm:n∈ks:=Classical.byContradiction λw=>by rw[hk.no w] at z;cases z
 nofun
 walk_at "q"
 nofun
 refine⟨ha,dx,_,rfl,hh,zd2 (by decide +kernel) (by decide +kernel),?_⟩
 nofun
 refine⟨ha,la,va,n,ks,cr,ws,fp,rfl,hA,λH1 ws1 o1 hA1 hm1=>?_⟩
 obtain⟨dx1,hh1⟩:=hA1.ins
 nofun
 walk_at "q"
 nofun
 refine⟨ha,dx1,_,rfl,hh1,zd2 (by decide +kernel) (by decide +kernel),?_⟩
 nofun
 refine⟨ha,la,va,n,ks,cr,ws1,fp,rfl,hA1,λH2 ws2 o2 hA2 hm2=>?_⟩
 obtain⟨dx2,hh2⟩:=hA2.ins
 obtain⟨kv2,hla2,hk2⟩:=hA2.laid
 obtain⟨v,hv,_⟩:=hk2.2.2 n hm
 nofun
 refine⟨ha,(C 6),dx2,_,_,rfl,hh2,Z.c_Hall,Z.n_Hall_laid,zd1 _ _,?_⟩
 refine⟨la,rfl,.inl ⟨_,.inl hla2⟩,?_⟩
 nofun
 refine⟨kv2,.inl n,v,hla2,rfl,hv,?_⟩
 nofun
 have o12:OffA [la,va] H H2:=(o1.trans o2).putDict λb hb=>by rw[zms.mp hb];simp
 refine qQ hm _ ws2 (o12.trans (zcb (by simp))) (hA2.dropL hla2 λm hm'=>((hm2 m).mp hm').2) λm=>?_
 rw[hm2,hm1]
 exact⟨λz=>⟨z.1.1,z.2,z.1.2⟩,λz=>⟨⟨z.1,z.2.2⟩,z.2.1⟩⟩
def zkw (rs:List (Int × List Int)):Prop:=∀ r∈rs,r.2.length≤1000∧CB r.1∧∀ w∈r.2,CB w
theorem zp9 {K:Fg}{H:Hp}{r:Int × List Int}{v:V}(h:Rep K H (zlC r) v):∃ T wa,v=.ref T∧SqT K H T [.int r.1,.ref wa]∧SqL K H wa (r.2.map V.int):=by
 obtain⟨a,xs,rfl,hT,hx⟩:=zeo h
 unfold Reps at hx
 obtain⟨v1,r1,rfl,h1,hx⟩:=hx
 unfold Reps at hx
 obtain⟨v2,r2,rfl,h2,hx⟩:=hx
 unfold Reps at hx
 subst hx
 unfold Rep at h1
 subst h1
 obtain⟨wa,rfl,hw⟩:=zbi.mp h2
 exact⟨a,wa,rfl,hT,hw⟩
inductive Q55 (K:Fg) (vs:List V) (H:Hp) (Q:VK) (E:XK):Prop
 | mk (da ra:Addr) (gs:List Du) (xs:List V) (rs:List (Int × List Int)) (ys:List V):vs=[.ref da,.ref ra]→SqL K H da xs→R2 (zhK H) gs xs→SqL K H ra ys→Reps K H (rs.map zlC) ys→(∀ g∈gs,zfj g)→gs.length≤34→zkw rs→(∀ H',Same H H'→Q (.bl (zjp gs rs)) H')→Q55 K vs H Q E
include B Z in
theorem zjL (Q3c:Fn P w K mg b8 "shows" ["duty","row"] 2 (ziw K)) (F:Fun K "all_shown" "all_shown" zde f fd) (m:mg "all_shown"=some (.ref f)):Fn P w K mg b8 "all_shown" ["due","rows"] 3 (Q55 K):=by
 refine Fn.of (k:=2) F zjD m (λ_ _ _ _ _ _ us hl=>match us,hl with | [_,_],_=>rfl) (λvs H Q E h=>?_) (λcdv A outer s H vs Q E hr h=>?_)
 ·first
  | (obtain⟨_,_,_,_,_,_,rfl,_⟩:=h;rfl)
 obtain⟨da,ra,gs,xs,rs,ys,rfl,hda,hg,hra,hrp,gf,gl,rf,q⟩:=h
 refine⟨_,(zaj (zao (zbR (zbh (k_eq K hr) (zaz (zcD K) rfl B.len L2.boot_len (zab (pv 0) zac)) (zaz (zcD K) rfl B.len L2.boot_len (zab (pv 1) zac)) (zav _)) (zci (zaz (zi1 K rfl) rfl B.all L2.zdw (zcs (za1 rfl (COk.m (sc0:=zai zde) (N:=["due","rows"]) (N':=["due","rows","duty","row"]) (ms:=[false,false,true,true])) (zmD K rfl B.zip (zab (pv 0) (zab (pv 1) zac))) (λ_ _ _ _ _=>(zfM K (n:=2) rfl (zbw (zas (i:=2) (ndS (N:=["due","rows","duty","row"])) rfl (Or.inl rfl)) (zbw (zas (i:=3) (ndS (N:=["due","rows","duty","row"])) rfl (Or.inl rfl)) zeg)))) (λ_ _ _ _ _=>zaG) (λ_ _ _ _ _=>(zap Q3c hr rfl (zab (pv 2) (zab (pv 3) zac))))) zac)))))),?_⟩
 have lx:=hg.1
 have ly:=hrp.length
 rw[zlm] at ly
 nofun
 refine zcZ (.inl hda) ?_
 nofun
 refine zcZ (.inl hra) ?_
 nofun
 cases hb:decide (((xs.length:Nat):Int)=((ys.length:Nat):Int)) with
 | false=>
  nofun
  have:=q _ (Same.refl _)
  unfold zjp at this
  rw[decide_eq_false (by have:=of_decide_eq_false hb;omega),Bool.false_and] at this
  exact this
 | true=>
  have hl:gs.length=rs.length:=by have:=of_decide_eq_true hb;omega
  nofun
  refine⟨da,ra,rfl,⟨_,hda⟩,⟨_,hra⟩,?_⟩
  refine zaK (n:=gs.length) (zh3 hda hra (by omega)) ((List.zipWith (λg r=>zeL g.1 g.2 r.1 r.2) gs rs).map D.bl) (by simp[hl]) (zan (by omega)) (λj x d H2 R hj hd s2 hx hR=>?_) (λv H2 s2 n2=>?_)
  ·obtain⟨T,u,z,rfl,hT,eu,ez⟩:=hx
   have jr:j<rs.length:=by omega
   have eg:gs[j]?=some gs[j]:=List.getElem?_eq_getElem hj
   have er:rs[j]?=some rs[j]:=List.getElem?_eq_getElem jr
   generalize gs[j]=g at eg
   generalize rs[j]=r at er
   rw[zgm,List.getElem?_zipWith,eg,er] at hd
   cases hd
   obtain⟨T2,ga,na,rfl,hT2,hga,hL⟩:=(hg.2 j g u eg eu).same s2
   obtain⟨k9,k4,k99⟩:=gf g (zmg eg)
   obtain⟨zs,hna,lzs,rzs⟩:=hL.out (K:=K)
   obtain⟨dd,hdd,hrep⟩:=hrp.get' ez
   rw[zgm,er] at hdd
   cases hdd
   obtain⟨T3,wa,rfl,hT3,hwa⟩:=zp9 (Rep.same s2 _ hrep)
   obtain⟨c1,c2,c3⟩:=rf r (zmg er)
   refine⟨T,_,rfl,SqT.of hT,rfl,⟨_,_,rfl,?_⟩⟩
   refine⟨_,_,rfl,?_⟩
   refine⟨rfl,?_⟩
   nofun
   exact .inr ⟨T2,T3,ga,na,wa,g.1,g.2,zs,r.1,r.2,rfl,SqT.of hT2,hga,hna,rzs,hT3,hwa,k9,k99,by omega,c1,c2,c3,λH3 s3=>hR _ _ s3 New.bl⟩
  obtain⟨ba,rfl,ba0,hba⟩:=New.bls n2
  nofun
  refine ziZ (SqL.of hba) ?_
  have:=q _ s2
  unfold zjp at this
  rw[decide_eq_true hl,Bool.true_and] at this
  exact this
inductive Q4b (K:Fg) (C:Nat→Addr) (vs:List V) (H:Hp) (Q:VK) (E:XK):Prop
 | mk (ha la va:Addr) (n:Int) (ks:List Int) (cr:Int→Cr) (ws:List Int) (fp:List Addr):vs=[.ref ha,.int n]→HAt (C 6) (C 0) H ha la va ks cr ws fp→n.natAbs<zbE→(n∉ks→E (.ref (C 3)) none H)→(n∈ks→(∃ m∈zaD (cr n).deeds,m∉ks)→∀ H',Same H H'→E (.ref (C 4)) none H')→(n∈ks→(∀ m∈zaD (cr n).deeds,m∈ks)→∀ v H',Same H H'→New H H' (.lst (((cr n).gs cr).map duD)) v→Q v H')→Q4b K C vs H Q E
include B Z in
theorem zfK (Q4a:Mth (CX1 P w) P w K mg b8 (C 6) "must_stand" ["self","number"] 1 (Q49 K C)) (G_duties:Fnx P w K mg b8 "duties" ["craft","crafts"] 6 (Q28 K C)) (F:Fun K "duties_at" "Hall.duties_at" zb9 f fd) (M:Meth K (C 6) "duties_at" f):Mth (CX1 P w) P w K mg b8 (C 6) "duties_at" ["self","number"] 7 (Q4b K C):=by
 refine⟨f,fd,M,F.okx (k:=6) zfE (λvs H Q E h=>?_) (λcdv A outer s H vs Q E hr h=>?_),F.binds λ_ _ _ _ _ _ us hl=>match us,hl with | [_,_],_=>rfl⟩
 ·first
  | (obtain⟨_,_,_,_,_,_,_,_,rfl,_⟩:=h;rfl)
 obtain⟨ha,la,va,n,ks,cr,ws,fp,rfl,hA,hn,q1,q2,q3⟩:=h
 refine⟨_,(zag (zbc (zcr Q4a Z.c_Hall hr zcf (pv 0) (zab (pv 1) zac)))
   (zaj (zao (zfN G_duties hr rfl zcf (zaR (zei (hr_u hr) (zbD K (pv 0) rfl) (pv 1) (λ_ _=>rfl)) (zbP (zbD K (pv 0) rfl) zac)))))),?_⟩
 obtain⟨dx,hh⟩:=hA.ins
 obtain⟨kvs,hla,hk⟩:=hA.laid
 walk_at "q"
 nofun
 refine⟨ha,dx,_,rfl,hh,zd2 (by decide +kernel) (by decide +kernel),?_⟩
 nofun
 refine⟨ha,dx,la,va,n,kvs,rfl,hh,hla,hn,λhv=>?_,λhv=>?_⟩
 ·refine q1 λz=>?_
  obtain⟨v,e,_⟩:=hk.2.2 n z
  rw[hv] at e;cases e
 have hm:n∈ks:=by
  refine Classical.byContradiction λz=>?_
  rw[hk.no z] at hv;cases hv
 obtain⟨v,hv,p,f,rfl,hC,hf⟩:=hk.2.2 n hm
 have rt:=hA.rt n hm
 nofun
 refine⟨ha,(C 6),dx,_,_,rfl,hh,Z.c_Hall,Z.n_Hall_laid,zd1 _ _,?_⟩
 nofun
 refine⟨la,.ref p,rfl,by rw[←hv];exact DGet.k (k:=.inl n) hla,?_⟩
 nofun
 refine⟨ha,(C 6),dx,_,_,rfl,hh,Z.c_Hall,Z.n_Hall_laid,zd1 _ _,?_⟩
 nofun
 refine⟨p,la,(cr n).needs,(cr n).leaves,(cr n).deeds,(cr n).notes,kvs,zeN cr,rfl,hC.t rt.nine.d9,rt.good,rt.dok,hla,rt.calledMost,?_⟩
 by_cases hu:∃ m∈zaD (cr n).deeds,m∉ks
 ·obtain⟨m,mm,mk⟩:=hu
  exact .inl ⟨⟨m,mm,hk.no mk⟩,q2 hm ⟨m,mm,mk⟩⟩
 ·have hall:∀ m∈zaD (cr n).deeds,m∈ks:=λm mm=>Classical.byContradiction λz=>hu ⟨m,mm,z⟩
  refine .inr ⟨λm mm=>?_,λd hd=>?_,?_,λv H' s' n'=>q3 hm hall v H' s' ?_⟩
  ·obtain⟨v,e,_⟩:=hk.2.2 m (hall m mm)
   rw[e];rfl
  ·cases d with
   | call m g0 g1 t0 t1=>
    have mk:=hall m (zoi hd)
    obtain⟨v,e,o,fo,rfl,hO,_⟩:=hk.2.2 m mk
    have g:=(hA.rt m mk).good
    exact⟨o,_,_,e,hO.at,by rw[zlm];exact g⟩
   | _=>trivial
  ·rw[←zhL,zlm]
   have:=(rt.gs (cr:=cr) λm mm=>hA.rt m (hall m mm)).1
   unfold Cr.gs at this
   omega
  ·unfold Cr.gs
   rw[zhL]
   exact n'
inductive Q43 (K:Fg) (C:Nat→Addr) (vs:List V) (H:Hp) (Q:VK) (E:XK):Prop
 | mk (ha la va ra:Addr) (n:Int) (ks:List Int) (cr:Int→Cr) (ws:List Int) (fp:List Addr) (rs:List (Int × List Int)) (ys:List V):vs=[.ref ha,.int n,.ref ra]→HAt (C 6) (C 0) H ha la va ks cr ws fp→n.natAbs<zbE→SqL K H ra ys→Reps K H (rs.map zlC) ys→zkw rs→(n∉ks→E (.ref (C 3)) none H)→(n∈ks→(∃ m∈zaD (cr n).deeds,m∉ks)→∀ H',Same H H'→E (.ref (C 4)) none H')→(n∈ks→(∀ m∈zaD (cr n).deeds,m∈ks)→zjp ((cr n).gs cr) rs=false→∀ H',Same H H'→E (.ref (C 5)) none H')→(n∈ks→(∀ m∈zaD (cr n).deeds,m∈ks)→zjp ((cr n).gs cr) rs=true→∀ H' ws',OffA [va] H H'→HAt (C 6) (C 0) H' ha la va ks cr ws' fp→(∀ m,m∈ws'↔m∈ws∨m=n)→Q .non H')→Q43 K C vs H Q E
include B Z in
theorem zix (Q56:Fn P w K mg b8 "all_shown" ["due","rows"] 3 (Q55 K)) (Q4c:Mth (CX1 P w) P w K mg b8 (C 6) "duties_at" ["self","number"] 7 (Q4b K C)) (F:Fun K "vouch" "Hall.vouch" zdr f fd) (M:Meth K (C 6) "vouch" f):Mth (CX1 P w) P w K mg b8 (C 6) "vouch" ["self","number","rows"] 8 (Q43 K C):=by
 refine⟨f,fd,M,F.okx (k:=7) zil (λvs H Q E h=>?_) (λcdv A outer s H vs Q E hr h=>?_),F.binds λ_ _ _ _ _ _ us hl=>match us,hl with | [_,_,_],_=>rfl⟩
 ·first
  | (obtain⟨_,_,_,_,_,_,_,_,_,_,_,rfl,_⟩:=h;rfl)
 obtain⟨ha,la,va,ra,n,ks,cr,ws,fp,rs,ys,rfl,hA,hn,hra,hrp,rf,q1,q2,q3,q4⟩:=h
 refine⟨_,(zag (za0 (ze5 (zcQ (zap Q56 hr rfl (zaC (zcr Q4c Z.c_Hall hr zcf (pv 0) (zab (pv 1) zac)) (zab (pv 2) zac))))) (zaj (zgc Z.e_NotShown rfl Z.m_NotShown rfl zh6 (zbv (zoX (pv 1) (by decide +kernel)) zac))) zax)
   (zaj (zdE (hr_u hr) (zbD K (pv 0) rfl) (pv 1) zef rfl))),?_⟩
 obtain⟨dx,hh⟩:=hA.ins
 walk_at "q"
 nofun
 refine⟨ha,dx,_,rfl,hh,zd2 (by decide +kernel) (by decide +kernel),?_⟩
 nofun
 refine⟨ha,la,va,n,ks,cr,ws,fp,rfl,hA,hn,q1,q2,λhm hall v H1 s1 n1=>?_⟩
 have q3:=q3 hm hall
 have q4:=q4 hm hall
 obtain⟨gl,gf⟩:=(hA.rt n hm).gs (cr:=cr) λm mm=>hA.rt m (hall m mm)
 generalize (cr n).gs cr=gs at *
 obtain⟨da,xs,dfp,rfl,da0,hda,hfr,_⟩:=New.lso n1
 have rX:=zak.duties hfr
 nofun
 refine⟨da,ra,gs,xs,rs,ys,rfl,SqL.of hda,rX,s1.seq hra,Reps.same s1 _ hrp,gf,gl,rf,λH2 s2=>?_⟩
 have s02:=s1.trans s2
 cases hb:zjp gs rs with
 | false=>
  nofun
  refine⟨hn,λz=>?_⟩
  nofun
  exact⟨(by walk_at "sm"),q3 hb _ s02⟩
 | true=>
  have hA3:=hA.same s02
  obtain⟨dx3,hh3⟩:=hA3.ins
  obtain⟨kv,hva,hkv⟩:=hA3.vou
  nofun
  refine⟨ha,(C 6),dx3,_,_,rfl,hh3,Z.c_Hall,Z.n_Hall_vouched,zdR _ _,?_⟩
  nofun
  have kl:=hkv.len
  have vl:=hA3.vfew
  refine⟨va,_,rfl,DPut.k (k:=.inl n) hva (zbs (by omega)),?_⟩
  have put:=hkv.put (m:=n) (v:=.bl true) rfl
  have wss:∀ m,m∈(if n∈ws then ws else ws++[n])↔m∈ws∨m=n:=λm=>by
   by_cases z:n∈ws
   ·rw[if_pos z]
    exact⟨.inl,λw=>by rcases w with w | w;exact w;rw[w];exact z⟩
   ·rw[if_neg z];simp
  refine q4 hb _ _ (s02.offA.trans (zcb (by simp))) (hA3.putV put λm hm'=>?_) wss
  rcases (wss m).mp hm' with w | w
  ·exact hA.sub m w
  ·rw[w];exact hm
inductive Q45 (K:Fg) (C:Nat→Addr) (vs:List V) (H:Hp) (Q:VK) (E:XK):Prop
 | mk (ha la va:Addr) (n:Int) (ks:List Int) (cr:Int→Cr) (ws:List Int) (fp:List Addr):vs=[.ref ha,.int n]→HAt (C 6) (C 0) H ha la va ks cr ws fp→n.natAbs<zbE→(n∉ks→E (.ref (C 3)) none H)→(n∈ks→(∃ m∈zaD (cr n).deeds,m∉ks)→∀ H',Same H H'→E (.ref (C 4)) none H')→(n∈ks→(∀ m∈zaD (cr n).deeds,m∈ks)→∀ v H' ws',OffA [va] H H'→HAt (C 6) (C 0) H' ha la va ks cr ws' fp→(∀ m,m∈ws'↔m∈ws∨(m=n∧zbG ((cr n).gs cr)))→New H H' (.lst (((cr n).gs cr).map λg=>rowD (za3 g.1 g.2))) v→Q v H')→Q45 K C vs H Q E
include B Z in
theorem zjM (G_sought:Fn P w K mg b8 "sought" ["duty"] 3 (Q3d K)) (Q4c:Mth (CX1 P w) P w K mg b8 (C 6) "duties_at" ["self","number"] 7 (Q4b K C)) (F:Fun K "seek" "Hall.seek" zcA f fd) (M:Meth K (C 6) "seek" f):Mth (CX1 P w) P w K mg b8 (C 6) "seek" ["self","number"] 8 (Q45 K C):=by
 refine⟨f,fd,M,F.okx (k:=7) zfQ (λvs H Q E h=>?_) (λcdv A outer s H vs Q E hr h=>?_),F.binds λ_ _ _ _ _ _ us hl=>match us,hl with | [_,_],_=>rfl⟩
 ·first
  | (obtain⟨_,_,_,_,_,_,_,_,rfl,_⟩:=h;rfl)
 obtain⟨ha,la,va,n,ks,cr,ws,fp,rfl,hA,hn,q1,q2,q3⟩:=h
 refine⟨_,(zag (zbZ (i:=2) zfQ.nd rfl rfl rfl (COk.m (sc0:=zai zcA) (N:=["self","number","rows"]) (N':=["self","number","rows","duty"]) (ms:=[false,false,false,true])) (zaX K (zcr Q4c Z.c_Hall hr zcf (pv 0) (zab (pv 1) zac))) (λ_ _ _ _ _=>(zas (i:=3) (ndS (N:=["self","number","rows","duty"])) rfl (Or.inl rfl))) (λ_ _ _ _ _=>zaG) (λ_ _ _ _ _=>(zap G_sought hr rfl (zab (pv 3) zac))))
   (zag (za0 (zcQ (zaz (zi1 K rfl) rfl B.all L2.zdw (zcs (za1 rfl (COk.m (sc0:=zai zcA) (N:=["self","number","rows"]) (N':=["self","number","rows","row"]) (ms:=[false,false,false,true])) (zaX K (pv 2)) (λ_ _ _ _ _=>(zas (i:=3) (ndS (N:=["self","number","rows","row"])) rfl (Or.inl rfl))) (λ_ _ _ _ _=>zaG) (λ_ _ _ _ _=>(zbh zpc (pv 3) zeI (zav _)))) zac))) (zaj (zdE (hr_u hr) (zbD K (pv 0) rfl) (pv 1) zef rfl)) zax)
   (zaj (zao (pv 2))))),?_⟩
 obtain⟨dx,hh⟩:=hA.ins
 walk_at "q"
 nofun
 refine⟨ha,dx,_,rfl,hh,zd2 (by decide +kernel) (by decide +kernel),?_⟩
 nofun
 refine⟨ha,la,va,n,ks,cr,ws,fp,rfl,hA,hn,q1,q2,λhm hall v H1 s1 n1=>?_⟩
 have rt:=hA.rt n hm
 obtain⟨gl,gf⟩:=rt.gs (cr:=cr) λm mm=>hA.rt m (hall m mm)
 have q3:=q3 hm hall
 generalize (cr n).gs cr=gs at *
 obtain⟨da,xs,dfp,rfl,da0,hda,hfr,_⟩:=New.lso n1
 have rX:=zak.duties hfr
 have lx:=rX.1
 refine⟨da,rfl,⟨_,SqL.of hda⟩,?_⟩
 refine zaK (zaO (SqL.of hda)) (gs.map λg=>rowD (za3 g.1 g.2)) (by rw[zlm];exact lx) (zan (by omega)) (λj x d H2 R hj hd s2 hx hR=>?_) (λv H2 s2 n2=>?_)
 ·rw[zgm] at hd
  obtain⟨g,hg,rfl⟩:=zme.mp hd
  obtain⟨T,ga,na,rfl,hT,hga,hL⟩:=(rX.2 j g x hg hx).same s2
  obtain⟨k9,k4,k99⟩:=gf g (zmg hg)
  obtain⟨ys,hna,lys,rys⟩:=hL.out (K:=K)
  nofun
  exact⟨T,ga,na,g.1,g.2,ys,rfl,SqT.of hT,hga,hna,rys,k9,k99,by omega,λv H3 s3 n3=>hR v H3 s3 n3⟩
 have s02:=s1.trans s2
 have n02:=n2.back s1
 obtain⟨ra,rvs,rfp,rfl,ra0,hra,hrr,_⟩:=New.lso n02
 have lr:=hrr.length
 rw[zlm] at lr
 nofun
 have hnon:∀ (j:Nat) g x,gs[j]?=some g→rvs[j]?=some x→decide (x=V.non)=!(za3 g.1 g.2).isSome:=λj g x e1 e2=>by
  obtain⟨f,hf⟩:=zak.item hrr j (rowD (za3 g.1 g.2)) x (by rw[zgm,e1];rfl) e2
  cases hs:za3 g.1 g.2 with
  | none=>rw[hs] at hf;unfold rowD RepF at hf;rw[hf.1];rfl
  | some r=>
   obtain⟨w,r⟩:=r
   rw[hs] at hf
   unfold rowD RepF at hf
   obtain⟨a,_,e,_⟩:=hf
   rw[e,zmI];rfl
 -- are all of them found
 with_reducible refine zdM (λσ H'=>σ=[some (.ref ha),some (.int n),some (.ref ra)]∧∃ ws',OffA [va] H2 H'∧HAt (C 6) (C 0) H' ha la va ks cr ws' fp∧(∀ m,m∈ws'↔m∈ws∨(m=n∧zbG gs))∧New H H' (.lst (gs.map λg=>rowD (za3 g.1 g.2))) (.ref ra)) (λNX tail=>?_) ?_
 ·nofun
  refine⟨ra,rfl,⟨_,SqL.of hra⟩,?_⟩
  refine zaK (zaO (SqL.of hra)) ((gs.map λg=>(za3 g.1 g.2).isSome).map D.bl) (by simp[lr]) (zan (by omega)) (λj x d H3 R hj hd s3 hx hR=>?_) (λv H3 s3 n3=>?_)
  ·rw[zgm,zgm] at hd
   obtain⟨b,hb,rfl⟩:=zme.mp hd
   obtain⟨g,hg,rfl⟩:=zme.mp hb
   nofun
   refine⟨rfl,?_⟩
   rw[hnon j g x hg hx,Bool.not_not]
   exact hR _ _ (Same.refl _) New.bl
  obtain⟨ba,rfl,ba0,hba⟩:=New.bls n3
  nofun
  refine ziZ (SqL.of hba) ?_
  have s03:=s02.trans s3
  cases hb:(gs.map λg=>(za3 g.1 g.2).isSome).all id with
  | true=>
   have af:zbG gs:=λg hg=>by
    rw[List.all_map,List.all_eq_true] at hb
    exact hb g hg
   have hA3:=hA.same s03
   obtain⟨dx3,hh3⟩:=hA3.ins
   obtain⟨kv,hva,hkv⟩:=hA3.vou
   nofun
   refine⟨ha,(C 6),dx3,_,_,rfl,hh3,Z.c_Hall,Z.n_Hall_vouched,zdR _ _,?_⟩
   nofun
   have kl:=hkv.len
   have vl:=hA3.vfew
   refine⟨va,_,rfl,DPut.k (k:=.inl n) hva (zbs (by omega)),?_⟩
   have put:=hkv.put (m:=n) (v:=.bl true) rfl
   have wss:∀ m,m∈(if n∈ws then ws else ws++[n])↔m∈ws∨m=n:=λm=>by
    by_cases z:n∈ws
    ·rw[if_pos z]
     exact⟨.inl,λw=>by rcases w with w | w;exact w;rw[w];exact z⟩
    ·rw[if_neg z];simp
   refine tail _ _ ⟨rfl,_,s3.offA.trans (zcb (by simp)),hA3.putV put λm hm'=>?_,λm=>?_,(n02.same s3).sq (zc2 hva).sq⟩
   ·rcases (wss m).mp hm' with w | w
    ·exact hA.sub m w
    ·rw[w];exact hm
   ·rw[wss]
    exact⟨λz=>by rcases z with z | z;exact .inl z;exact .inr ⟨z,af⟩,λz=>by rcases z with z | z;exact .inl z;exact .inr z.1⟩
  | false=>
   have af:¬ zbG gs:=λz=>by
    have:(gs.map λg=>(za3 g.1 g.2).isSome).all id=true:=by
     rw[List.all_map,List.all_eq_true];exact z
    rw[this] at hb;cases hb
   nofun
   exact tail _ _ ⟨rfl,ws,s3.offA,hA.same s03,λm=>⟨.inl,λz=>by rcases z with z | z;exact z;exact absurd z.2 af⟩,n02.same s3⟩
 rintro σ H3 ⟨rfl,ws3,o3,hA3,hm3,n3⟩
 nofun
 exact q3 _ _ ws3 (s02.offA.trans o3) hA3 hm3 n3
inductive Q47 (K:Fg) (C:Nat→Addr) (vs:List V) (H:Hp) (Q:VK) (E:XK):Prop
 | mk (ha la va:Addr) (n:Int) (ks:List Int) (cr:Int→Cr) (ws:List Int) (fp:List Addr):vs=[.ref ha,.int n]→HAt (C 6) (C 0) H ha la va ks cr ws fp→Q (.bl (decide (n∈ws))) H→Q47 K C vs H Q E
include B Z in
theorem zjN (F:Fun K "held" "Hall.held" zdW f fd) (M:Meth K (C 6) "held" f):Mth CX0 P w K mg b8 (C 6) "held" ["self","number"] 1 (Q47 K C):=by
 refine⟨f,fd,M,F.ok (k:=0) zjB (λvs H Q E h=>?_) (λcdv A outer s H vs Q E hr h=>?_),F.binds λ_ _ _ _ _ _ us hl=>match us,hl with | [_,_],_=>rfl⟩
 ·first
  | (obtain⟨_,_,_,_,_,_,_,_,rfl,_⟩:=h;rfl)
 obtain⟨ha,la,va,n,ks,cr,ws,fp,rfl,hA,q⟩:=h
 refine⟨_,(zaj (zao (zqh (zmn (hr_u hr) (pv 1) (zbD K (pv 0) rfl))))),?_⟩
 obtain⟨dx,hh⟩:=hA.ins
 obtain⟨kvs,hva,hk⟩:=hA.vou
 nofun
 refine⟨ha,(C 6),dx,_,_,rfl,hh,Z.c_Hall,Z.n_Hall_vouched,zdR _ _,?_⟩
 refine⟨va,_,rfl,DGet.k (k:=.inl n) hva,?_⟩
 by_cases hm:n∈ws
 ·obtain⟨v,hv,_⟩:=hk.2.2 n hm
  rw[hv]
  rw[decide_eq_true hm] at q
  exact q
 ·rw[hk.no hm]
  rw[decide_eq_false hm] at q
  exact q
inductive Q59 (K:Fg) (vs:List V) (H:Hp) (Q:VK) (E:XK):Prop
 | mk (c k m:Int):vs=[.int c,.int k,.int m]→0<m→Q (.int (mix c k m)) H→Q59 K vs H Q E
theorem zkx {H:Hp}{Q:VK}{E:XK}{c k m:Int}(h:0<m) (q:Q (.int (mix c k m)) H):Q59 K [.int c,.int k,.int m] H Q E:=⟨c,k,m,rfl,h,q⟩
include B Z in
theorem zoD (F:Fun K "_law_mix" "_law_mix" zhR f fd) (m:mg "_law_mix"=some (.ref f)):Fn P w K mg b8 "_law_mix" ["cell","k","many"] 1 (Q59 K):=by
 refine Fn.of (k:=0) F zov m (λ_ _ _ _ _ _ us hl=>match us,hl with | [_,_,_],_=>rfl) (λvs H Q E h=>?_) (λcdv A outer s H vs Q E hr h=>?_)
 ·first
  | (obtain⟨_,_,_,rfl,_⟩:=h;rfl)
 obtain⟨c,k,m,rfl,hm,q⟩:=h
 refine⟨_,(zaj (zao (zam zaV (zam zaS (zam zaV (zam zbT (zam (zaL K) (zam zaV (pv 0) zaa) zaa) (zam (zaL K) zaa (zam zbT zaa (pv 1)))) zaa) zaa) (pv 2)))),?_⟩
 have h1:=Int.emod_nonneg c (show (2147483647:Int)≠0 by decide)
 have h2:=Int.emod_lt_of_pos c (show (0:Int)<2147483647 by decide)
 ac_rfl
 exact q
inductive Q57 (K:Fg) (vs:List V) (H:Hp) (Q:VK) (E:XK):Prop
 | mk (a:Addr) (k:Int) (ns:List Int):vs=[.ref a,.int k]→SqL K H a (ns.map V.int)→0≤k→Q (.int (cell ns k)) H→Q57 K vs H Q E
theorem zfS {H:Hp}{Q:VK}{E:XK}{a:Addr}{k:Int}{ns:List Int}(h:SqL K H a (ns.map V.int)) (hk:0≤k) (q:Q (.int (cell ns k)) H):Q57 K [.ref a,.int k] H Q E:=⟨a,k,ns,rfl,h,hk,q⟩
include B Z in
theorem zjO (F:Fun K "_law_cell_at" "_law_cell_at" zdY f fd) (m:mg "_law_cell_at"=some (.ref f)):Fn P w K mg b8 "_law_cell_at" ["script","k"] 1 (Q57 K):=by
 refine Fn.of (k:=0) F zjE m (λ_ _ _ _ _ _ us hl=>match us,hl with | [_,_],_=>rfl) (λvs H Q E h=>?_) (λcdv A outer s H vs Q E hr h=>?_)
 ·first
  | (obtain⟨_,_,_,rfl,_⟩:=h;rfl)
 obtain⟨a,k,ns,rfl,hS,hk,q⟩:=h
 refine⟨_,(zag (za0 (zau zld (pv 1) (zaz (zcD K) rfl B.len L2.boot_len (zab (pv 0) zac)) (zav _)) (zaj (zao (zaH (k_ix K) (pv 0) (pv 1) (λ_ _=>rfl)))) zax)
   (zaj (zao zaa))),?_⟩
 ac_rfl
 refine zcZ (.inl hS) ?_
 ac_rfl
 rw[zlm]
 unfold cell at q
 refine ite2 (λe=>?_) (λe=>?_)
 ·have e':k<(ns.length:Int):=of_decide_eq_true e
  ac_rfl
  have hl:k.toNat<ns.length:=by omega
  refine zbA hS (v:=.int (ns.getD k.toNat 0)) ?_ q
  have z:atI (ns.map V.int) ((k.toNat:Nat):Int)=some (.int (ns.getD k.toNat 0)):=zaN (by simp[hl])
  rwa [show ((k.toNat:Nat):Int)=k by omega] at z
 ·have e':¬ k<(ns.length:Int):=of_decide_eq_false (Bool.eq_false_iff.mpr e)
  ac_rfl
  have hl:ns.getD k.toNat 0=0:=by simp[List.getD,List.getElem?_eq_none (show ns.length≤k.toNat by omega)]
  rw[hl] at q
  exact q
inductive Q5b (K:Fg) (vs:List V) (H:Hp) (Q:VK) (E:XK):Prop
 | mk (c k:Int):vs=[.int c,.int k]→(∀ H',Same H H'→Q (.int (number c k)) H')→Q5b K vs H Q E
theorem ziy {H:Hp}{Q:VK}{E:XK}{c k:Int}(q:∀ H',Same H H'→Q (.int (number c k)) H'):Q5b K [.int c,.int k] H Q E:=⟨c,k,rfl,q⟩
include B Z in
theorem zky (Q5a:Fn P w K mg b8 "_law_mix" ["cell","k","many"] 1 (Q59 K)) (F:Fun K "_law_number" "_law_number" zeA f fd) (m:mg "_law_number"=some (.ref f)):Fn P w K mg b8 "_law_number" ["cell","k"] 2 (Q5b K):=by
 refine Fn.of (k:=1) F zg3 m (λ_ _ _ _ _ _ us hl=>match us,hl with | [_,_],_=>rfl) (λvs H Q E h=>?_) (λcdv A outer s H vs Q E hr h=>?_)
 ·first
  | (obtain⟨_,_,rfl,_⟩:=h;rfl)
 obtain⟨c,k,rfl,q⟩:=h
 refine⟨_,(zag (zay (i:=2) zg3.nd rfl (Or.inl rfl) (zap Q5a hr rfl (zab (pv 0) (zab (pv 1) (zae zaa zac)))))
   (zag (za0 (zau (k_eq K hr) (pv 2) zaa (zav _)) (zaj (zao (zam ziG (zam zaV (pv 0) (zam (zaL K) (zam zbT zaa (zam zhy zaa zaa)) zaa)) (zam zhy zaa zaa)))) zax)
   (zag (za0 (zau (k_eq K hr) (pv 2) zaa (zav _)) (zaj (zao (zaH (k_ix K) (zaE (zaP (zam zhy zaa zaa) (zfW (zdZ zcp (zam zhy zaa zaa)) (zae zaa (zfW (zdZ zcp zaa) zac))))) (zap Q5a hr rfl (zab (pv 0) (zaP (zam (zaL K) (pv 1) zaa) (zae zaa zac)))) (λ_ _=>rfl)))) zax)
   (zaj (zao (zam ziG (zap Q5a hr rfl (zab (pv 0) (zaP (zam (zaL K) (pv 1) zaa) (zae zaa zac)))) zaa)))))),?_⟩
 have n1:=zb0 (c:=c) (k:=k+1) (m:=4) (by decide)
 have n2:=zfd (c:=c) (k:=k+1) (m:=4) (by decide)
 ac_rfl
 refine zkx (by decide) ?_
 ac_rfl
 refine ite2 (λe=>?_) (λe=>?_)
 ·have e':mix c k 9=0:=of_decide_eq_true e
  ac_rfl
  have q':=q H (Same.refl H)
  unfold number at q'
  rw[if_pos e'] at q'
  exact q'
 ·have e':¬ mix c k 9=0:=of_decide_eq_false (Bool.eq_false_iff.mpr e)
  ac_rfl
  refine ite2 (λe2=>?_) (λe2=>?_)
  ·have e2':mix c k 9=1:=of_decide_eq_true e2
   ac_rfl
   refine⟨by decide,λp hp=>?_⟩
   ac_rfl
   refine zkx (by decide) ?_
   have q':=q (upd H p (.lst [.int 1000000000,.int (-1000000000),.int 999999999,.int (-999999999)])) (zaf hp _)
   unfold number at q'
   rw[if_neg e',if_pos e2'] at q'
   refine zbA (SqL.of zad) ?_ q'
   have c4:mix c (k+1) 4=0∨mix c (k+1) 4=1∨mix c (k+1) 4=2∨mix c (k+1) 4=3:=by omega
   rcases c4 with z | z | z | z <;> rw[z] <;> rfl
  ·have e2':¬ mix c k 9=1:=of_decide_eq_false (Bool.eq_false_iff.mpr e2)
   ac_rfl
   refine zkx (by decide) ?_
   ac_rfl
   have q':=q H (Same.refl H)
   unfold number at q'
   rw[if_neg e',if_neg e2'] at q'
   exact q'
def zfu (K:Fg):Sp:=λvs H Q _=>∃ c:Int,vs=[.int c]∧∀ v H',Same H H'→New H H' (nums (zid c)) v→Q v H'
theorem zno {H:Hp}{Q:VK}{E:XK}{c:Int}(q:∀ v H',Same H H'→New H H' (nums (zid c)) v→Q v H'):zfu K [.int c] H Q E:=⟨c,rfl,q⟩
include B Z in
theorem znp (Q5c:Fn P w K mg b8 "_law_number" ["cell","k"] 2 (Q5b K)) (F:Fun K "_law_free" "_law_free" ze4 f fd) (m:mg "_law_free"=some (.ref f)):Fn P w K mg b8 "_law_free" ["cell"] 3 (zfu K):=by
 refine Fn.of (k:=2) F znb m (λ_ _ _ _ _ _ us hl=>match us,hl with | [_],_=>rfl) (λvs H Q E h=>?_) (λcdv A outer s H vs Q E hr h=>?_)
 ·first
  | (obtain⟨_,rfl,_⟩:=h;rfl)
 obtain⟨c,rfl,q⟩:=h
 refine⟨_,(zaj (zao (zam (zaL K) (za1 rfl (COk.m (sc0:=zai ze4) (N:=["cell"]) (N':=["cell","k"]) (ms:=[false,true])) (zbJ rfl B.range (zae zaa zac)) (λ_ _ _ _ _=>(zas (i:=1) (ndS (N:=["cell","k"])) rfl (Or.inl rfl))) (λ_ _ _ _ _=>zaG) (λ_ _ _ _ _=>(zap Q5c hr rfl (zab (pv 0) (zaP (zam zbT zaa (pv 1)) zac))))) (zaE (zae zaa (zae zaa zac)))))),?_⟩
 ac_rfl
 refine zc0 (by decide) (by decide) ?_
 refine zaK (n:=7) zcC (((List.range 7).map λ(k:Nat)=>number c (5 * (0+(k:Int)))).map D.int) (by simp) (by decide) (λi x d H1 R hi hd s1 hx hR=>?_) (λv H1 s1 n1=>?_)
 ·subst hx
  rw[List.map_map] at hd
  have hd':=zem hd
  subst hd'
  ac_rfl
  refine ziy λH2 s2=>?_
  exact hR _ _ s2 New.int
 obtain⟨la,rfl,la0,la1⟩:=New.iif.mp n1
 ac_rfl
 refine⟨(by walk_at "sm"),λp hp=>?_⟩
 have t1:=zaf hp (.lst [V.int 0,.int 0])
 ac_rfl
 refine zbz (t1 _ _ la1) zad ((by walk_at "sm")) λp2 hp2=>?_
 refine q _ _ (s1.trans (t1.trans (zaf hp2 _))) (New.iif.mpr ⟨p2,rfl,(s1.trans t1).free hp2,?_⟩)
 rw[zad]
 unfold zid
 rw[List.map_append]
 rfl
inductive Q5f (K:Fg) (vs:List V) (H:Hp) (Q:VK) (E:XK):Prop
 | mk (c count:Int):vs=[.int c,.int count]→0≤count→(∀ v H',Same H H'→New H H' (toD (zdS c count)) v→Q v H')→Q5f K vs H Q E
include B Z in
theorem zhb (Q5c:Fn P w K mg b8 "_law_number" ["cell","k"] 2 (Q5b K)) (Q5e:Fn P w K mg b8 "_law_free" ["cell"] 3 (zfu K)) (Q5a:Fn P w K mg b8 "_law_mix" ["cell","k","many"] 1 (Q59 K)) (F:Fun K "_law_other_deed" "_law_other_deed" zcK f fd) (m:mg "_law_other_deed"=some (.ref f)):Fn P w K mg b8 "_law_other_deed" ["cell","count"] 4 (Q5f K):=by
 refine Fn.of (k:=3) F zev m (λ_ _ _ _ _ _ us hl=>match us,hl with | [_,_],_=>rfl) (λvs H Q E h=>?_) (λcdv A outer s H vs Q E hr h=>?_)
 ·first
  | (obtain⟨_,_,rfl,_⟩:=h;rfl)
 obtain⟨c,count,rfl,hc,q⟩:=h
 refine⟨_,(zag (za0 (zau (k_eq K hr) (zam zaV (pv 0) zaa) zaa (zav _)) (zaj (zao (zbn (zae zbr (zaC (zap Q5e hr rfl (zaP (zam zaS (pv 0) zaa) zac)) (zaC (zap Q5a hr rfl (zab (pv 0) (zae zaa (zaP (zam (zaL K) (pv 1) zaa) zac)))) zac)))))) zax)
   (zag (za0 (zau (k_eq K hr) (zam zaV (pv 0) zaa) zaa (zav _)) (zaj (zao (zbn (zae zbr (zaP (zam (zaL K) zaa (zam zaV (zam zaS (pv 0) zaa) zaa)) (zaC (zap Q5e hr rfl (zaP (zam zaS (pv 0) zaa) zac)) zac)))))) zax)
   (zag (zay (i:=2) zev.nd rfl (Or.inl rfl) (zap Q5c hr rfl (zaP (zam zaS (pv 0) zaa) (zae zaa zac))))
   (zaj (zao (zbn (zae zbr (zaP (zam (zaL K) zaa (zam zaV (zam zaS (pv 0) zaa) zaa)) (zab (pv 2) (zaC (zaz (zqW rfl) rfl B.max L2.zkQ (zab (pv 2) (zaC (zap Q5c hr rfl (zaP (zam zaS (pv 0) zaa) (zae zaa zac))) zac))) zac)))))))))),?_⟩
 unfold zdS at q
 ac_rfl
 refine ite2 (λe=>?_) (λe=>?_)
 ·have e':c % 3=0:=of_decide_eq_true e
  rw[if_pos e'] at q
  ac_rfl
  refine zno λv H1 s1 n1=>?_
  obtain⟨la,rfl,la0,la1⟩:=New.iif.mp n1
  ac_rfl
  refine zkx (by omega) ?_
  ac_rfl
  refine⟨by show 3≤sizeLine;decide,λt ht=>?_⟩
  exact q _ _ (s1.trans (zaf ht _)) (zoq la0 la1 ht)
 have e0:¬ c % 3=0:=of_decide_eq_false (Bool.eq_false_iff.mpr e)
 rw[if_neg e0] at q
 ac_rfl
 refine ite2 (λe=>?_) (λe=>?_)
 ·have e':c % 3=1:=of_decide_eq_true e
  rw[if_pos e'] at q
  ac_rfl
  refine zno λv H1 s1 n1=>?_
  obtain⟨la,rfl,la0,la1⟩:=New.iif.mp n1
  ac_rfl
  refine⟨by show 3≤sizeLine;decide,λt ht=>?_⟩
  exact q _ _ (s1.trans (zaf ht _)) (zgO la0 la1 ht)
 have e1:¬ c % 3=1:=of_decide_eq_false (Bool.eq_false_iff.mpr e)
 rw[if_neg e1] at q
 ac_rfl
 refine ziy λH1 s1=>?_
 ac_rfl
 refine ziy λH2 s2=>?_
 ac_rfl
 refine zq6 ?_
 ac_rfl
 refine⟨by show 4≤sizeLine;decide,λt ht=>?_⟩
 exact q _ _ (s1.trans (s2.trans (zaf ht _))) (zk6 ht)
theorem znq (c:Int):atI [V.int 0,.int 1,.int (c / 48 % (1000000000+1))] (c / 8 % 3)=some (.int (zbg c)):=by
 have h1:=Int.emod_nonneg (c / 8) (show (3:Int)≠0 by decide)
 have h2:=Int.emod_lt_of_pos (c / 8) (show (0:Int)<3 by decide)
 unfold zbg
 have c3:c / 8 % 3=0∨c / 8 % 3=1∨c / 8 % 3=2:=by omega
 rcases c3 with z | z | z <;> rw[z] <;> rfl
theorem zfT {l:List Int}{i:Int}(h0:0≤i) (h:i<(l.length:Int)):atI (l.map V.int) i=some (.int (l.getD i.toNat 0)):=by
 have hj:i.toNat<l.length:=by omega
 have:=zaN (xs:=l.map V.int) (j:=i.toNat) (v:=.int l[i.toNat]) (by simp[hj])
 rw[show ((i.toNat:Nat):Int)=i by omega] at this
 rw[this]
 simp[List.getD,hj]
inductive Q63 (K:Fg) (vs:List V) (H:Hp) (Q:VK) (E:XK):Prop
 | mk (c count:Int) (na ka:Addr) (numbers kinds:List Int):vs=[.int c,.int count,.ref na,.ref ka]→0≤count→SqL K H na (numbers.map V.int)→SqL K H ka (kinds.map V.int)→numbers.length=kinds.length→0<numbers.length→(∀ v H',Same H H'→New H H' (toD (zc3 c count numbers kinds)) v→Q v H')→Q63 K vs H Q E
include B Z in
theorem zfY (Q60:Fn P w K mg b8 "_law_other_deed" ["cell","count"] 4 (Q5f K)) (Q5e:Fn P w K mg b8 "_law_free" ["cell"] 3 (zfu K)) (F:Fun K "_law_second_deed" "_law_second_deed" zco f fd) (m:mg "_law_second_deed"=some (.ref f)):Fn P w K mg b8 "_law_second_deed" ["cell","count","numbers","kinds"] 5 (Q63 K):=by
 refine Fn.of (k:=4) F zcd m (λ_ _ _ _ _ _ us hl=>match us,hl with | [_,_,_,_],_=>rfl) (λvs H Q E h=>?_) (λcdv A outer s H vs Q E hr h=>?_)
 ·first
  | (obtain⟨_,_,_,_,_,_,rfl,_⟩:=h;rfl)
 obtain⟨c,count,na,ka,numbers,kinds,rfl,hc,hN,hK,hl,h0,q⟩:=h
 refine⟨_,(zag (zay (i:=4) zcd.nd rfl (Or.inl rfl) (zaH (k_ix K) (zaE (zae zaa (zae zaa (zaP (zam zaV (zam zaS (pv 0) zaa) (zam (zaL K) (zam zhy zaa zaa) zaa)) zac)))) (zam zaV (zam zaS (pv 0) zaa) zaa) (λ_ _=>rfl)))
   (zag (zay (i:=5) zcd.nd rfl (Or.inl rfl) (zam zaV (pv 0) zaa))
   (zag (za0 (PW.pt (zjU (zau (k_eq K hr) (pv 5) zaa (zav _)) (ziC (zau (k_eq K hr) (pv 5) zaa (zav _))))) (zaj (zao (zbn (zae zbr (zae zaa (zbU (zaE (zab (pv 4) (zae zaa (zae zaa (zae zaa (zae zaa (zae zaa (zae zaa (zae zaa (zae zaa zac)))))))))) zac)))))) zax)
   (zag (za0 (zau (k_eq K hr) (pv 5) zaa (zav _)) (zaj (zao (zbn (zae zbr (zae zaa (zbU (zaE (zab (pv 4) (zae zaa (zae zaa (zae zaa (zae zaa (zae zaa (zae zaa (zae zaa (zae zaa zac)))))))))) (zae zaa zac))))))) zax)
   (zag (za0 (zau (k_eq K hr) (pv 5) zaa (zav _)) (zaj (zao (zbn (zae zbr (zbU (zaE (zab (pv 4) (zae zaa (zae zaa (zae zaa (zae zaa (zfW (zdZ zcp (zam zaV (zam zaS (pv 0) zaa) zaa)) (zae zaa (zae zaa (zae zaa zac)))))))))) zac))))) zax)
   (zag (za0 (zau (k_eq K hr) (pv 5) zaa (zav _)) (zaj (zao (zbn (zae zbr (zae zaa (zaC (zap Q5e hr rfl (zaP (zam zaS (pv 0) zaa) zac)) zac)))))) zax)
   (zag (za0 (zau (k_eq K hr) (pv 5) zaa (zav _)) (zag (zay (i:=6) zcd.nd rfl (Or.inl rfl) (zam zaV (zam zaS (pv 0) zaa) (zaz (zcD K) rfl B.len L2.boot_len (zab (pv 2) zac))))
   (zag (za0 (zau (k_eq K hr) (zaH (k_ix K) (pv 3) (pv 6) (λ_ _=>rfl)) zaa (zav _)) (zaj (zao (zbn (zae zbr (zaR (zaH (k_ix K) (pv 2) (pv 6) (λ_ _=>rfl)) (zeK (zbn (zae zaa (zae zaa zac))) (zeK (zbn (zaP (zam (zaL K) zaa (zam zaV (zam zaS (pv 0) zaa) zaa)) (zae zaa zac))) zac))))))) zax)
   (zaj (zao (zbn (zae zbr (zaR (zaH (k_ix K) (pv 2) (pv 6) (λ_ _=>rfl)) (zeK (zbn (zae zaa (zaP (zam zaV (zam zaS (pv 0) zaa) zaa) zac))) (zeK (zbn (zaP (zam zaV (zam zaS (pv 0) zaa) zaa) (zaP (zam (zaL K) zaa (zam zaV (zam zaS (pv 0) zaa) zaa)) zac))) zac))))))))) zax)
   (zaj (zao (zap Q60 hr rfl (zaP (zam zaS (pv 0) zaa) (zab (pv 1) zac)))))))))))),?_⟩
 unfold zc3 at q
 ac_rfl
 refine⟨by show 3≤sizeLine;decide,λp hp=>?_⟩
 have s0:=zaf hp (.lst [V.int 0,.int 1,.int (c / 48 % (1000000000+1))])
 ac_rfl
 refine zbA (SqL.of zad) (v:=.int (zbg c)) (znq c) ?_
 ac_rfl
 have first:(c % 8=0∨c % 8=1)→∀ la t (hla:(upd H p (.lst [V.int 0,.int 1,.int (c / 48 % (1000000000+1))])) la=none) (ht:(upd (upd H p (.lst [V.int 0,.int 1,.int (c / 48 % (1000000000+1))])) la (.lst (([zbg c,1,0,0,0,0,0,0,0]:List Int).map V.int))) t=none),Q (.ref t) (upd (upd (upd H p (.lst [V.int 0,.int 1,.int (c / 48 % (1000000000+1))])) la (.lst (([zbg c,1,0,0,0,0,0,0,0]:List Int).map V.int))) t (.tup [.str "set",.int 0,.ref la])):=λe' la t hla ht=>by
  rw[if_pos e'] at q
  exact q _ _ (s0.trans ((zaf hla _).trans (zaf ht _))) (zgO (l:=[zbg c,1,0,0,0,0,0,0,0]) (s0.free hla) zad ht)
 refine ite2 (λe=>?_) (λe=>?_)
 ·ac_rfl
  refine⟨by show 9≤sizeLine;decide,λla hla=>?_⟩
  ac_rfl
  exact⟨by show 3≤sizeLine;decide,λt ht=>first (.inl (of_decide_eq_true e)) la t hla ht⟩
 have e0:¬ c % 8=0:=of_decide_eq_false (Bool.eq_false_iff.mpr e)
 ac_rfl
 refine ite2 (λe=>?_) (λe=>?_)
 ·ac_rfl
  refine⟨by show 9≤sizeLine;decide,λla hla=>?_⟩
  ac_rfl
  exact⟨by show 3≤sizeLine;decide,λt ht=>first (.inr (of_decide_eq_true e)) la t hla ht⟩
 have e1:¬ c % 8=1:=of_decide_eq_false (Bool.eq_false_iff.mpr e)
 clear first
 rw[if_neg (show ¬ (c % 8=0∨c % 8=1) by omega)] at q
 ac_rfl
 refine ite2 (λe=>?_) (λe=>?_)
 ·have e':c % 8=2:=of_decide_eq_true e
  rw[if_pos e'] at q
  ac_rfl
  refine⟨by show 9≤sizeLine;decide,λla hla=>?_⟩
  have t1:=zaf hla (.lst (([zbg c,1,0,0,0,0,0,0,0]:List Int).map V.int))
  ac_rfl
  refine⟨by show 4≤sizeLine;decide,λt ht=>?_⟩
  exact q _ _ (s0.trans (t1.trans (zaf ht _))) (zk5 (l:=[zbg c,1,0,0,0,0,0,0,0]) (s0.free hla) zad ht)
 have e2:¬ c % 8=2:=of_decide_eq_false (Bool.eq_false_iff.mpr e)
 rw[if_neg e2] at q
 ac_rfl
 refine ite2 (λe=>?_) (λe=>?_)
 ·have e':c % 8=3:=of_decide_eq_true e
  rw[if_pos e'] at q
  ac_rfl
  refine⟨by show 9≤sizeLine;decide,λla hla=>?_⟩
  have t1:=zaf hla (.lst (([zbg c,1,0,0,0,-(c / 24 % 2),0,0,0]:List Int).map V.int))
  ac_rfl
  refine⟨by show 2≤sizeLine;decide,λt ht=>?_⟩
  exact q _ _ (s0.trans (t1.trans (zaf ht _))) (zk7 (l:=[zbg c,1,0,0,0,-(c / 24 % 2),0,0,0]) (s0.free hla) zad ht)
 have e3:¬ c % 8=3:=of_decide_eq_false (Bool.eq_false_iff.mpr e)
 rw[if_neg e3] at q
 ac_rfl
 refine ite2 (λe=>?_) (λe=>?_)
 ·have e':c % 8=4:=of_decide_eq_true e
  rw[if_pos e'] at q
  ac_rfl
  refine zno λv H1 s1 n1=>?_
  obtain⟨la,rfl,la0,la1⟩:=New.iif.mp n1
  ac_rfl
  refine⟨by show 3≤sizeLine;decide,λt ht=>?_⟩
  exact q _ _ (s0.trans (s1.trans (zaf ht _))) (zgO (s0.free la0) la1 ht)
 have e4:¬ c % 8=4:=of_decide_eq_false (Bool.eq_false_iff.mpr e)
 rw[if_neg e4] at q
 ac_rfl
 refine ite2 (λe=>?_) (λe=>?_)
 ·have e':c % 8=5:=of_decide_eq_true e
  rw[if_pos e'] at q
  ac_rfl
  refine zcZ (.inl (s0.seq hN)) ?_
  rw[zlm]
  have hlp:(0:Int)<(numbers.length:Int):=by omega
  ac_rfl
  have a1:=Int.emod_nonneg (c / 48) (show ((numbers.length:Nat):Int)≠0 by omega)
  have a2:=Int.emod_lt_of_pos (c / 48) hlp
  refine zbA (s0.seq hK) (zfT a1 (by omega)) ?_
  ac_rfl
  refine ite2 (λe2=>?_) (λe2=>?_)
  ·have e2':kinds.getD (atN c numbers) 0=0:=of_decide_eq_true e2
   rw[if_pos e2'] at q
   ac_rfl
   refine zbA (s0.seq hN) (zfT a1 a2) ?_
   ac_rfl
   refine⟨by show 2≤sizeLine;decide,λg hg=>?_⟩
   have t1:=zaf hg (.tup [V.int 0,.int 0])
   ac_rfl
   refine⟨by show 2≤sizeLine;decide,λu hu'=>?_⟩
   have t2:=zaf hu' (.tup [V.int (2+c / 96 % 2),.int 1])
   ac_rfl
   refine⟨by show 4≤sizeLine;decide,λt ht=>?_⟩
   exact q _ _ (s0.trans (t1.trans (t2.trans (zaf ht _)))) (zgg (t2 _ _ zad) zad ht)
  ·have e2':¬ kinds.getD (atN c numbers) 0=0:=of_decide_eq_false (Bool.eq_false_iff.mpr e2)
   rw[if_neg e2'] at q
   ac_rfl
   refine zbA (s0.seq hN) (zfT a1 a2) ?_
   ac_rfl
   refine⟨by show 2≤sizeLine;decide,λg hg=>?_⟩
   have t1:=zaf hg (.tup [V.int 0,.int (c / 96 % 4)])
   ac_rfl
   refine⟨by show 2≤sizeLine;decide,λu hu'=>?_⟩
   have t2:=zaf hu' (.tup [V.int (c / 384 % 2),.int (2+c / 768 % 2)])
   ac_rfl
   refine⟨by show 4≤sizeLine;decide,λt ht=>?_⟩
   exact q _ _ (s0.trans (t1.trans (t2.trans (zaf ht _)))) (zgg (t2 _ _ zad) zad ht)
 have e5:¬ c % 8=5:=of_decide_eq_false (Bool.eq_false_iff.mpr e)
 rw[if_neg e5] at q
 ac_rfl
 exact⟨_,_,rfl,hc,λv H1 s1 n1=>q v H1 (s0.trans s1) (n1.back s0)⟩
inductive Q61 (K:Fg) (vs:List V) (H:Hp) (Q:VK) (E:XK):Prop
 | mk (c count:Int) (na ka:Addr) (numbers kinds:List Int):vs=[.int c,.int count,.ref na,.ref ka]→0≤count→SqL K H na (numbers.map V.int)→SqL K H ka (kinds.map V.int)→numbers.length=kinds.length→0<numbers.length→(∀ v H',Same H H'→New H H' (toD (zeb c count numbers kinds)) v→Q v H')→Q61 K vs H Q E
include B Z in
theorem zhc (Q60:Fn P w K mg b8 "_law_other_deed" ["cell","count"] 4 (Q5f K)) (F:Fun K "_law_first_deed" "_law_first_deed" zcL f fd) (m:mg "_law_first_deed"=some (.ref f)):Fn P w K mg b8 "_law_first_deed" ["cell","count","numbers","kinds"] 5 (Q61 K):=by
 refine Fn.of (k:=4) F zbl m (λ_ _ _ _ _ _ us hl=>match us,hl with | [_,_,_,_],_=>rfl) (λvs H Q E h=>?_) (λcdv A outer s H vs Q E hr h=>?_)
 ·first
  | (obtain⟨_,_,_,_,_,_,rfl,_⟩:=h;rfl)
 obtain⟨c,count,na,ka,numbers,kinds,rfl,hc,hN,hK,hl,h0,q⟩:=h
 refine⟨_,(zag (zay (i:=4) zbl.nd rfl (Or.inl rfl) (zaH (k_ix K) (zaE (zae zaa (zae zaa (zaP (zam zaV (zam zaS (pv 0) zaa) (zam (zaL K) (zam zhy zaa zaa) zaa)) zac)))) (zam zaV (zam zaS (pv 0) zaa) zaa) (λ_ _=>rfl)))
   (zag (zay (i:=5) zbl.nd rfl (Or.inl rfl) (zam zaV (zam zaS (pv 0) zaa) zaa))
   (zag (zay (i:=6) zbl.nd rfl (Or.inl rfl) (zam zaV (pv 0) zaa))
   (zag (za0 (zau (k_eq K hr) (pv 6) zaa (zav _)) (zaj (zao (zbn (zae zbr (zab (pv 5) (zbU (zaE (zab (pv 4) (zae zaa (zae zaa (zae zaa (zae zaa (zae zaa (zae zaa (zae zaa (zae zaa zac)))))))))) zac)))))) zax)
   (zag (za0 (zau (k_eq K hr) (pv 6) zaa (zav _)) (zaj (zao (zbn (zae zbr (zab (pv 5) (zbU (zaE (zab (pv 4) (zab (pv 5) (zaP (zam ziG zaa (pv 5)) (zae zaa (zae zaa (zae zaa (zae zaa (zae zaa (zae zaa zac)))))))))) zac)))))) zax)
   (zag (za0 (zau (k_eq K hr) (pv 6) zaa (zav _)) (zaj (zao (zbn (zae zbr (zab (pv 5) (zbU (zaE (zab (pv 4) (zae zaa (zaP (zam zaV (zam zaS (pv 0) zaa) zaa) (zae zaa (zae zaa (zae zaa (zae zaa (zae zaa (zae zaa zac)))))))))) (zaP (zam (zaL K) zaa (zam zaV (zam zaS (pv 0) zaa) zaa)) zac))))))) zax)
   (zag (za0 (zau (k_eq K hr) (pv 6) zaa (zav _)) (zaj (zao (zbn (zae zbr (zab (pv 5) (zaP (zam zaV (zam zaS (pv 0) zaa) zaa) (zaC (zaz (zqW rfl) rfl B.max L2.zkQ (zae zaa (zab (pv 4) zac))) zac))))))) zax)
   (zag (za0 (zau (k_eq K hr) (pv 6) zaa (zav _)) (zaj (zao (zbn (zae zbr (zbU (zaE (zab (pv 4) (zae zaa (zab (pv 5) (zae zaa (zae zaa (zae zaa (zae zaa (zae zaa (zae zaa zac)))))))))) zac))))) zax)
   (zag (za0 (zau (k_eq K hr) (pv 6) zaa (zav _)) (zag (zay (i:=7) zbl.nd rfl (Or.inl rfl) (zam zaV (zam zaS (pv 0) zaa) (zaz (zcD K) rfl B.len L2.boot_len (zab (pv 2) zac))))
   (zag (za0 (zau (k_eq K hr) (zaH (k_ix K) (pv 3) (pv 7) (λ_ _=>rfl)) zaa (zav _)) (zag (zay (i:=8) zbl.nd rfl (Or.inl rfl) (zam zaV (zam zaS (pv 0) zaa) zaa))
   (zag (zay (i:=9) zbl.nd rfl (Or.inl rfl) (zbn (zab (pv 8) (zaP (zam zaV (zam (zaL K) (zam (zaL K) (pv 8) zaa) (zam zaV (zam zaS (pv 0) zaa) zaa)) zaa) zac))))
   (zaj (zao (zbn (zae zbr (zaR (zaH (k_ix K) (pv 2) (pv 7) (λ_ _=>rfl)) (zeK (zbn (zab (pv 5) (zaP (zam zaV (zam zaS (pv 0) zaa) zaa) zac))) (zab (pv 9) zac))))))))) zax)
   (zaj (zao (zbn (zae zbr (zaR (zaH (k_ix K) (pv 2) (pv 7) (λ_ _=>rfl)) (zeK (zbn (zab (pv 5) (zaP (zam zaV (zam zaS (pv 0) zaa) zaa) zac))) (zeK (zbn (zaP (zam zaV (zam zaS (pv 0) zaa) zaa) (zaP (zam (zaL K) zaa (zam zaV (zam zaS (pv 0) zaa) zaa)) zac))) zac))))))))) zax)
   (zaj (zao (zap Q60 hr rfl (zaP (zam zaS (pv 0) zaa) (zab (pv 1) zac)))))))))))))),?_⟩
 unfold zeb at q
 ac_rfl
 refine⟨by show 3≤sizeLine;decide,λp hp=>?_⟩
 have s0:=zaf hp (.lst [V.int 0,.int 1,.int (c / 48 % (1000000000+1))])
 ac_rfl
 refine zbA (SqL.of zad) (v:=.int (zbg c)) (znq c) ?_
 ac_rfl
 refine ite2 (λe=>?_) (λe=>?_)
 ·have e':c % 8=0:=of_decide_eq_true e
  rw[if_pos e'] at q
  ac_rfl
  refine⟨by show 9≤sizeLine;decide,λla hla=>?_⟩
  have t1:=zaf hla (.lst (([zbg c,1,1,0,0,0,0,0,0]:List Int).map V.int))
  ac_rfl
  refine⟨by show 3≤sizeLine;decide,λt ht=>?_⟩
  exact q _ _ (s0.trans (t1.trans (zaf ht _))) (zgO (l:=[zbg c,1,1,0,0,0,0,0,0]) (s0.free hla) zad ht)
 have e0:¬ c % 8=0:=of_decide_eq_false (Bool.eq_false_iff.mpr e)
 rw[if_neg e0] at q
 ac_rfl
 refine ite2 (λe=>?_) (λe=>?_)
 ·have e':c % 8=1:=of_decide_eq_true e
  rw[if_pos e'] at q
  ac_rfl
  refine⟨by show 9≤sizeLine;decide,λla hla=>?_⟩
  have t1:=zaf hla (.lst (([zbg c,c / 24 % 2,1 - c / 24 % 2,0,0,0,0,0,0]:List Int).map V.int))
  ac_rfl
  refine⟨by show 3≤sizeLine;decide,λt ht=>?_⟩
  exact q _ _ (s0.trans (t1.trans (zaf ht _))) (zgO (l:=[zbg c,c / 24 % 2,1 - c / 24 % 2,0,0,0,0,0,0]) (s0.free hla) zad ht)
 have e1:¬ c % 8=1:=of_decide_eq_false (Bool.eq_false_iff.mpr e)
 rw[if_neg e1] at q
 ac_rfl
 refine ite2 (λe=>?_) (λe=>?_)
 ·have e':c % 8=2:=of_decide_eq_true e
  rw[if_pos e'] at q
  ac_rfl
  refine⟨by show 9≤sizeLine;decide,λla hla=>?_⟩
  have t1:=zaf hla (.lst (([zbg c,1,c / 48 % 2,0,0,0,0,0,0]:List Int).map V.int))
  ac_rfl
  refine⟨by show 4≤sizeLine;decide,λt ht=>?_⟩
  exact q _ _ (s0.trans (t1.trans (zaf ht _))) (zk5 (l:=[zbg c,1,c / 48 % 2,0,0,0,0,0,0]) (s0.free hla) zad ht)
 have e2:¬ c % 8=2:=of_decide_eq_false (Bool.eq_false_iff.mpr e)
 rw[if_neg e2] at q
 ac_rfl
 refine ite2 (λe=>?_) (λe=>?_)
 ·have e':c % 8=3:=of_decide_eq_true e
  rw[if_pos e'] at q
  ac_rfl
  refine zq6 ?_
  ac_rfl
  refine⟨by show 4≤sizeLine;decide,λt ht=>?_⟩
  exact q _ _ (s0.trans (zaf ht _)) (zk6 ht)
 have e3:¬ c % 8=3:=of_decide_eq_false (Bool.eq_false_iff.mpr e)
 rw[if_neg e3] at q
 ac_rfl
 refine ite2 (λe=>?_) (λe=>?_)
 ·have e':c % 8=4:=of_decide_eq_true e
  rw[if_pos e'] at q
  ac_rfl
  refine⟨by show 9≤sizeLine;decide,λla hla=>?_⟩
  have t1:=zaf hla (.lst (([zbg c,1,c / 24 % 2,0,0,0,0,0,0]:List Int).map V.int))
  ac_rfl
  refine⟨by show 2≤sizeLine;decide,λt ht=>?_⟩
  exact q _ _ (s0.trans (t1.trans (zaf ht _))) (zk7 (l:=[zbg c,1,c / 24 % 2,0,0,0,0,0,0]) (s0.free hla) zad ht)
 have e4:¬ c % 8=4:=of_decide_eq_false (Bool.eq_false_iff.mpr e)
 rw[if_neg e4] at q
 ac_rfl
 refine ite2 (λe=>?_) (λe=>?_)
 ·have e':c % 8=5:=of_decide_eq_true e
  rw[if_pos e'] at q
  ac_rfl
  refine zcZ (.inl (s0.seq hN)) ?_
  rw[zlm]
  have hlp:(0:Int)<(numbers.length:Int):=by omega
  ac_rfl
  have a1:=Int.emod_nonneg (c / 48) (show ((numbers.length:Nat):Int)≠0 by omega)
  have a2:=Int.emod_lt_of_pos (c / 48) hlp
  refine zbA (s0.seq hK) (zfT a1 (by omega)) ?_
  ac_rfl
  refine ite2 (λe2=>?_) (λe2=>?_)
  ·have e2':kinds.getD (atN c numbers) 0=0:=of_decide_eq_true e2
   rw[if_pos e2'] at q
   ac_rfl
   refine⟨by show 2≤sizeLine;decide,λu hu'=>?_⟩
   have t1:=zaf hu' (.tup [V.int (c / 192 % 4),.int ((c / 192 % 4+1+c / 768 % 3) % 4)])
   ac_rfl
   refine zbA ((s0.trans t1).seq hN) (zfT a1 a2) ?_
   ac_rfl
   refine⟨by show 2≤sizeLine;decide,λg hg=>?_⟩
   have t2:=zaf hg (.tup [V.int (c / 24 % 2),.int (c / 96 % 2)])
   ac_rfl
   refine⟨by show 4≤sizeLine;decide,λt ht=>?_⟩
   exact q _ _ (s0.trans (t1.trans (t2.trans (zaf ht _)))) (zgg zad (t2 _ _ zad) ht)
  ·have e2':¬ kinds.getD (atN c numbers) 0=0:=of_decide_eq_false (Bool.eq_false_iff.mpr e2)
   rw[if_neg e2'] at q
   ac_rfl
   refine zbA (s0.seq hN) (zfT a1 a2) ?_
   ac_rfl
   refine⟨by show 2≤sizeLine;decide,λg hg=>?_⟩
   have t1:=zaf hg (.tup [V.int (c / 24 % 2),.int (c / 96 % 4)])
   ac_rfl
   refine⟨by show 2≤sizeLine;decide,λu hu'=>?_⟩
   have t2:=zaf hu' (.tup [V.int (c / 384 % 2),.int (2+c / 768 % 2)])
   ac_rfl
   refine⟨by show 4≤sizeLine;decide,λt ht=>?_⟩
   exact q _ _ (s0.trans (t1.trans (t2.trans (zaf ht _)))) (zgg (t2 _ _ zad) zad ht)
 have e5:¬ c % 8=5:=of_decide_eq_false (Bool.eq_false_iff.mpr e)
 rw[if_neg e5] at q
 ac_rfl
 exact⟨_,_,rfl,hc,λv H1 s1 n1=>q v H1 (s0.trans s1) (n1.back s0)⟩
def zhd (K:Fg):Sp:=λvs H Q _=>∃ i:Int,vs=[.int i]∧0≤i∧∀ v H',Same H H'→New H H' (nums (zah i)) v→Q v H'
theorem zd9 {H:Hp}{Q:VK}{E:XK}{i:Int}(h:0≤i) (q:∀ v H',Same H H'→New H H' (nums (zah i)) v→Q v H'):zhd K [.int i] H Q E:=⟨i,rfl,h,q⟩
include B Z in
theorem znr (F:Fun K "_law_bare" "_law_bare" ze3 f fd) (m:mg "_law_bare"=some (.ref f)):Fn P w K mg b8 "_law_bare" ["i"] 1 (zhd K):=by
 refine Fn.of (k:=0) F zna m (λ_ _ _ _ _ _ us hl=>match us,hl with | [_],_=>rfl) (λvs H Q E h=>?_) (λcdv A outer s H vs Q E hr h=>?_)
 ·first
  | (obtain⟨_,rfl,_⟩:=h;rfl)
 obtain⟨i,rfl,h0,q⟩:=h
 refine⟨_,(zaj (zao (za1 rfl (COk.m (sc0:=zai ze3) (N:=["i"]) (N':=["i","k"]) (ms:=[false,true])) (zbJ rfl B.range (zae zaa zac)) (λ_ _ _ _ _=>(zas (i:=1) (ndS (N:=["i","k"])) rfl (Or.inl rfl))) (λ_ _ _ _ _=>zaG) (λ_ _ _ _ _=>(zcR c_int rfl B.int L2.zn3 (zrm (zbh (k_eq K hr) (pv 1) (zam (zaL K) (pv 0) zaa) (zav _)) zac)))))),?_⟩
 ac_rfl
 refine zc0 (by decide) (by decide) ?_
 refine zaK (n:=9) zcC ((zah i).map D.int) (by simp[zah]) (by decide) (λj x d H1 R hj hd s1 hx hR=>?_) (λv H1 s1 n1=>?_)
 ·subst hx
  rw[←zoh h0,List.map_map] at hd
  have hd':=zem hd
  subst hd'
  ac_rfl
  refine zq7 ?_
  exact hR _ _ (Same.refl _) New.int
 ·ac_rfl
  exact q _ _ s1 n1
inductive Q65 (K:Fg) (vs:List V) (H:Hp) (Q:VK) (E:XK):Prop
 | mk (kind:Int) (ca na ka:Addr) (cells numbers kinds:List Int):vs=[.int kind,.ref ca,.ref na,.ref ka]→SqL K H ca (cells.map V.int)→SqL K H na (numbers.map V.int)→SqL K H ka (kinds.map V.int)→numbers.length=kinds.length→0<numbers.length→cells.length≤8→(∀ v H',Same H H'→New H H' (crD (crK kind cells numbers kinds)) v→Q v H')→Q65 K vs H Q E
include B Z in
theorem zfZ (Q64:Fn P w K mg b8 "_law_second_deed" ["cell","count","numbers","kinds"] 5 (Q63 K)) (Q62:Fn P w K mg b8 "_law_first_deed" ["cell","count","numbers","kinds"] 5 (Q61 K)) (Q5d:Fn P w K mg b8 "_law_bare" ["i"] 1 (zhd K)) (F:Fun K "_law_sworn_parts" "_law_sworn_parts" za6 f fd) (m:mg "_law_sworn_parts"=some (.ref f)):Fn P w K mg b8 "_law_sworn_parts" ["kind","cells","numbers","kinds"] 6 (Q65 K):=by
 refine Fn.of (k:=5) F zbe m (λ_ _ _ _ _ _ us hl=>match us,hl with | [_,_,_,_],_=>rfl) (λvs H Q E h=>?_) (λcdv A outer s H vs Q E hr h=>?_)
 ·first
  | (obtain⟨_,_,_,_,_,_,_,rfl,_⟩:=h;rfl)
 obtain⟨kind,ca,na,ka,cells,numbers,kinds,rfl,hC,hN,hK,hl,h0,c8,q⟩:=h
 refine⟨_,(zag (zay (i:=4) zbe.nd rfl (Or.inr rfl) (zaz (zcD K) rfl B.len L2.boot_len (zab (pv 1) zac)))
   (zag (za0 (zau (k_eq K hr) (pv 0) zaa (zav _)) (zag (zbZ (i:=5) zbe.nd rfl rfl rfl (COk.m (sc0:=zai za6) (N:=["kind","cells","numbers","kinds","count","deeds","needs","notes"]) (N':=["kind","cells","numbers","kinds","count","deeds","needs","notes","cell"]) (ms:=[false,false,false,false,false,false,false,false,true])) (zaX K (pv 1)) (λ_ _ _ _ _=>(zas (i:=8) (ndS (N:=["kind","cells","numbers","kinds","count","deeds","needs","notes","cell"])) rfl (Or.inl rfl))) (λ_ _ _ _ _=>zaG) (λ_ _ _ _ _=>(zap Q62 hr rfl (zab (pv 8) (zab (pv 4) (zab (pv 2) (zab (pv 3) zac)))))))
   (zag (zay (i:=6) zbe.nd rfl (Or.inl rfl) (zaE (zaC (zap Q5d hr rfl (zae zaa zac)) (zaC (zap Q5d hr rfl (zae zaa zac)) zac))))
   (zag (zbZ (i:=7) zbe.nd rfl rfl rfl (COk.m (sc0:=zai za6) (N:=["kind","cells","numbers","kinds","count","deeds","needs","notes"]) (N':=["kind","cells","numbers","kinds","count","deeds","needs","notes","cell"]) (ms:=[false,false,false,false,false,false,false,false,true])) (zaX K (pv 1)) (λ_ _ _ _ _=>(zas (i:=8) (ndS (N:=["kind","cells","numbers","kinds","count","deeds","needs","notes","cell"])) rfl (Or.inl rfl))) (λ_ _ _ _ _=>zaG) (λ_ _ _ _ _=>(zaE (zaC (zap Q5d hr rfl (zae zaa zac)) (zaC (zap Q5d hr rfl (zae zaa zac)) zac)))))
   (zaj (zao (zaE (zab (pv 6) (zbU (zaE (zaC (zap Q5d hr rfl (zae zaa zac)) (zaC (zap Q5d hr rfl (zae zaa zac)) zac))) (zab (pv 5) (zab (pv 7) zac)))))))))) zax)
   (zag (zbZ (i:=5) zbe.nd rfl rfl rfl (COk.m (sc0:=zai za6) (N:=["kind","cells","numbers","kinds","count","deeds","needs","notes"]) (N':=["kind","cells","numbers","kinds","count","deeds","needs","notes","cell"]) (ms:=[false,false,false,false,false,false,false,false,true])) (zaX K (pv 1)) (λ_ _ _ _ _=>(zas (i:=8) (ndS (N:=["kind","cells","numbers","kinds","count","deeds","needs","notes","cell"])) rfl (Or.inl rfl))) (λ_ _ _ _ _=>zaG) (λ_ _ _ _ _=>(zap Q64 hr rfl (zab (pv 8) (zab (pv 4) (zab (pv 2) (zab (pv 3) zac)))))))
   (zag (zbZ (i:=7) zbe.nd rfl rfl rfl (COk.m (sc0:=zai za6) (N:=["kind","cells","numbers","kinds","count","deeds","needs","notes"]) (N':=["kind","cells","numbers","kinds","count","deeds","needs","notes","cell"]) (ms:=[false,false,false,false,false,false,false,false,true])) (zaX K (pv 1)) (λ_ _ _ _ _=>(zas (i:=8) (ndS (N:=["kind","cells","numbers","kinds","count","deeds","needs","notes","cell"])) rfl (Or.inl rfl))) (λ_ _ _ _ _=>zaG) (λ_ _ _ _ _=>(zaE (zbU (zaE (zae zaa (zae zaa (zae zaa (zae zaa (zae zaa (zfW (zdZ zcp zaa) (zae zaa (zae zaa (zae zaa zac)))))))))) (zaC (zap Q5d hr rfl (zae zaa zac)) zac)))))
   (zaj (zao (zaE (zbU (zaE (zaC (zap Q5d hr rfl (zae zaa zac)) zac)) (zbU (zaE (zbU (zaE (zae zaa (zae zaa (zae zaa (zae zaa (zae zaa (zfW (zdZ zcp zaa) (zae zaa (zae zaa (zae zaa zac)))))))))) (zaC (zap Q5d hr rfl (zae zaa zac)) zac))) (zab (pv 5) (zab (pv 7) zac))))))))))),?_⟩
 unfold crD crK at q
 dsimp only at q
 walk_at "q"
 nofun
 refine zcZ (.inl hC) ?_
 rw[zlm]
 nofun
 walk_at "q"
 nofun
 refine ite2 (λe=>?_) (λe=>?_)
 ·have e':kind=0:=of_decide_eq_true e
  have eo:zbM kind=([zah 4,zah 5],[zah 6,zah 7]):=by unfold zbM;rw[if_pos e']
  have en:zeM kind=[zah 0,zah 1]:=by unfold zeM;rw[if_pos e']
  have ed:(cells.map λc=>zie kind c cells.length numbers kinds)=cells.map λc=>zeb c cells.length numbers kinds:=List.map_congr_left λc _=>by unfold zie;rw[if_pos e']
  rw[eo,en,ed] at q
  walk_at "q"
  nofun
  refine⟨ca,rfl,⟨_,hC⟩,?_⟩
  refine zaK (zaO hC) ((cells.map λc=>zeb c cells.length numbers kinds).map toD) (by simp) (zan (by rw[zlm];omega)) (λj x d H1 R hj hd s1 hx hR=>?_) (λv3 H1 s1 n1=>?_)
  ·rw[zgm] at hx
   obtain⟨c,hc,rfl⟩:=zme.mp hx
   rw[zgm,zgm,hc] at hd
   cases hd
   nofun
   exact⟨c,_,na,ka,numbers,kinds,rfl,by omega,s1.seq hN,s1.seq hK,hl,h0,λv H2 s2 n2=>hR v H2 s2 n2⟩
  nofun
  walk_at "q"
  nofun
  refine zd9 (by decide) λu1 H2 s2 n2=>?_
  nofun
  refine zd9 (by decide) λu2 H3 s3 n3=>?_
  nofun
  refine⟨(by walk_at "sm"),λp1 hp1=>?_⟩
  have k1:=zgP s2 n2 s3 n3 hp1
  have t1:=s2.trans (s3.trans (zaf hp1 (.lst [u1,u2])))
  generalize (upd H3 p1 (.lst [u1,u2]))=H4 at k1 t1
  nofun
  walk_at "q"
  nofun
  have t01:=s1.trans t1
  refine⟨ca,rfl,⟨_,t01.seq hC⟩,?_⟩
  refine zaK (zaO (t01.seq hC)) ((cells.map λ_=>[zah 0,zah 1]).map zaF) (by simp) (zan (by rw[zlm];omega)) (λj x d H5 R hj hd s5 hx hR=>?_) (λv4 H5 s5 n5=>?_)
  ·rw[zgm,zgm] at hd
   obtain⟨b,hb,rfl⟩:=zme.mp hd
   obtain⟨c,hc,rfl⟩:=zme.mp hb
   nofun
   refine zd9 (by decide) λu3 H6 s6 n6=>?_
   nofun
   refine zd9 (by decide) λu4 H7 s7 n7=>?_
   nofun
   exact⟨(by walk_at "sm"),λp hp=>hR _ _ (s6.trans (s7.trans (zaf hp _))) (zgP s6 n6 s7 n7 hp)⟩
  nofun
  refine zd9 (by decide) λu5 H6 s6 n6=>?_
  nofun
  refine zd9 (by decide) λu6 H7 s7 n7=>?_
  nofun
  refine⟨(by walk_at "sm"),λp2 hp2=>?_⟩
  have k2:=zgP s6 n6 s7 n7 hp2
  have t2:=s6.trans (s7.trans (zaf hp2 (.lst [u5,u6])))
  generalize (upd H7 p2 (.lst [u5,u6]))=H8 at k2 t2
  nofun
  refine⟨(by walk_at "sm"),λp3 hp3=>?_⟩
  have w1:News H H1 [.lst ((cells.map λc=>zeb c cells.length numbers kinds).map toD)] [v3]:=News.nil.snoc (H1:=H) (Same.refl H) s1 n1
  have w2:=w1.snoc s1 t1 k1
  have w3:=w2.snoc t01 s5 n5
  have w4:=w3.snoc (t01.trans s5) t2 k2
  have st:=(t01.trans s5).trans t2
  exact q _ _ (st.trans (zaf hp3 _)) ((News.perm4 w4).lst st hp3)
 ·have e':¬ kind=0:=of_decide_eq_false (Bool.eq_false_iff.mpr e)
  have eo:zbM kind=([zah 4],[[0,0,0,0,0,-1,0,1,0],zah 6]):=by unfold zbM;rw[if_neg e']
  have en:zeM kind=[e1,zah 4]:=by unfold zeM;rw[if_neg e']
  have ed:(cells.map λc=>zie kind c cells.length numbers kinds)=cells.map λc=>zc3 c cells.length numbers kinds:=List.map_congr_left λc _=>by unfold zie;rw[if_neg e']
  rw[eo,en,ed] at q
  nofun
  walk_at "q"
  nofun
  refine⟨ca,rfl,⟨_,hC⟩,?_⟩
  refine zaK (zaO hC) ((cells.map λc=>zc3 c cells.length numbers kinds).map toD) (by simp) (zan (by rw[zlm];omega)) (λj x d H1 R hj hd s1 hx hR=>?_) (λv3 H1 s1 n1=>?_)
  ·rw[zgm] at hx
   obtain⟨c,hc,rfl⟩:=zme.mp hx
   rw[zgm,zgm,hc] at hd
   cases hd
   nofun
   exact⟨c,_,na,ka,numbers,kinds,rfl,by omega,s1.seq hN,s1.seq hK,hl,h0,λv H2 s2 n2=>hR v H2 s2 n2⟩
  nofun
  walk_at "q"
  nofun
  refine⟨ca,rfl,⟨_,s1.seq hC⟩,?_⟩
  refine zaK (zaO (s1.seq hC)) ((cells.map λ_=>[e1,zah 4]).map zaF) (by simp) (zan (by rw[zlm];omega)) (λj x d H5 R hj hd s5 hx hR=>?_) (λv4 H5 s5 n5=>?_)
  ·rw[zgm,zgm] at hd
   obtain⟨b,hb,rfl⟩:=zme.mp hd
   obtain⟨c,hc,rfl⟩:=zme.mp hb
   nofun
   refine⟨(by walk_at "sm"),λla hla=>?_⟩
   have t6:=zaf hla (.lst (e1.map V.int))
   have n6:New H5 (upd H5 la (.lst (e1.map V.int))) (nums e1) (.ref la):=New.iif.mpr ⟨la,rfl,hla,zad⟩
   nofun
   refine zd9 (by decide) λu4 H7 s7 n7=>?_
   nofun
   exact⟨(by walk_at "sm"),λp hp=>hR _ _ (t6.trans (s7.trans (zaf hp _))) (zgP t6 n6 s7 n7 hp)⟩
  have s15:=s1.trans s5
  nofun
  refine zd9 (by decide) λu1 H6 s6 n6=>?_
  nofun
  refine⟨(by walk_at "sm"),λp1 hp1=>?_⟩
  have k1:=zpW s6 n6 hp1
  have t1:=s6.trans (zaf hp1 (.lst [u1]))
  generalize (upd H6 p1 (.lst [u1]))=H7 at k1 t1
  nofun
  refine⟨(by walk_at "sm"),λla hla=>?_⟩
  have t8:=zaf hla (.lst (([0,0,0,0,0,-1,0,1,0]:List Int).map V.int))
  have n8:New H7 (upd H7 la (.lst (([0,0,0,0,0,-1,0,1,0]:List Int).map V.int))) (nums [0,0,0,0,0,-1,0,1,0]) (.ref la):=New.iif.mpr ⟨la,rfl,hla,zad⟩
  nofun
  refine zd9 (by decide) λu2 H9 s9 n9=>?_
  nofun
  refine⟨(by walk_at "sm"),λp2 hp2=>?_⟩
  have k2:=zgP t8 n8 s9 n9 hp2
  have t2:=t8.trans (s9.trans (zaf hp2 (.lst [.ref la,u2])))
  generalize (upd H9 p2 (.lst [.ref la,u2]))=Ha at k2 t2
  nofun
  refine⟨(by walk_at "sm"),λp3 hp3=>?_⟩
  have w1:News H H1 [.lst ((cells.map λc=>zc3 c cells.length numbers kinds).map toD)] [v3]:=News.nil.snoc (H1:=H) (Same.refl H) s1 n1
  have w2:=w1.snoc s1 s5 n5
  have w3:=w2.snoc s15 t1 k1
  have w4:=w3.snoc (s15.trans t1) t2 k2
  have st:=(s15.trans t1).trans t2
  exact q _ _ (st.trans (zaf hp3 _)) ((News.perm4' w4).lst st hp3)
def zdl (ns:List Int) (start size:Int) (k:Nat):List Int:=(List.range (1+mix (cell ns (start+2)) (0+(k:Int)) size).toNat).map λ(i:Nat)=>cell ns (start+3+size * (0+(k:Int))+(0+(i:Int)))+48271 * (0+(i:Int))
def zkz (numbers kinds:List Int) (cells:Nat→List Int) (k:Nat):D:=.tup [.int (numbers.getD k 0),crD (crOf numbers kinds cells k)]
theorem New.pairD {H H1:Hp}{n:Int}{d:D}{v:V}{t:Addr}(k:New H H1 d v) (ht:H1 t=none):New H (upd H1 t (.tup [.int n,v])) (.tup [.int n,d]) (.ref t):=by
 obtain⟨fp,h1,h2,h3⟩:=k
 have h1':=RepF.sq (zaf ht (.tup [.int n,v])).sq _ h1
 have:=zak.cint (i:=n) (zak.cany h1' zak.nil)
 rw[List.append_nil] at this
 exact New.tup this h2 h3 zad
inductive Q67 (K:Fg) (vs:List V) (H:Hp) (Q:VK) (E:XK):Prop
 | mk (a:Addr) (start many size:Int) (ns:List Int):vs=[.ref a,.int start,.int many,.int size]→SqL K H a (ns.map V.int)→0≤start→1≤many→many≤3→1≤size→size≤8→(∀ v H' numbers kinds (cells:Nat→List Int),Same H H'→HPs many size numbers kinds cells→New H H' (.lst ((List.range many.toNat).map (zkz numbers kinds cells))) v→Q v H')→Q67 K vs H Q E
include B Z in
theorem zhe (Q5a:Fn P w K mg b8 "_law_mix" ["cell","k","many"] 1 (Q59 K)) (Q58:Fn P w K mg b8 "_law_cell_at" ["script","k"] 1 (Q57 K)) (Q66:Fn P w K mg b8 "_law_sworn_parts" ["kind","cells","numbers","kinds"] 6 (Q65 K)) (F:Fun K "_law_hall_parts" "_law_hall_parts" zbN f fd) (m:mg "_law_hall_parts"=some (.ref f)):Fn P w K mg b8 "_law_hall_parts" ["script","start","many","size"] 7 (Q67 K):=by
 refine Fn.of (k:=6) F zaZ m (λ_ _ _ _ _ _ us hl=>match us,hl with | [_,_,_,_],_=>rfl) (λvs H Q E h=>?_) (λcdv A outer s H vs Q E hr h=>?_)
 ·first
  | (obtain⟨_,_,_,_,_,rfl,_⟩:=h;rfl)
 obtain⟨a,start,many,size,ns,rfl,hS,st0,m1,m3,z1,z8,q⟩:=h
 refine⟨_,(zag (zay (i:=4) zaZ.nd rfl (Or.inl rfl) (zaE zac))
   (zag (zds PassesOwn.never rfl (zbJ rfl B.range (zab (pv 2) zac)) (zas (i:=5) zaZ.nd rfl (Or.inr rfl)) (zag (zay (i:=6) zaZ.nd rfl (Or.inl rfl) (zap Q5a hr rfl (zaC (zap Q58 hr rfl (zab (pv 0) (zab (pv 1) zac))) (zab (pv 5) (zae zaa zac)))))
   (zag (znC PassesOwn.never (zau (k_in K) (pv 6) (pv 4) rfl) (zaj (zay (i:=6) zaZ.nd rfl (Or.inl rfl) (zam zaV (zam (zaL K) (pv 6) zaa) zaa))))
   (zaj (zbc (znL PySem.F.plainAttrs_list PySem.F.slot_list_append PySem.F.type_list_append zgq (pv 4) (zab (pv 6) zac)))))))
   (zag (zbZ (i:=7) zaZ.nd rfl rfl rfl (COk.m (sc0:=zai zbN) (N:=["script","start","many","size","numbers","k","number","kinds","found","count","cells"]) (N':=["script","start","many","size","numbers","k","number","kinds","found","count","cells"]) (ms:=[false,false,false,false,false,true,false,false,false,false,false])) (zbJ rfl B.range (zab (pv 2) zac)) (λ_ _ _ _ _=>(zas (i:=5) (ndS (N:=["script","start","many","size","numbers","k","number","kinds","found","count","cells"])) rfl (Or.inl rfl))) (λ_ _ _ _ _=>zaG) (λ_ _ _ _ _=>(zap Q5a hr rfl (zaC (zap Q58 hr rfl (zab (pv 0) (zaP (zam (zaL K) (pv 1) zaa) zac))) (zab (pv 5) (zae zaa zac))))))
   (zag (zay (i:=8) zaZ.nd rfl (Or.inl rfl) (zaE zac))
   (zag (zds PassesOwn.never rfl (zbJ rfl B.range (zab (pv 2) zac)) (zas (i:=5) zaZ.nd rfl (Or.inr rfl)) (zag (zay (i:=9) zaZ.nd rfl (Or.inl rfl) (zam (zaL K) zaa (zap Q5a hr rfl (zaC (zap Q58 hr rfl (zab (pv 0) (zaP (zam (zaL K) (pv 1) zaa) zac))) (zab (pv 5) (zab (pv 3) zac))))))
   (zag (zbZ (i:=10) zaZ.nd rfl rfl rfl (COk.m (sc0:=zai zbN) (N:=["script","start","many","size","numbers","k","number","kinds","found","count","cells"]) (N':=["script","start","many","size","numbers","k","number","kinds","found","count","cells","i"]) (ms:=[false,false,false,false,false,false,false,false,false,false,false,true])) (zbJ rfl B.range (zab (pv 9) zac)) (λ_ _ _ _ _=>(zas (i:=11) (ndS (N:=["script","start","many","size","numbers","k","number","kinds","found","count","cells","i"])) rfl (Or.inl rfl))) (λ_ _ _ _ _=>zaG) (λ_ _ _ _ _=>(zam (zaL K) (zap Q58 hr rfl (zab (pv 0) (zaP (zam (zaL K) (zam (zaL K) (zam (zaL K) (pv 1) zaa) (zam zbT (pv 3) (pv 5))) (pv 11)) zac))) (zam zbT zaa (pv 11)))))
   (zaj (zbc (znL PySem.F.plainAttrs_list PySem.F.slot_list_append PySem.F.type_list_append zgq (pv 8) (zeK (zbn (zaR (zaH (k_ix K) (pv 4) (pv 5) (λ_ _=>rfl)) (zaC (zap Q66 hr rfl (zaR (zaH (k_ix K) (pv 7) (pv 5) (λ_ _=>rfl)) (zab (pv 10) (zab (pv 4) (zab (pv 7) zac))))) zac))) zac)))))))
   (zaj (zao (pv 8)))))))),?_⟩
 walk_at "q"
 nofun
 refine⟨(by walk_at "sm"),λna na0=>?_⟩
 have s0:=zaf na0 (.lst [])
 have hna0:(upd H na (.lst [])) na=some (.lst (([]:List Int).map V.int)):=zad
 generalize (upd H na (.lst []))=H0 at s0 hna0
 nofun
 walk_at "q"
 nofun
 refine zc0 (by omega) (by omega) ?_
 refine zgA (λi σ H2=>E3 λx y nn=>A6 (σ=[some (.ref a),some (.int start),some (.int many),some (.int size),some (.ref na),x,y,none,none,none,none]) (Same H H2) (H2 na=some (.lst ((nn:List Int).map V.int))) (nn.length=i) (nn.Nodup) (∀ n∈nn,0≤n∧n<100))
  ⟨none,none,[],rfl,s0,hna0,rfl,List.nodup_nil,λn hn=>by cases hn⟩ ?_ ?_
 ·rintro i σ H2 hi ⟨x,y,nn,rfl,s2,hna,ln,nnd,nb⟩
  have hi':i<many.toNat:=hi
  nofun
  walk_at "q"
  nofun
  refine zfS (s2.seq hS) st0 ?_
  nofun
  refine zkx (by decide) ?_
  have b1:=zb0 (c:=cell ns start) (k:=0+(i:Int)) (m:=100) (by decide)
  have b2:=zfd (c:=cell ns start) (k:=0+(i:Int)) (m:=100) (by decide)
  generalize mix (cell ns start) (0+(i:Int)) 100=sn at b1 b2
  nofun
  walk_at "q"
  refine⟨λm σ' H'=>∃ j:Nat,m=100 - j∧j≤10∧σ'=[some (.ref a),some (.int start),some (.int many),some (.int size),some (.ref na),some (.int (0+(i:Int))),some (.int ((sn+(j:Int)) % 100)),none,none,none,none]∧H'=H2∧∀ x∈zdy sn j,x∈nn,⟨100,0,rfl,by decide,by rw[show (sn+((0:Nat):Int)) % 100=sn by omega];rfl,rfl,λx hx=>by simp[zdy] at hx⟩,?_⟩
  rintro m σ' H' ⟨j,rfl,j10,rfl,rfl,hj⟩
  nofun
  refine zry (SqL.of hna) ?_
  by_cases hin:(sn+(j:Int)) % 100∈nn
  ·rw[decide_eq_true hin]
   nofun
   have st:∀ x∈zdy sn (j+1),x∈nn:=λx hx=>by
    unfold zdy at hx
    rw[List.range_succ,List.map_append] at hx
    rcases zma.mp hx with z | z
    ·exact hj x z
    ·rw[List.map_singleton,zms] at z
     rw[z];exact hin
   have few:=zmZ (j:=j+1) (by omega) st
   refine⟨λσ2 Hx=>σ2=[some (.ref a),some (.int start),some (.int many),some (.int size),some (.ref na),some (.int (0+(i:Int))),some (.int (((sn+(j:Int)) % 100+1) % 100)),none,none,none,none]∧Hx=H',λσ2 Hx ⟨e1,e2⟩=>⟨100 - (j+1),by omega,j+1,rfl,by omega,by rw[e1,show ((sn+(j:Int)) % 100+1) % 100=(sn+((j+1:Nat):Int)) % 100 by omega],e2,st⟩,?_⟩
   nofun
   exact⟨rfl,rfl⟩
  ·rw[decide_eq_false hin]
   nofun
   refine⟨tyL hna,?_⟩
   nofun
   refine zrg hna (zbs (by rw[zlm];omega)) ?_
   nofun
   refine⟨_,_,nn++[(sn+(j:Int)) % 100],rfl,s2.put na0,by rw[zad,List.map_append];rfl,by rw[List.length_append,ln];rfl,zj1 nnd hin,λn hn=>?_⟩
   rcases zma.mp hn with z | z
   ·exact nb n z
   ·rw[zms.mp z];omega
 rintro σ H1 ⟨x5,x6,numbers,rfl,s1,hna,ln,nnd,nb⟩
 nofun
 walk_at "q"
 nofun
 refine zc0 (by omega) (by omega) ?_
 refine zaK zcC (((List.range many.toNat).map λ(k:Nat)=>mix (cell ns (start+1)) (0+(k:Int)) 2).map D.int) (by simp) (zan (by omega)) (λj x d H2 R hj hd s2 hx hR=>?_) (λv H2 s2 n2=>?_)
 ·subst hx
  rw[List.map_map] at hd
  have hd':=zem hd
  subst hd'
  nofun
  refine zfS ((s1.trans s2).seq hS) (by omega) ?_
  nofun
  refine zkx (by decide) ?_
  exact hR _ _ (Same.refl _) New.int
 obtain⟨ka,rfl,ka0,hka⟩:=New.iif.mp n2
 have hkn:(List.map (λ(k:Nat)=>mix (cell ns (start+1)) (0+(k:Int)) 2) (List.range many.toNat)).length=many.toNat:=by simp
 have hkb:∀ k∈List.map (λ(k:Nat)=>mix (cell ns (start+1)) (0+(k:Int)) 2) (List.range many.toNat),k=0∨k=1:=λk hk=>by
  obtain⟨i,_,rfl⟩:=zmm.mp hk
  have b1:=zb0 (c:=cell ns (start+1)) (k:=0+(i:Int)) (m:=2) (by decide)
  have b2:=zfd (c:=cell ns (start+1)) (k:=0+(i:Int)) (m:=2) (by decide)
  omega
 generalize List.map (λ(k:Nat)=>mix (cell ns (start+1)) (0+(k:Int)) 2) (List.range many.toNat)=kinds at hka hkn hkb
 have hna2:=s2 _ _ hna
 have s02:=s1.trans s2
 have hcl:∀ i,1≤(zdl ns start size i).length∧(zdl ns start size i).length≤size.toNat:=λi=>by
  have b1:=zb0 (c:=cell ns (start+2)) (k:=0+(i:Int)) (m:=size) (by omega)
  have b2:=zfd (c:=cell ns (start+2)) (k:=0+(i:Int)) (m:=size) (by omega)
  unfold zdl
  rw[zlm,List.length_range]
  omega
 have HP:HPs many size numbers kinds (zdl ns start size):=⟨ln,hkn,nnd,nb,hkb,hcl⟩
 have q:=q
 nofun
 walk_at "q"
 nofun
 refine⟨(by walk_at "sm"),λfa fa0=>?_⟩
 have s3:=zaf fa0 (.lst [])
 have hfa:(upd H2 fa (.lst [])) fa=some (.lst []):=zad
 have f3:Free H (upd H2 fa (.lst [])):=s02.fr.trans zeE
 generalize (upd H2 fa (.lst []))=H3 at s3 hfa f3
 nofun
 walk_at "q"
 nofun
 refine zc0 (by omega) (by omega) ?_
 refine zgA (λi σ H4=>E5 λy5 y6 y9 y10 vs=>A4 (σ=[some (.ref a),some (.int start),some (.int many),some (.int size),some (.ref na),y5,y6,some (.ref ka),some (.ref fa),y9,y10]) (Same H2 H4) (Free H H4) (Acc H fa H4 ((List.range i).map (zkz numbers kinds (zdl ns start size))) vs))
  ⟨_,_,none,none,[],rfl,s3,f3,Acc.start hfa⟩ ?_ ?_
 ·rintro i σ H4 hi ⟨y5,y6,y9,y10,vs,rfl,s4,f4,ac⟩
  have hi':i<many.toNat:=hi
  have b1:=zb0 (c:=cell ns (start+2)) (k:=0+(i:Int)) (m:=size) (by omega)
  have b2:=zfd (c:=cell ns (start+2)) (k:=0+(i:Int)) (m:=size) (by omega)
  have s04:=s02.trans s4
  nofun
  walk_at "q"
  nofun
  refine zfS (s04.seq hS) (by omega) ?_
  nofun
  refine zkx (by omega) ?_
  nofun
  walk_at "q"
  nofun
  refine zc0 (by omega) (by omega) ?_
  refine zaK zcC ((zdl ns start size i).map D.int) (by simp[zdl]) (zan (by omega)) (λj x d H5 R hj hd s5 hx hR=>?_) (λv H5 s5 n5=>?_)
  ·subst hx
   unfold zdl at hd
   rw[List.map_map] at hd
   have hd':=zem hd
   subst hd'
   have pos:0≤size * (0+(i:Int)):=Int.mul_nonneg (by omega) (by omega)
   nofun
   refine zfS ((s04.trans s5).seq hS) (by omega) ?_
   nofun
   exact hR _ _ (Same.refl _) New.int
  obtain⟨ca,rfl,ca0,hca⟩:=New.iif.mp n5
  have s25:=s4.trans s5
  nofun
  refine⟨tyL (s5 _ _ ac.get),?_⟩
  nofun
  refine zbA (SqL.of (s25 _ _ hna2)) (zfT (by omega) (by omega)) ?_
  nofun
  refine zbA (SqL.of (s25 _ _ hka)) (zfT (by omega) (by omega)) ?_
  nofun
  refine⟨_,ca,na,ka,zdl ns start size i,numbers,kinds,rfl,SqL.of hca,SqL.of (s25 _ _ hna2),SqL.of (s25 _ _ hka),by omega,by omega,by have:=(hcl i).2;omega,λv H6 s6 n6=>?_⟩
  have s46:=s5.trans s6
  nofun
  refine⟨(by walk_at "sm"),λT hT=>?_⟩
  have n7:New H4 (upd H6 T (.tup [.int (numbers.getD i 0),v])) (zkz numbers kinds (zdl ns start size) i) (.ref T):=by
   have:=New.pairD (n:=numbers.getD i 0) (n6.back s5) hT
   rw[show (0+(i:Int)).toNat=i by omega] at this
   exact this
  rw[show (0+(i:Int)).toNat=i by omega]
  have s7:=s46.trans (zaf hT (.tup [.int (numbers.getD i 0),v]))
  have lv:=ac.len
  simp only[zlm,List.length_range] at lv
  nofun
  refine zrg (s7 _ _ ac.get) (zbs (by omega)) ?_
  nofun
  refine⟨_,_,_,_,vs++[.ref T],rfl,(s4.trans s7).put fa0,f4.trans (s7.fr.trans zeE),?_⟩
  rw[List.range_succ,List.map_append]
  exact ac.app f4 s7 n7
 ·rintro σ H4 ⟨y5,y6,y9,y10,vs,rfl,s4,f4,ac⟩
  nofun
  exact q _ _ numbers kinds (zdl ns start size) (s02.trans s4) HP (ac.new (s02.free fa0))
inductive Q6c (K:Fg) (C:Nat→Addr) (vs:List V) (H:Hp) (Q:VK) (E:XK):Prop
 | mk (ha la va pa:Addr) (n:Int) (ks:List Int) (cr:Int→Cr) (ws:List Int) (fp:List Addr) (c:Cr):vs=[.ref ha,.int n,.ref pa]→HAt (C 6) (C 0) H ha la va ks cr ws fp→c.at H (.ref pa)→c.Rt→n.natAbs<zbE→(n∈ks∨ks.length<60)→(∀ H' ks' ws' fp',NoD H H'→HAt (C 6) (C 0) H' ha la va ks' (setC cr n c) ws' fp'→(n∈ks→ks'=ks)→(n∉ks→ks'=ks++[n])→(∀ m,m∈ws'↔m∈ws∧m≠n∧(n∈ks→¬ ((cr n).needs=c.needs∧(cr n).leaves=c.leaves)→n∉zcg ks cr m))→(∀ b kvs,H b=some (.dK kvs)→b≠la→b≠va→H' b=some (.dK kvs))→(∀ b∈fp',b∈fp∨H b=none)→Q .non H')→Q6c K C vs H Q E
include B Z in
theorem zns (G_Hall_lay:Mth (CX1 P w) P w K mg b8 (C 6) "lay" ["self","number","craft"] 8 (Q40 K C)) (M_Craft:Mkr P w K mg b8 "Craft" (C 0) ["self","needs","leaves","deeds","notes"] 2 (Q6 K C)) (F:Fun K "_law_laid" "_law_laid" zf4 f fd) (m:mg "_law_laid"=some (.ref f)):Fnx P w K mg b8 "_law_laid" ["hall","number","parts"] 9 (Q6c K C):=by
 refine⟨f,fd,F.okx (k:=8) znd (λvs H Q E h=>?_) (λcdv A outer s H vs Q E hr h=>?_),F.binds λ_ _ _ _ _ _ us hl=>match us,hl with | [_,_,_],_=>rfl,F.kp,m⟩
 ·first
  | (obtain⟨_,_,_,_,_,_,_,_,_,_,rfl,_⟩:=h;rfl)
 obtain⟨ha,la,va,pa,n,ks,cr,ws,fp,c,rfl,hA,hp,rt,hn,hfew,q⟩:=h
 refine⟨_,(zaj (zbc (zcr G_Hall_lay Z.c_Hall hr zcf (pv 0) (zab (pv 1) (zaC (zrh M_Craft hr rfl (zaR (zaH (k_ix K) (pv 2) zaa (λ_ _=>rfl)) (zaR (zaH (k_ix K) (pv 2) zaa (λ_ _=>rfl)) (zaR (zaH (k_ix K) (pv 2) zaa (λ_ _=>rfl)) (zaR (zaH (k_ix K) (pv 2) zaa (λ_ _=>rfl)) zac))))) zac))))),?_⟩
 obtain⟨qa,z1,z2,b3,b4,dvs',nvs',e,hq,L1,L2',hb3,hb4,hD,hN⟩:=hp
 cases e
 obtain⟨dx,hh⟩:=hA.ins
 nofun
 refine⟨ha,dx,_,rfl,hh,zd2 (by decide +kernel) (by decide +kernel),?_⟩
 nofun
 refine zbA (SqL.of hq) (v:=.ref z1) zbV ?_
 nofun
 refine zbA (SqL.of hq) (v:=.ref z2) (zaN (j:=1) rfl) ?_
 nofun
 refine zbA (SqL.of hq) (v:=.ref b3) (zaN (j:=2) rfl) ?_
 nofun
 refine zbA (SqL.of hq) (v:=.ref b4) (zaN (j:=3) rfl) ?_
 nofun
 intro p dp p0 dp0 ndp
 refine zjF (c:=c) p0 dp0 L1.rep L2'.rep (SqL.of hb3) (SqL.of hb4) hD (hN.mono λls x ⟨b,e1,e2⟩=>by rw[e1];exact e2.rep) rt.nine λH1 f s1 hC hf fn=>⟨rfl,?_⟩
 nofun
 refine⟨ha,la,va,p,n,ks,cr,ws,fp,c,rfl,hA.same s1,hC.t rt.nine.d9,rt.nine,hn,hfew,λz=>(by have:=rt.r;rw[this] at z;cases z),λ_ H2 ks' ws' fp' o2 hA2 _ hks hks2 hws hfp=>?_⟩
 obtain⟨kl,hla,_⟩:=(hA.same s1).laid
 obtain⟨kv,hva,_⟩:=(hA.same s1).vou
 nofun
 refine q H2 ks' ws' fp' (s1.nod.trans (o2.nod λb hb=>?_)) hA2 hks hks2 hws (λb kvs e n1 n2=>o2 b _ (λz=>?_) (s1 _ _ e)) (λb hb=>(hfp b hb).imp_right s1.free)
 ·simp only[List.mem_cons,List.not_mem_nil,or_false] at hb
  rcases hb with rfl | rfl
  ·exact⟨_,hla⟩
  ·exact⟨_,hva⟩
 ·simp only[List.mem_cons,List.not_mem_nil,or_false] at z
  rcases z with z | z
  ·exact n1 z
  ·exact n2 z
inductive Q69 (K:Fg) (vs:List V) (H:Hp) (Q:VK) (E:XK):Prop
 | mk (a b:Bool):vs=[.bl a,.bl b]→Q (.bl (decide (a=b))) H→Q69 K vs H Q E
theorem zo6 {H:Hp}{Q:VK}{E:XK}{a b:Bool}(q:Q (.bl (decide (a=b))) H):Q69 K [.bl a,.bl b] H Q E:=⟨a,b,rfl,q⟩
include B Z in
theorem znt (F:Fun K "_law_told" "_law_told" zf3 f fd) (m:mg "_law_told"=some (.ref f)):Fn P w K mg b8 "_law_told" ["found","due"] 1 (Q69 K):=by
 refine Fn.of (k:=0) F znc m (λ_ _ _ _ _ _ us hl=>match us,hl with | [_,_],_=>rfl) (λvs H Q E h=>?_) (λcdv A outer s H vs Q E hr h=>?_)
 ·first
  | (obtain⟨_,_,rfl,_⟩:=h;rfl)
 obtain⟨a,b,rfl,q⟩:=h
 refine⟨_,(zaj (zao (zbR (zaz (zrf K) rfl B.isinstance L2.zen (zab (pv 0) (zab (zlP (v:=.ty "bool") rfl B.bool L2.zmE rfl) zac))) (zci (zbh (k_eq K hr) (pv 0) (pv 1) (zav _)))))),?_⟩
 nofun
 refine zmC (.bl _) zkR ?_
 nofun
 exact q
inductive Q71 (K:Fg) (C:Nat→Addr) (vs:List V) (H:Hp) (Q:VK) (E:XK):Prop
 | mk (ha la va pl ma:Addr) (ks:List Int) (cr:Int→Cr) (ws:List Int) (fp:List Addr) (ps:List (Int × Cr)) (kvs:List (Key × V)):vs=[.ref ha,.ref pl,.ref ma]→HAt (C 6) (C 0) H ha la va ks cr ws fp→zcv H pl ps→H ma=some (.dK kvs)→KVs (mdB ws) kvs (ps.map (·.1))→Q (.bl true) H→Q71 K C vs H Q E
include B Z in
theorem znu (Q6a:Fn P w K mg b8 "_law_told" ["found","due"] 1 (Q69 K)) (Q48:Mth CX0 P w K mg b8 (C 6) "held" ["self","number"] 1 (Q47 K C)) (F:Fun K "_law_same" "_law_same" zf5 f fd) (m:mg "_law_same"=some (.ref f)):Fn P w K mg b8 "_law_same" ["hall","placed","model"] 2 (Q71 K C):=by
 refine Fn.of (k:=1) F zg4 m (λ_ _ _ _ _ _ us hl=>match us,hl with | [_,_,_],_=>rfl) (λvs H Q E h=>?_) (λcdv A outer s H vs Q E hr h=>?_)
 ·first
  | (obtain⟨_,_,_,_,_,_,_,_,_,_,_,rfl,_⟩:=h;rfl)
 obtain⟨ha,la,va,pl,ma,ks,cr,ws,fp,ps,kvs,rfl,hA,PA,hma,hk,q⟩:=h
 refine⟨_,(zag (zds PassesOwn.never rfl (zaX K (pv 1)) (zfM K (n:=2) rfl (zbw (zas (i:=3) zg4.nd rfl (Or.inl rfl)) (zbw (zas (i:=4) zg4.nd rfl (Or.inl rfl)) zeg))) (zaj (za0 (PW.pt (zjU (ze5 (zcQ (zap Q6a hr rfl (zaC (zcr Q48 Z.c_Hall hr zfV (pv 0) (zab (pv 3) zac)) (zaR (zei (hr_u hr) (pv 2) (pv 3) (λ_ _=>rfl)) zac))))) (ziC (ze5 (zcQ (zap Q6a hr rfl (zaC (zcr Q48 Z.c_Hall hr zfV (pv 0) (zab (pv 3) zac)) (zaR (zei (hr_u hr) (pv 2) (pv 3) (λ_ _=>rfl)) zac)))))))) (zaj (zao zef)) zax)))
   (zaj (zao zef))),?_⟩
 obtain⟨pvs,hpv,r2⟩:=id PA
 obtain⟨dx,hh⟩:=hA.ins
 walk_at "q"
 nofun
 refine⟨pl,rfl,⟨_,SqL.of hpv⟩,?_⟩
 refine zgB (xs:=pvs) (λi σ H'=>∃ x y,σ=[some (.ref ha),some (.ref pl),some (.ref ma),x,y]∧H=H') ⟨none,none,rfl,rfl⟩ (λi σ H' _ ⟨_,_,_,e⟩=>by rw[←e];exact SqL.of hpv) ?_ ?_
 ·rintro i v σ H' hv ⟨x,y,rfl,rfl⟩
  have hi:i<ps.length:=by rw[r2.1];exact (zge.mp hv).1
  obtain⟨T,pw,rfl,hT,hpw⟩:=r2.2 i _ v (List.getElem?_eq_getElem hi) hv
  have pin:ps[i].1∈ps.map (·.1):=zmm.mpr ⟨_,List.getElem_mem hi,rfl⟩
  generalize ps[i]=p at *
  obtain⟨n,c⟩:=p
  dsimp only at *
  obtain⟨u,hu,eu⟩:=hk.2.2 n pin
  unfold mdB at eu
  subst eu
  refine⟨T,_,rfl,SqT.of hT,rfl,⟨_,_,rfl,?_⟩⟩
  refine⟨_,_,rfl,?_⟩
  refine⟨rfl,?_⟩
  nofun
  refine⟨ha,dx,_,rfl,hh,zd2 (by decide +kernel) (by decide +kernel),?_⟩
  nofun
  refine⟨ha,la,va,n,ks,cr,ws,fp,rfl,hA,?_⟩
  nofun
  refine⟨ma,_,rfl,by rw[←hu];exact DGet.k (k:=.inl n) hma,?_⟩
  nofun
  refine zo6 ?_
  rw[decide_eq_true rfl]
  nofun
  refine⟨ha,dx,_,rfl,hh,zd2 (by decide +kernel) (by decide +kernel),?_⟩
  nofun
  refine⟨ha,la,va,n,ks,cr,ws,fp,rfl,hA,?_⟩
  nofun
  refine⟨ma,_,rfl,by rw[←hu];exact DGet.k (k:=.inl n) hma,?_⟩
  nofun
  refine zo6 ?_
  rw[decide_eq_true rfl]
  nofun
  exact⟨_,_,rfl,rfl⟩
 ·rintro σ H' ⟨x,y,rfl,rfl⟩
  nofun
  exact q
inductive Q70 (K:Fg) (vs:List V) (H:Hp) (Q:VK) (E:XK):Prop
 | mk (pa:Addr) (cell bd:Int) (c:Cr):vs=[.ref pa,.int cell]→c.at H (.ref pa)→FineB bd c→0≤bd→bd<1000000000→(∀ pb H' nds lvs,Same H H'→({c with needs:=nds,leaves:=lvs} : Cr).at H' (.ref pb)→OthOk (bd+1) nds lvs→Q (.ref pb) H')→Q70 K vs H Q E
theorem zhf {α β:Type}{f:α→β} : ∀ (l:List α) (k:Nat),(l.map f).eraseIdx k=(l.eraseIdx k).map f
 | [],_=>by simp
 | x::l,0=>by simp
 | x::l,k+1=>by simp[zhf l k]
theorem zjP {α:Type} : ∀ (l:List α),l.dropLast=l.eraseIdx (l.length - 1)
 | []=>rfl
 | [x]=>rfl
 | x::y::l=>by
  have:=zjP (y::l)
  simp only[List.dropLast,List.length_cons,Nat.add_sub_cancel] at this ⊢
  rw[List.eraseIdx_cons_succ,←this]
theorem zlH {c:TT}{t u:TS}{D:Ends}{σ:L2.St}{H:Hp}(P:Prop) (hc:∀ Q:Bool→Hp→Prop,(P→Q true H)→Q false H→c σ H Q) (ht:P→t D σ H) (hu:u D σ H):tIfS c t u D σ H:=hc (λb H1=>if b=true then t D σ H1 else u D σ H1) (λp=>iteT (ht p)) (iteF hu)
theorem zrB {i:Int}{n:Nat}(h0:0≤i) (h1:i<n):PySem.seqIndex? i n=some i.toNat:=by
 unfold PySem.seqIndex?
 simp[h0,h1]
 omega
theorem qT {b:Bool}{H:Hp}{Q:Bool→Hp→Prop}(q1:True→Q true H) (q2:Q false H):Q b H:=by cases b;exact q2;exact q1 trivial
theorem q12 {i j:Nat}{H:Hp}{Q:Bool→Hp→Prop}(q1:i<j→Q true H) (q2:Q false H):Q (decide ((i:Int)<(j:Int))) H:=by
 by_cases h:i<j
 ·rw[decide_eq_true (by omega)];exact q1 h
 ·rw[decide_eq_false (by omega)];exact q2
include B Z in
theorem zlI (F:Fun K "_law_other" "_law_other" zdJ f fd) (m:mg "_law_other"=some (.ref f)):Fn P w K mg b8 "_law_other" ["parts","cell"] 1 (Q70 K):=by
 refine Fn.of (k:=0) F zdT m (λ_ _ _ _ _ _ us hl=>match us,hl with | [_,_],_=>rfl) (λvs H Q E h=>?_) (λcdv A outer s H vs Q E hr h=>?_)
 ·first
  | (obtain⟨_,_,_,_,rfl,_⟩:=h;rfl)
 obtain⟨pa,cell,bd,c,rfl,hc,fi,b0,b9,q⟩:=h
 refine⟨_,(zag (zql (i:=2) (j:=3) rfl zdT.nd rfl rfl (by decide) rfl rfl (zcs (za1 rfl (COk.m (sc0:=zai zdJ) (N:=["parts","cell","needs","leaves"]) (N':=["parts","cell","needs","leaves","line"]) (ms:=[false,false,false,false,true])) (zaX K (zaH (k_ix K) (pv 0) zaa (λ_ _=>rfl))) (λ_ _ _ _ _=>(zas (i:=4) (ndS (N:=["parts","cell","needs","leaves","line"])) rfl (Or.inl rfl))) (λ_ _ _ _ _=>zaG) (λ_ _ _ _ _=>(zcR (zi0 K) rfl B.list L2.zcS (zab (pv 4) zac)))) (zcs (za1 rfl (COk.m (sc0:=zai zdJ) (N:=["parts","cell","needs","leaves"]) (N':=["parts","cell","needs","leaves","line"]) (ms:=[false,false,false,false,true])) (zaX K (zaH (k_ix K) (pv 0) zaa (λ_ _=>rfl))) (λ_ _ _ _ _=>(zas (i:=4) (ndS (N:=["parts","cell","needs","leaves","line"])) rfl (Or.inl rfl))) (λ_ _ _ _ _=>zaG) (λ_ _ _ _ _=>(zcR (zi0 K) rfl B.list L2.zcS (zab (pv 4) zac)))) zac)) (by rfl))
   (zag (za0 (PW.pt (ziD (zau (k_eq K hr) (zam zaV (pv 1) zaa) zaa (zav _)) (zgn (zau zlX (zaz (zcD K) rfl B.len L2.boot_len (zab (pv 2) zac)) zaa (zav _))))) (zaj (zbc (znL PySem.F.plainAttrs_list PySem.F.slot_list_pop PySem.F.type_list_pop znM (pv 2) (zaP (zam zaV (zam zaS (pv 1) zaa) (zaz (zcD K) rfl B.len L2.boot_len (zab (pv 2) zac))) zac)))) (zaj (za0 (zau (k_eq K hr) (zam zaV (pv 1) zaa) zaa (zav _)) (zaj (ziE (zam (zaL K) (zaE (zae zaa zac)) (zam zbT (zaE (zae zaa zac)) zaa)) (zkD (pv 3) (zam zaV (zam zaS (pv 1) zaa) (zaz (zcD K) rfl B.len L2.boot_len (zab (pv 3) zac))) zf9))) (zaj (za0 (zau (k_eq K hr) (zam zaV (pv 1) zaa) zaa (zav _)) (zaj (zay (i:=2) zdT.nd rfl (Or.inl rfl) (zoZ K rfl rfl B.list rfl B.reversed (zab (pv 2) zac)))) (zaj (za0 (PW.pt (ziD (zau (k_eq K hr) (zam zaV (pv 1) zaa) zaa (zav _)) (zgn (zau zld (zaz (zcD K) rfl B.len L2.boot_len (zab (pv 2) zac)) zaa (zav _))))) (zaj (zay (i:=2) zdT.nd rfl (Or.inl rfl) (zam (zaL K) (pv 2) (zaE (zaP (zam (zaL K) (zaE (zae zaa zac)) (zam zbT (zaE (zae zaa zac)) zaa)) zac))))) (zaj (za0 (PW.pt (ziD (zau (k_eq K hr) (zam zaV (pv 1) zaa) zaa (zav _)) (zgn (zau zlX (zaz (zcD K) rfl B.len L2.boot_len (zab (pv 2) zac)) zaa (zav _))))) (zaj (ziE (zam (zaL K) (zaH (k_ix K) (zaH (k_ix K) (pv 2) (zdZ zcp zaa) (λ_ _=>rfl)) zaa (λ_ _=>rfl)) zaa) (zkD (zaH (k_ix K) (pv 2) (zdZ zcp zaa) (λ_ _=>rfl)) zaa zf9))) (zaj (za0 (PW.pt (ziD (zau (k_eq K hr) (zam zaV (pv 1) zaa) zaa (zav _)) (zgn (zau zlX (zaz (zcD K) rfl B.len L2.boot_len (zab (pv 3) zac)) zaa (zav _))))) (zaj (zbc (zqC PySem.F.plainAttrs_list PySem.F.slot_list_pop PySem.F.type_list_pop zqD (pv 3)))) (zaj (zay (i:=3) zdT.nd rfl (Or.inl rfl) (zoZ K rfl rfl B.list rfl B.reversed (zab (pv 3) zac)))))))))))))))
   (zaj (zao (zaE (zab (pv 2) (zab (pv 3) (zaR (zaH (k_ix K) (pv 0) zaa (λ_ _=>rfl)) (zaR (zaH (k_ix K) (pv 0) zaa (λ_ _=>rfl)) zac))))))))),?_⟩
 obtain⟨ln,ll⟩:=fi.rt.lines
 have p2:=fi.rt.parts
 obtain⟨qa,y1,y2,a3,a4,dvs,nvs,e,hq,L1,L2',h3,h4,hD,hN⟩:=hc
 cases e
 obtain⟨as1,e1,l1,k1⟩:=id L1
 obtain⟨as2,e2,l2,k2⟩:=id L2'
 nofun
 walk_at "q"
 nofun
 refine zbA (SqL.of hq) (v:=.ref y1) zbV ?_
 nofun
 refine⟨y1,rfl,⟨_,SqL.of e1⟩,?_⟩
 refine zaK (zaO (SqL.of e1)) (c.needs.map nums) (by simp[l1]) (zan (by simp;omega)) (λj x d H1 R hj hd s1 hx hR=>?_) (λv1 H1 s1 n1=>?_)
 ·rw[zgm] at hd hx
  obtain⟨l,hl,rfl⟩:=zme.mp hd
  obtain⟨a,ha,rfl⟩:=zme.mp hx
  nofun
  refine zfb (.inl (SqL.of (s1 _ _ (k1 j a l ha hl)))) λz hz=>?_
  exact hR _ _ (zaf hz _) (New.iif.mpr ⟨z,rfl,hz,zad⟩)
 nofun
 refine zbA (SqL.of (s1 _ _ hq)) (v:=.ref y2) (zaN (j:=1) rfl) ?_
 nofun
 refine⟨y2,rfl,⟨_,SqL.of (s1 _ _ e2)⟩,?_⟩
 refine zaK (zaO (SqL.of (s1 _ _ e2))) (c.leaves.map nums) (by simp[l2]) (zan (by simp;omega)) (λj x d H2 R hj hd s2 hx hR=>?_) (λv2 H2 s2 n2=>?_)
 ·rw[zgm] at hd hx
  obtain⟨l,hl,rfl⟩:=zme.mp hd
  obtain⟨a,ha,rfl⟩:=zme.mp hx
  nofun
  refine zfb (.inl (SqL.of (s2 _ _ (s1 _ _ (k2 j a l ha hl))))) λz hz=>?_
  exact hR _ _ (zaf hz _) (New.iif.mpr ⟨z,rfl,hz,zad⟩)
 obtain⟨na,as,rfl,hna,RN,ndN,fN⟩:=LsR.out n1
 obtain⟨lb,bs,rfl,hlb,RL,ndL,fL⟩:=LsR.out n2
 clear n1 n2
 have s12:=s1.trans s2
 have hna2:=s2 _ _ hna
 have RN2:LsR H2 as c.needs:=RN.frame λa _ o e=>s2 _ _ e
 have nna:H na=none:=fN _ List.mem_cons_self
 have nlb:H lb=none:=s1.free (fL _ List.mem_cons_self)
 have fa1:∀ a∈as,H1 a≠none:=λa ha z=>by
  obtain⟨i,e⟩:=List.getElem?_of_mem ha
  have hi:i<c.needs.length:=by rw[←RN.1];exact (zge.mp e).1
  rw[RN.2 i a _ e (List.getElem?_eq_getElem hi)] at z;cases z
 have offN:∀ b∈lb::bs,b≠na∧b∉as:=λb hb=>⟨λz=>(by rw[z] at hb;rw[fL _ hb] at hna;cases hna),λz=>fa1 b z (fL b hb)⟩
 have nas:=(List.nodup_cons.mp ndN).1
 have nbs:=(List.nodup_cons.mp ndL).1
 have OK0:OthOk (bd+1) c.needs c.leaves:=⟨p2.1,λl hl=>⟨ln l hl,by have:=fi.hd l hl;omega⟩,fi.l1,p2.2.1,ll⟩
 have LN:Ls H2 na c.needs:=RN2.ls hna2
 have LL:Ls H2 lb c.leaves:=RL.ls hlb
 have nlen:(as.map V.ref).length=c.needs.length:=by rw[zlm];exact RN.1
 have llen:(bs.map V.ref).length=c.leaves.length:=by rw[zlm];exact RL.1
 -- a change of the needs' list leaves the leaves,and the other way round
 have keepL:∀ {H3:Hp}{b:Addr}{o:HO},Same H2 H3→b=na∨b∈as→Ls (upd H3 b o) lb c.leaves:=λ{H3 b o} s3 hb=>by
  have ne:∀ x∈lb::bs,x≠b:=λx hx z=>by
   rcases hb with w | w
   ·exact (offN x hx).1 (z.trans w)
   ·exact (offN x hx).2 (by rw[z];exact w)
  exact (RL.frame λa ha o e=>by rw[zaq (ne a (List.mem_cons_of_mem _ ha))];exact s3 _ _ e).ls (by rw[zaq (ne lb List.mem_cons_self)];exact s3 _ _ hlb)
 have keepN:∀ {H3:Hp}{o:HO},Same H2 H3→Ls (upd H3 lb o) na c.needs:=λ{H3 o} s3=>
  (RN2.frame λa ha o e=>by rw[zaq (λz=>(offN lb List.mem_cons_self).2 (by rw[←z];exact ha))];exact s3 _ _ e).ls (by rw[zaq (offN lb List.mem_cons_self).1.symm];exact s3 _ _ hna2)
 nofun
 with_reducible refine zdM (λσ H'=>E4 λn' l' nds lvs=>A5 (σ=[some (.ref pa),some (.int cell),some (.ref n'),some (.ref l')]) (Same H H') (Ls H' n' nds) (Ls H' l' lvs) (OthOk (bd+1) nds lvs)) (λNX tail=>?_) ?_
 ·refine zlH (0<c.needs.length) (λQ q1 q2=>?_) (λhp=>?_) ?_
  ·nofun
   refine zcT (λe=>?_) (λe=>q2)
   nofun
   refine zcZ (.inl (SqL.of hna2)) ?_
   rw[nlen]
   nofun
   exact q12 q1 q2
  ·have m0:=Int.emod_nonneg (cell / 7) (show ((c.needs.length:Nat):Int)≠0 by omega)
   have m1:=Int.emod_lt_of_pos (cell / 7) (show (0:Int)<(c.needs.length:Nat) by omega)
   nofun
   refine⟨tyL hna2,?_⟩
   nofun
   refine zcZ (.inl (SqL.of hna2)) ?_
   rw[nlen]
   nofun
   generalize cell / 7 % (c.needs.length:Int)=k at m0 m1 ⊢
   obtain⟨y,hy⟩:∃ y,(as.map V.ref)[k.toNat]?=some y:=⟨_,List.getElem?_eq_getElem (by rw[nlen];omega)⟩
   refine⟨na,_,k,k.toNat,y,rfl,rfl,hna2,by omega,by omega,zrB m0 (by rw[nlen];exact m1),hy,?_⟩
   nofun
   refine tail _ _ ⟨na,lb,c.needs.eraseIdx k.toNat,c.leaves,rfl,s12.put nna,?_,keepL (Same.refl _) (.inl rfl),⟨?_,λl hl=>OK0.n l (List.mem_of_mem_eraseIdx hl),OK0.l1,OK0.l2,OK0.l⟩⟩
   ·refine (RN2.erase.frame λa ha o e=>?_).ls (as:=as.eraseIdx k.toNat) (by rw[zad,zhf])
    rw[zaq (λz=>nas (by rw[←z];exact List.mem_of_mem_eraseIdx ha))];exact e
   ·rw[List.length_eraseIdx];split <;> omega
  refine zlH True (λQ q1 q2=>?_) (λ_=>?_) ?_
  ·nofun
   exact qT q1 q2
  ·have m0:=Int.emod_nonneg (cell / 7) (show ((c.leaves.length:Nat):Int)≠0 by have:=fi.l1;omega)
   have m1:=Int.emod_lt_of_pos (cell / 7) (show (0:Int)<(c.leaves.length:Nat) by have:=fi.l1;omega)
   nofun
   refine zp2 λz4 H3 rr f4 e4=>?_
   nofun
   refine zcZ (.inl (SqL.of (rr _ _ hlb))) ?_
   rw[llen]
   nofun
   generalize cell / 7 % (c.leaves.length:Int)=k at m0 m1 ⊢
   refine zkP (j:=k.toNat) (rr _ _ hlb) (zmJ m0 (by rw[llen];exact m1)) ?_
   refine tail _ _ ⟨na,lb,c.needs,c.leaves.set k.toNat one9,rfl,(s12.trans rr).put nlb,keepN rr,?_,⟨OK0.n2,OK0.n,by rw[List.length_set];exact OK0.l1,by rw[List.length_set];exact OK0.l2,λl hl=>?_⟩⟩
   ·have n4:z4≠lb:=λz=>by rw[z,hlb] at f4;cases f4
    refine ((RL.frame λa ha o e=>?_).set (by rw[zaq n4];exact e4)).ls (as:=bs.set k.toNat z4) (by rw[zad,List.map_set])
    rw[zaq (λz=>nbs (by rw[←z];exact ha))];exact rr _ _ e
   ·rcases List.mem_or_eq_of_mem_set hl with z | z
    ·exact OK0.l l z
    ·rw[z];exact one_L
  refine zlH True (λQ q1 q2=>?_) (λ_=>?_) ?_
  ·nofun
   exact qT q1 q2
  ·nofun
   refine zo0 ?_
   nofun
   refine⟨na,_,rfl,SqL.of hna2,λl hl=>?_⟩
   have r1:=zaf hl (.lst (as.map V.ref).reverse)
   nofun
   exact tail _ _ ⟨l,lb,c.needs.reverse,c.leaves,rfl,s12.trans r1,(RN2.rev.frame λa _ o e=>r1 _ _ e).ls (by rw[zad,List.map_reverse]),LL.same r1,⟨by rw[List.length_reverse];exact OK0.n2,λl hl=>OK0.n l (List.mem_reverse.mp hl),OK0.l1,OK0.l2,OK0.l⟩⟩
  refine zlH (c.needs.length<2) (λQ q1 q2=>?_) (λhp=>?_) ?_
  ·nofun
   refine zcT (λe=>?_) (λe=>q2)
   nofun
   refine zcZ (.inl (SqL.of hna2)) ?_
   rw[nlen]
   nofun
   exact q12 q1 q2
  ·nofun
   refine zp2 λz4 H3 rr f4 e4=>?_
   nofun
   refine⟨(by walk_at "sm"),λz5 hz5=>?_⟩
   have r5:=zaf hz5 (.lst [V.ref z4])
   refine zbz (r5 _ _ (rr _ _ hna2)) zad (zan (by rw[nlen];show _+1≤1000;omega)) λz6 hz6=>?_
   have r6:=zaf hz6 (.lst (as.map V.ref++[V.ref z4]))
   have r26:=rr.trans (r5.trans r6)
   nofun
   refine tail _ _ ⟨z6,lb,c.needs++[one9],c.leaves,rfl,s12.trans r26,?_,LL.same r26,⟨by rw[List.length_append];show _+1≤2;omega,λl hl=>?_,OK0.l1,OK0.l2,OK0.l⟩⟩
   ·exact ((RN2.frame λa _ o e=>r26 _ _ e).snoc (r6 _ _ (r5 _ _ e4))).ls (by rw[zad,List.map_append];rfl)
   ·rcases zma.mp hl with z | z
    ·exact OK0.n l z
    ·rw[zms.mp z];exact⟨one_N,by show (1:Int)≤bd+1;omega⟩
  refine zlH (0<c.needs.length) (λQ q1 q2=>?_) (λhp=>?_) ?_
  ·nofun
   refine zcT (λe=>?_) (λe=>q2)
   nofun
   refine zcZ (.inl (SqL.of hna2)) ?_
   rw[nlen]
   nofun
   exact q12 q1 q2
  ·obtain⟨k,hk⟩:∃ k,c.needs.length=k+1:=⟨c.needs.length - 1,by omega⟩
   have ha:as[k]?=some (as[k]'(by rw[RN.1];omega)):=List.getElem?_eq_getElem _
   have hl:c.needs[k]?=some c.needs[k]:=List.getElem?_eq_getElem (by omega)
   have hm:=List.getElem_mem (l:=c.needs) (n:=k) (by omega)
   generalize as[k]'(by rw[RN.1];omega)=x at ha
   generalize c.needs[k]=l at hl hm
   have hx:=RN2.2 k x l ha hl
   obtain⟨o1,o2⟩:=OK0.n l hm
   have h9:=o1.1
   have hd0:=fi.hd l hm
   have xm:=zmg ha
   have lat:atI (as.map V.ref) (-1)=some (.ref x):=by
    have e:as=as.take k++[x]:=by
     have:=List.take_add_one (l:=as) (i:=k)
     rw[ha,List.take_of_length_le (by rw[RN.1,hk];exact Nat.le_refl _)] at this
     exact this
    rw[e,List.map_append]
    exact zpY
   have zat:atI (l.map V.int) 0=some (.int (l.headD 0)):=by
    cases l with
    | nil=>simp at h9
    | cons y l=>exact zbV
   nofun
   refine zbA (SqL.of hna2) lat ?_
   nofun
   refine zbA (SqL.of hx) zat ?_
   nofun
   refine zbA (SqL.of hna2) lat ?_
   nofun
   refine zkP (j:=0) hx (by have:=zmJ (n:=(l.map V.int).length) (k:=0) (by omega) (by rw[zlm,h9];decide);simpa using this) ?_
   refine tail _ _ ⟨na,lb,c.needs.set k (l.set 0 (l.headD 0+1)),c.leaves,rfl,s12.put (fN _ (List.mem_cons_of_mem _ xm)),?_,keepL (Same.refl _) (.inr xm),⟨by rw[List.length_set];exact OK0.n2,λm hm=>?_,OK0.l1,OK0.l2,OK0.l⟩⟩
   ·refine LsR.ls (as:=as) ⟨by rw[List.length_set];exact RN.1,λi b m e1 e2=>?_⟩ (by rw[zaq (λz=>nas (by rw[z];exact xm))];exact hna2)
    by_cases z:k=i
    ·subst z
     rw[ha] at e1
     rw[List.getElem?_set_self (by omega)] at e2
     cases e1;cases e2
     rw[zad,List.map_set]
    ·rw[List.getElem?_set_ne z] at e2
     have nb:b≠x:=λw=>z ((List.getElem?_inj (zge.mp ha).1 (List.nodup_cons.mp ndN).2).mp (by rw[ha,e1,w]))
     rw[zaq nb]
     exact RN2.2 i b m e1 e2
   ·rcases List.mem_or_eq_of_mem_set hm with z | z
    ·exact OK0.n m z
    ·rw[z]
     refine⟨o1.up hd0 b9,?_⟩
     cases l with
     | nil=>simp at h9
     | cons y l=>show y+1≤bd+1;have:y≤bd:=hd0;omega
  refine zlH (1<c.leaves.length) (λQ q1 q2=>?_) (λhp=>?_) ?_
  ·nofun
   refine zcT (λe=>?_) (λe=>q2)
   nofun
   refine zcZ (.inl (SqL.of hlb)) ?_
   rw[llen]
   nofun
   exact q12 q1 q2
  ·nofun
   refine⟨tyL hlb,?_⟩
   nofun
   obtain⟨y,hy⟩:∃ y,(bs.map V.ref)[(bs.map V.ref).length - 1]?=some y:=⟨_,List.getElem?_eq_getElem (by rw[llen];omega)⟩
   refine i_pop hlb hy ?_
   nofun
   have ed:(bs.map V.ref).dropLast=(bs.eraseIdx (bs.length - 1)).map V.ref:=by rw[←zhf,zjP,zlm]
   refine tail _ _ ⟨na,lb,c.needs,c.leaves.eraseIdx (bs.length - 1),rfl,s12.put nlb,keepN (Same.refl _),?_,⟨OK0.n2,OK0.n,?_,?_,λl hl=>OK0.l l (List.mem_of_mem_eraseIdx hl)⟩⟩
   ·refine (RL.erase.frame λa ha o e=>?_).ls (as:=bs.eraseIdx (bs.length - 1)) (by rw[zad,ed])
    rw[zaq (λz=>nbs (by rw[←z];exact List.mem_of_mem_eraseIdx ha))];exact e
   ·rw[List.length_eraseIdx];split <;> omega
   ·rw[List.length_eraseIdx];have:=OK0.l2;split <;> omega
  ·nofun
   refine zo0 ?_
   nofun
   refine⟨lb,_,rfl,SqL.of hlb,λl hl=>?_⟩
   have r1:=zaf hl (.lst (bs.map V.ref).reverse)
   nofun
   exact tail _ _ ⟨na,l,c.needs,c.leaves.reverse,rfl,s12.trans r1,LN.same r1,(RL.rev.frame λa _ o e=>r1 _ _ e).ls (by rw[zad,List.map_reverse]),⟨OK0.n2,OK0.n,by rw[List.length_reverse];exact OK0.l1,by rw[List.length_reverse];exact OK0.l2,λl hl=>OK0.l l (List.mem_reverse.mp hl)⟩⟩
 rintro σ H3 ⟨n',l',nds,lvs,rfl,s3,LN3,LL3,ok⟩
 nofun
 refine zbA (SqL.of (s3 _ _ hq)) (v:=.ref a3) (zaN (j:=2) rfl) ?_
 nofun
 refine zbA (SqL.of (s3 _ _ hq)) (v:=.ref a4) (zaN (j:=3) rfl) ?_
 nofun
 refine⟨(by walk_at "sm"),λpb hpb=>?_⟩
 have s4:=zaf hpb (.lst [V.ref n',.ref l',.ref a3,.ref a4])
 have s34:=s3.trans s4
 exact q pb _ nds lvs s34 ⟨pb,n',l',a3,a4,dvs,nvs,rfl,zad,LN3.same s4,LL3.same s4,s34 _ _ h3,s34 _ _ h4,hD.same s34,hN.mono λ_ _ ⟨b,e,z⟩=>⟨b,e,z.same s34⟩⟩ ok
inductive Q6b (K:Fg) (vs:List V) (H:Hp) (Q:VK) (E:XK):Prop
 | mk (pa:Addr) (n:Int) (c:Cr):vs=[.ref pa,.int n]→c.at H (.ref pa)→c.deeds.length≤100→(∀ H',Same H H'→Q (.bl (decide (n∈zaD c.deeds))) H')→Q6b K vs H Q E
theorem zjQ {n:Int} : ∀ (deeds:List Dd),(deeds.map λd=>decide (zbo d=some n)).any id=decide (n∈zaD deeds)
 | []=>rfl
 | d::ds=>by
  rw[zmc,List.any_cons,zjQ ds]
  unfold zaD
  rw[List.filterMap_cons,Bool.eq_iff_iff]
  cases e:zbo d with
  | none=>simp
  | some m=>
   simp only[Bool.or_eq_true,decide_eq_true_eq,Option.some.injEq,List.mem_cons,id]
   exact⟨λz=>by rcases z with z | z;exact .inl z.symm;exact .inr z,λz=>by rcases z with z | z;exact .inl z.symm;exact .inr z⟩
theorem wcall {d:Dd} : decide (zc1 d ="call")=(zbo d).isSome:=by
 cases d <;> first | rfl | (unfold zc1 zbo;decide +kernel)
include B Z in
theorem zlJ (F:Fun K "_law_calls" "_law_calls" zee f fd) (m:mg "_law_calls"=some (.ref f)):Fn P w K mg b8 "_law_calls" ["parts","number"] 1 (Q6b K):=by
 refine Fn.of (k:=0) F zlE m (λ_ _ _ _ _ _ us hl=>match us,hl with | [_,_],_=>rfl) (λvs H Q E h=>?_) (λcdv A outer s H vs Q E hr h=>?_)
 ·first
  | (obtain⟨_,_,_,rfl,_⟩:=h;rfl)
 obtain⟨pa,n,c,rfl,hp,hl,q⟩:=h
 refine⟨_,(zaj (zao (zaz (zpE K rfl) rfl B.any L2.zh5 (zcs (za1 rfl (COk.m (sc0:=zai zee) (N:=["parts","number"]) (N':=["parts","number","deed"]) (ms:=[false,false,true])) (zaX K (zaH (k_ix K) (pv 0) zaa (λ_ _=>rfl))) (λ_ _ _ _ _=>(zas (i:=2) (ndS (N:=["parts","number","deed"])) rfl (Or.inl rfl))) (λ_ _ _ _ _=>zaG) (λ_ _ _ _ _=>(zbR (zbh (k_eq K hr) (zaH (k_ix K) (pv 2) zaa (λ_ _=>rfl)) zbr (zav _)) (zci (zbh (k_eq K hr) (zaH (k_ix K) (pv 2) zaa (λ_ _=>rfl)) (pv 1) (zav _)))))) zac)))),?_⟩
 obtain⟨qa,z1,z2,b3,b4,dvs,nvs,e,hq,L1,L2',hb3,hb4,hD,hN⟩:=hp
 cases e
 have ld:=hD.1
 nofun
 refine zbA (SqL.of hq) (v:=.ref b3) (zaN (j:=2) rfl) ?_
 refine⟨b3,rfl,⟨_,SqL.of hb3⟩,?_⟩
 refine zaK (zaO (SqL.of hb3)) ((c.deeds.map λd=>decide (zbo d=some n)).map D.bl) (by simp[ld]) (zan (by omega)) (λi x d' H1 R hi hd s1 hx hR=>?_) (λv H1 s1 n1=>?_)
 ·rw[zgm,zgm] at hd
  obtain⟨b,hb,rfl⟩:=zme.mp hd
  obtain⟨d,hdd,rfl⟩:=zme.mp hb
  have drx:=(hD.2 i d x hdd hx).sq s1.sq
  obtain⟨t,xs,rfl,ht⟩:=zj7 drx
  nofun
  refine za8 (SqT.of ht) zbV ?_
  nofun
  rw[wcall]
  cases d with
  | call m g0 g1 t0 t1=>
   rw[show (zbo (.call m g0 g1 t0 t1)).isSome=true from rfl]
   obtain⟨t',ys,et,hT2,px⟩:=zcu drx
   cases et
   obtain⟨x0,r,rfl,e0,px⟩:=zaI px
   obtain⟨x1,r,rfl,e1,px⟩:=zaI px
   cases zcM e1
   nofun
   refine za8 (SqT.of hT2) (v:=.int m) (zaN (j:=1) rfl) ?_
   nofun
   have:=hR (.bl (decide (m=n))) _ (Same.refl _)
   refine this ?_
   rw[show decide (zbo (.call m g0 g1 t0 t1)=some n)=decide (m=n) by unfold zbo;simp]
   exact New.bl
  | _=>
   dsimp only[zbo,Option.isSome]
   nofun
   exact hR _ _ (Same.refl _) New.bl
 obtain⟨ba,rfl,ba0,hba⟩:=New.bls n1
 nofun
 refine zq5 (SqL.of hba) ?_
 rw[zjQ]
 exact q _ s1
inductive Q6e (K:Fg) (vs:List V) (H:Hp) (Q:VK) (E:XK):Prop
 | mk (pl ma:Addr) (n:Int) (ps:List (Int × Cr)) (kvs:List (Key × V)) (ws:List Int):vs=[.ref pl,.ref ma,.int n]→zcv H pl ps→(∀ p∈ps,p.2.deeds.length≤100)→H ma=some (.dK kvs)→KVs (mdB ws) kvs (ps.map (·.1))→ps.length≤60→(ps.map (·.1)).Nodup→(∀ H' kvs' ws',OffA [ma] H H'→H' ma=some (.dK kvs')→KVs (mdB ws') kvs' (ps.map (·.1))→(∀ p∈ps,(p.1∈ws'↔p.1∈ws∧n∉zaD p.2.deeds))→(∀ m∈ws',m∈ws)→Q .non H')→Q6e K vs H Q E
theorem znv {ps:List (Int × Cr)}(nd:(ps.map (·.1)).Nodup) {p q:Int × Cr}(hp:p∈ps) (hq:q∈ps) (e:p.1=q.1):p=q:=by
 induction ps with
 | nil=>cases hp
 | cons a r ih=>
  rw[zmc,List.nodup_cons] at nd
  rcases List.mem_cons.mp hp with z | hp2
  ·rcases List.mem_cons.mp hq with y | hq2
   ·rw[z,y]
   ·exact absurd (zmm.mpr ⟨q,hq2,by rw[←e,z]⟩) nd.1
  ·rcases List.mem_cons.mp hq with y | hq2
   ·exact absurd (zmm.mpr ⟨p,hp2,by rw[e,y]⟩) nd.1
   ·exact ih nd.2 hp2 hq2
include B Z in
theorem zkA (G_l_calls:Fn P w K mg b8 "_law_calls" ["parts","number"] 1 (Q6b K)) (F:Fun K "_law_loosen" "_law_loosen" zeB f fd) (m:mg "_law_loosen"=some (.ref f)):Fn P w K mg b8 "_law_loosen" ["placed","model","number"] 2 (Q6e K):=by
 refine Fn.of (k:=1) F zeZ m (λ_ _ _ _ _ _ us hl=>match us,hl with | [_,_,_],_=>rfl) (λvs H Q E h=>?_) (λcdv A outer s H vs Q E hr h=>?_)
 ·first
  | (obtain⟨_,_,_,_,_,_,rfl,_⟩:=h;rfl)
 obtain⟨pl,ma,n,ps,kvs,ws,rfl,PA,hb,hma,hk,hl,nd,q⟩:=h
 refine⟨_,(zaj (zds PassesOwn.never rfl (zaX K (pv 0)) (zfM K (n:=2) rfl (zbw (zas (i:=3) zeZ.nd rfl (Or.inl rfl)) (zbw (zas (i:=4) zeZ.nd rfl (Or.inl rfl)) zeg))) (zaj (za0 (zcQ (zap G_l_calls hr rfl (zab (pv 4) (zab (pv 2) zac)))) (zaj (zdE (hr_u hr) (pv 1) (pv 3) zef rfl)) zax)))),?_⟩
 obtain⟨pvs,hpv,r2⟩:=id PA
 have noD:∀ {H':Hp},OffA [ma] H H'→NoD H H':=λ{H'} o=>o.nod λb hb=>by rw[zms.mp hb];exact⟨_,hma⟩
 nofun
 refine⟨pl,rfl,⟨_,SqL.of hpv⟩,?_⟩
 refine zgB (xs:=pvs) (λi σ H'=>E4 λx y kv w=>A6 (σ=[some (.ref pl),some (.ref ma),some (.int n),x,y]) (OffA [ma] H H') (H' ma=some (.dK kv)) (KVs (mdB w) kv (ps.map (·.1))) ((∀ p∈ps,(p.1∈w↔p.1∈ws∧(p∈ps.take i→n∉zaD p.2.deeds)))) (∀ m∈w,m∈ws))
  ⟨none,none,kvs,ws,rfl,(Same.refl _).offA,hma,hk,λp hp=>by simp,λm z=>z⟩ (λi σ H' _ ⟨_,_,_,_,_,o,_,_,_,_⟩=>SqL.of (noD o _ _ hpv (λ_ z=>by cases z))) ?_ ?_
 ·rintro i v σ H' hv ⟨x,y,kv,w,rfl,o,hma',hk',hw,hsub⟩
  have hi:i<ps.length:=by rw[r2.1];exact (zge.mp hv).1
  have ep:ps[i]?=some ps[i]:=List.getElem?_eq_getElem hi
  obtain⟨T,pw,rfl,hT,hpw⟩:=r2.2 i _ v ep hv
  have pm:ps[i]∈ps:=List.getElem_mem hi
  have tk:ps.take (i+1)=ps.take i++[ps[i]]:=by rw[List.take_add_one,ep];rfl
  generalize ps[i]=p at *
  have nd':=noD o
  have hpw':=zjd.nod nd' hpw
  have hT':=nd' _ _ hT (λ_ z=>by cases z)
  obtain⟨pa,rfl⟩:∃ pa,pw=.ref pa:=by obtain⟨pa,_,_,_,_,_,_,e,_⟩:=hpw;exact⟨pa,e⟩
  refine⟨T,_,rfl,SqT.of hT',rfl,⟨_,_,rfl,?_⟩⟩
  refine⟨_,_,rfl,?_⟩
  refine⟨rfl,?_⟩
  nofun
  refine⟨pa,n,p.2,rfl,hpw',hb p pm,λH2 s2=>?_⟩
  cases hc:decide (n∈zaD p.2.deeds) with
  | false=>
   have hc':=of_decide_eq_false hc
   nofun
   refine⟨_,_,kv,w,rfl,o.trans s2.offA,s2 _ _ hma',hk',λp' hp'=>?_,hsub⟩
   rw[hw p' hp',tk]
   refine⟨λz=>⟨z.1,λy=>?_⟩,λz=>⟨z.1,λy=>z.2 (zma.mpr (.inl y))⟩⟩
   rcases zma.mp y with y | y
   ·exact z.2 y
   ·rw[zms.mp y];exact hc'
  | true=>
   have hc':=of_decide_eq_true hc
   have kl:=hk'.len
   rw[zlm] at kl
   nofun
   refine⟨ma,_,rfl,DPut.k (k:=.inl p.1) (s2 _ _ hma') (zbs (by omega)),?_⟩
   have pin:p.1∈ps.map (·.1):=zmm.mpr ⟨p,pm,rfl⟩
   have put:=hk'.put' (P':=mdB (w.filter λm=>decide (m≠p.1))) (m:=p.1) (v:=.bl false) (by unfold mdB;rw[decide_eq_false (by simp)]) λk v ne e=>by
    unfold mdB at e ⊢
    rw[e]
    congr 1
    rw[Bool.eq_iff_iff]
    simp[ne]
   rw[if_pos pin] at put
   refine⟨_,_,_,_,rfl,(o.trans s2.offA).trans (zcb (by simp)),zad,put,λp' hp'=>?_,λm hm=>hsub m (List.mem_filter.mp hm).1⟩
   rw[List.mem_filter,decide_eq_true_eq,hw p' hp',tk]
   constructor
   ·rintro⟨⟨z1,z2⟩,z3⟩
    refine⟨z1,λy=>?_⟩
    rcases zma.mp y with y | y
    ·exact z2 y
    ·exact absurd (by rw[zms.mp y]) z3
   ·rintro⟨z1,z2⟩
    refine⟨⟨z1,λy=>z2 (zma.mpr (.inl y))⟩,λz=>?_⟩
    have:=znv nd hp' pm z
    subst this
    exact z2 (zma.mpr (.inr (zms.mpr rfl))) hc'
 ·rintro σ H' ⟨x,y,kv,w,rfl,o,hma',hk',hw,hsub⟩
  nofun
  refine q _ _ _ o hma' hk' (λp hp=>?_) hsub
  rw[hw p hp,←r2.1,List.take_of_length_le (Nat.le_refl _)]
  exact⟨λz=>⟨z.1,z.2 hp⟩,λz=>⟨z.1,λ_=>z.2⟩⟩
def zhP (gs:List Du):List (Option (Int × List Int)):=gs.map λg=>za3 g.1 g.2
theorem zhg (gs:List Du):(zhP gs).any Option.isNone=true↔¬ zbG gs:=by
 unfold zhP zbG found
 rw[List.any_map,List.any_eq_true]
 constructor
 ·rintro⟨g,hg,e⟩ z
  have:=z g hg
  have e:(za3 g.1 g.2).isNone=true:=e
  cases h:za3 g.1 g.2 with
  | none=>rw[h] at this;cases this
  | some r=>rw[h] at e;cases e
 ·intro z
  refine Classical.byContradiction λw=>z λg hg=>?_
  cases h:za3 g.1 g.2 with
  | none=>exact absurd ⟨g,hg,by show (za3 g.1 g.2).isNone=true;rw[h];rfl⟩ w
  | some r=>rfl
theorem zgi (gs:List Du):(gs.map λg=>rowD (za3 g.1 g.2))=(zhP gs).map rowD:=by unfold zhP;rw[List.map_map];rfl
theorem znw {gs:List Du}(hf:∀ g∈gs,zfj g) (h:∀ g∈gs,found g):zkw (zhj gs):=λr hr=>by
 obtain⟨i,e⟩:=List.getElem?_of_mem hr
 have hi:i<gs.length:=by rw[←zjr];exact (zge.mp e).1
 obtain⟨r',e',es⟩:=zjq h (List.getElem?_eq_getElem hi)
 rw[e] at e';cases e'
 obtain⟨w,ws⟩:=r
 obtain⟨b1,b2,_⟩:=zhJ es
 obtain⟨c1,c2⟩:=zb6 _ _ b2
 have g4:=(hf _ (List.getElem_mem hi)).2.1
 refine⟨by show ws.length≤1000;omega,by unfold CB;show _∧_;omega,λx hx=>?_⟩
 rcases c2 x hx with z | z <;> rw[z] <;> unfold CB <;> omega
theorem znx {cr:Int→Cr}{ws ws2:List Int}{n:Int}(wk:WsOk cr ws) (hw2:∀ m,m∈ws2↔m∈ws∨(m=n∧zbG ((cr n).gs cr))):(n∈ws2↔zbG ((cr n).gs cr))∧WsOk cr ws2∧(!(zhP ((cr n).gs cr)).any Option.isNone)=decide (n∈ws2)∧∀ m,m≠n→(m∈ws↔m∈ws2):=by
 have k1:n∈ws2↔zbG ((cr n).gs cr):=by
  rw[hw2]
  exact⟨λz=>by rcases z with z | z;exact wk n z;exact z.2,λz=>.inr ⟨rfl,z⟩⟩
 have rn:=zhg ((cr n).gs cr)
 refine⟨k1,λm hm=>?_,?_,λm ne=>?_⟩
 ·rcases (hw2 m).mp hm with z | z
  ·exact wk m z
  ·rw[z.1];exact z.2
 ·by_cases z:zbG ((cr n).gs cr)
  ·rw[decide_eq_true (k1.mpr z),Bool.eq_false_iff.mpr (λw=>rn.mp w z)];rfl
  ·rw[decide_eq_false (λw=>z (k1.mp w)),rn.mpr z];rfl
 ·rw[hw2]
  exact⟨.inl,λz=>by rcases z with z | z;exact z;exact absurd z.1 ne⟩
theorem i_ifE {c:TT}{t u:TS}{D:Ends}{σ:L2.St}{H:Hp}(P:Prop) (hc:∀ Q:Bool→Hp→Prop,(P→Q true H)→(¬ P→Q false H)→c σ H Q) (ht:P→t D σ H) (hu:¬ P→u D σ H):tIfS c t u D σ H:=hc (λb H1=>if b=true then t D σ H1 else u D σ H1) (λp=>iteT (ht p)) (λp=>iteF (hu p))
inductive DSt (cH cC:Addr) (H H':Hp) (ha la va ma:Addr) (cr:Int→Cr) (n:Int) (ps:List (Int × Cr)) (bd:Int) (pl pa:Addr):Prop
 | mk (ks' ws':List Int) (fp':List Addr) (kvs':List (Key × V)) (w:List Int) (c':Cr):NoD H H'→HAt cH cC H' ha la va ks' (setC cr n c') ws' fp'→H' ma=some (.dK kvs')→KVs (mdB w) kvs' (ps.map (·.1))→(∀ m∈ps.map (·.1),m≠n→(m∈w↔m∈ws'))→n∉ws'→WsOk (setC cr n c') ws'→c'.at H' (.ref pa)→FineB (bd+1) c'→(∀ m∈zaD c'.deeds,m∈ps.map (·.1))→(∀ m,m∈ks'↔m∈ps.map (·.1))→pl∉fp'→DSt cH cC H H' ha la va ma cr n ps bd pl pa
def DJ (cH cC:Addr) (H:Hp) (ha la va pl ma:Addr) (at' cl n way bd:Int) (cr:Int→Cr) (ps:List (Int × Cr)) (pa:Addr) (i j:Int) (σ:L2.St) (H':Hp):Prop:=∃ pb x8,σ=[some (.ref ha),some (.ref pl),some (.ref ma),some (.int at'),some (.int cl),some (.int n),some (.ref pb),some (.int way),x8,none]∧(way<i∧DSt cH cC H H' ha la va ma cr n ps bd pl pb∨j≤way∧pa=pb∧H'=H)
inductive Q73 (K:Fg) (C:Nat→Addr) (vs:List V) (H:Hp) (Q:VK) (E:XK):Prop
 | mk (ha la va pl ma:Addr) (at' cl bd:Int) (ks:List Int) (cr:Int→Cr) (ws:List Int) (fp:List Addr) (ps:List (Int × Cr)) (kvs:List (Key × V)) (n:Int) (c:Cr):vs=[.ref ha,.ref pl,.ref ma,.int at',.int cl]→HAt (C 6) (C 0) H ha la va ks cr ws fp→zcv H pl ps→H ma=some (.dK kvs)→KVs (mdB ws) kvs (ps.map (·.1))→ma≠la→ma≠va→PsK bd ks cr ps→WsOk cr ws→0≤at'→ps[at'.toNat]?=some (n,c)→0≤bd→bd<1000000000→pl∉fp→(∀ pa H' ks' ws' fp' kvs' c',NoD H H'→HAt (C 6) (C 0) H' ha la va ks' (setC cr n c') ws' fp'→H' ma=some (.dK kvs')→KVs (mdB ws') kvs' (ps.map (·.1))→WsOk (setC cr n c') ws'→c'.at H' (.ref pa)→FineB (bd+1) c'→(∀ m∈zaD c'.deeds,m∈ps.map (·.1))→(∀ m,m∈ks'↔m∈ps.map (·.1))→pl∉fp'→Q (.ref pa) H')→Q73 K C vs H Q E
include B Z in
theorem zny (Q6d:Fnx P w K mg b8 "_law_laid" ["hall","number","parts"] 9 (Q6c K C)) (G_l_other:Fn P w K mg b8 "_law_other" ["parts","cell"] 1 (Q70 K)) (Q42:Mth (CX1 P w) P w K mg b8 (C 6) "tear" ["self","number"] 4 (Q41 K C)) (Q6f:Fn P w K mg b8 "_law_loosen" ["placed","model","number"] 2 (Q6e K)) (Q46:Mth (CX1 P w) P w K mg b8 (C 6) "seek" ["self","number"] 8 (Q45 K C)) (Q72:Fn P w K mg b8 "_law_same" ["hall","placed","model"] 2 (Q71 K C)) (Q44:Mth (CX1 P w) P w K mg b8 (C 6) "vouch" ["self","number","rows"] 8 (Q43 K C)) (F:Fun K "_law_done" "_law_done" zf6 f fd) (m:mg "_law_done"=some (.ref f)):Fnx P w K mg b8 "_law_done" ["hall","placed","model","at","cell"] 10 (Q73 K C):=by
 refine⟨f,fd,F.okx (k:=9) zcW (λvs H Q E h=>?_) (λcdv A outer s H vs Q E hr h=>?_),F.binds λ_ _ _ _ _ _ us hl=>match us,hl with | [_,_,_,_,_],_=>rfl,F.kp,m⟩
 ·first
  | (obtain⟨_,_,_,_,_,_,_,_,_,_,_,_,_,_,_,_,rfl,_⟩:=h;rfl)
 obtain⟨ha,la,va,pl,ma,at',cl,bd,ks,cr,ws,fp,ps,kvs,n,c,rfl,hA,PA,hma,hk,nla,nva,pk,wk,a0,ep,b0,b9,npf,q⟩:=h
 refine⟨_,(QSs.run (zba (QS.mk (ziE (zaH (k_ix K) (pv 1) (pv 3) (λ_ _=>rfl)) (zfM K (n:=2) rfl (zbw (zas (i:=5) zcW.nd rfl (Or.inl rfl)) (zbw (zas (i:=6) zcW.nd rfl (Or.inl rfl)) zeg)))))
   (zba (QS.mk (zay (i:=7) zcW.nd rfl (Or.inl rfl) (zam zaV (pv 4) zaa)))
   (zba (QS.mk (za0 (zau (k_eq K hr) (pv 7) zaa (zav _)) (zaj (zbc (zfN Q6d hr rfl zcf (zab (pv 0) (zab (pv 5) (zab (pv 6) zac)))))) zax))
   (zba (zn8 (zau (k_eq K hr) (pv 7) zaa (zav _)) (zba (QS.mk (zay (i:=6) zcW.nd rfl (Or.inl rfl) (zaE (zaR (zaH (k_ix K) (pv 6) zaa (λ_ _=>rfl)) (zaR (zaH (k_ix K) (pv 6) zaa (λ_ _=>rfl)) (zaP (zam (zaL K) (zf8 (k_sl K) (zaH (k_ix K) (pv 6) zaa (λ_ _=>rfl)) zhV (zhW (zdZ zcp zaa))) (zaE (zeK (zbn (zae zbr (zaP (zam (zaL K) (zaE (zae zaa zac)) (zam zbT (zaE (zae zaa zac)) zaa)) zac))) zac))) (zaR (zaH (k_ix K) (pv 6) zaa (λ_ _=>rfl)) zac)))))))
   (zgE (QS.mk (zbc (zfN Q6d hr rfl zcf (zab (pv 0) (zab (pv 5) (zab (pv 6) zac)))))))) zh7)
   (zba (zn8 (zau (k_eq K hr) (pv 7) zaa (zav _)) (zba (QS.mk (zay (i:=8) zcW.nd rfl (Or.inl rfl) (zap G_l_other hr rfl (zab (pv 6) (zaP (zam zaS (pv 4) zaa) zac)))))
   (zba (QS.mk (zbc (zfN Q6d hr rfl zcf (zab (pv 0) (zab (pv 5) (zab (pv 8) zac))))))
   (zba (QS.mk (za0 (PW.pt (zjU (zau (k_ne K hr) (zaH (k_ix K) (pv 8) zaa (λ_ _=>rfl)) (zaH (k_ix K) (pv 6) zaa (λ_ _=>rfl)) (zav _)) (ziC (zau (k_ne K hr) (zaH (k_ix K) (pv 8) zaa (λ_ _=>rfl)) (zaH (k_ix K) (pv 6) zaa (λ_ _=>rfl)) (zav _))))) (zaj (zbc (zap Q6f hr rfl (zab (pv 1) (zab (pv 2) (zab (pv 5) zac)))))) zax))
   (zgE (QS.mk (zay (i:=6) zcW.nd rfl (Or.inl rfl) (pv 8))))))) zh7)
   (zba (zn8 (zau (k_eq K hr) (pv 7) zaa (zav _)) (zba (QS.mk (zbc (zcr Q42 Z.c_Hall hr zcf (pv 0) (zab (pv 5) zac))))
   (zba (QS.mk (zdE (hr_u hr) (pv 2) (pv 5) zef rfl))
   (zba (QS.mk (zbc (zap Q6f hr rfl (zab (pv 1) (zab (pv 2) (zab (pv 5) zac))))))
   (zba (QS.mk (za0 (ze5 (zcQ (zap Q72 hr rfl (zab (pv 0) (zab (pv 1) (zab (pv 2) zac)))))) (zaj (zao zeI)) zax))
   (zgE (QS.mk (zbc (zfN Q6d hr rfl zcf (zab (pv 0) (zab (pv 5) (zab (pv 6) zac))))))))))) zh7)
   (zba (QS.mk (za0 (zau (k_eq K hr) (pv 7) zaa (zav _)) (zag (zdE (hr_u hr) (pv 2) (pv 5) (zbh (zh8 K hr) zeI (zcr Q46 Z.c_Hall hr zcf (pv 0) (zab (pv 5) zac)) rfl) rfl)
   (zaj (zao (pv 6)))) zax))
   (zba (zn8 (zau (k_eq K hr) (pv 7) zaa (zav _)) (zba (QS.mk (zay (i:=9) zcW.nd rfl (Or.inl rfl) (zcr Q46 Z.c_Hall hr zcf (pv 0) (zab (pv 5) zac))))
   (zba (QS.mk (zdE (hr_u hr) (pv 2) (pv 5) (zbh (zh8 K hr) zeI (pv 9) rfl) rfl))
   (zba (QS.mk (za0 (zcQ (zei (hr_u hr) (pv 2) (pv 5) (λ_ _=>rfl))) (zag (zbc (zfN Q6d hr rfl zcf (zab (pv 0) (zab (pv 5) (zab (pv 6) zac)))))
   (zaj (zbc (zcr Q44 Z.c_Hall hr zcf (pv 0) (zab (pv 5) (zab (pv 9) zac)))))) zax))
   (zgE (QS.mk (zao (pv 6))))))) zh7)
   (zba (QS.mk (zdE (hr_u hr) (pv 2) (pv 5) zef rfl))
   (zgE (QS.mk (zao (pv 6)))))))))))))),?_⟩
 obtain⟨pvs,hpv,r2⟩:=id PA
 have hi:at'.toNat<ps.length:=(zge.mp ep).1
 obtain⟨v,hv⟩:∃ v,pvs[at'.toNat]?=some v:=⟨_,List.getElem?_eq_getElem (by rw[←r2.1];exact hi)⟩
 obtain⟨T,w0,rfl,hT,hc⟩:=r2.2 _ _ v ep hv
 obtain⟨pa,rfl⟩:∃ pa,w0=.ref pa:=by obtain⟨pa,_,_,_,_,_,_,e,_⟩:=hc;exact⟨pa,e⟩
 have hc:c.at H (.ref pa):=hc
 have pm:=zmg ep
 have nm:n∈ps.map (·.1):=zmm.mpr ⟨_,pm,rfl⟩
 have nk:n∈ks:=(pk.mem n).mpr nm
 have ec:cr n=c:=pk.cr _ pm
 have fc:FineB bd c:=pk.fine _ pm
 have nb:=pk.nb n nm
 have nI:n.natAbs<zbE:=by unfold zbE;omega
 have kl:=hk.len
 rw[zlm] at kl
 have few:=pk.few
 have call:∀ m∈zaD (cr n).deeds,m∈ks:=λm hm=>(pk.mem m).mpr (pk.cl _ pm m (by rw[←ec];exact hm))
 have sub:=hA.sub
 have cAt:∀ p∈ps,zcg ks cr p.1=zaD p.2.deeds:=λp hp=>by
  unfold zcg
  rw[if_pos ((pk.mem p.1).mpr (zmm.mpr ⟨p,hp,rfl⟩)),pk.cr p hp]
 have fu:FineB (bd+1) c:=⟨fc.rt,fc.l1,λl hl=>by have:=fc.hd l hl;omega⟩
 have cc:∀ m∈zaD c.deeds,m∈ps.map (·.1):=pk.cl _ pm
 have nfp:∀ {Hx:Hp}{fpx:List Addr},NoD H Hx→(∀ b∈fpx,b∈fp∨Hx b=none)→pl∉fpx:=λ{Hx fpx} nd hf z=>by
  rcases hf pl z with w | w
  ·exact npf w
  ·rw[nd _ _ hpv (λ_ y=>by cases y)] at w;cases w
 nofun
 walk_at "q"
 nofun
 refine zbA (SqL.of hpv) (v:=.ref T) (zmK a0 hv) ?_
 refine⟨T,_,rfl,SqT.of hT,rfl,⟨_,_,rfl,?_⟩⟩
 refine⟨_,_,rfl,?_⟩
 refine⟨rfl,?_⟩
 have c0:=Int.emod_nonneg cl (show (6:Int)≠0 by decide)
 have c6:=Int.emod_lt_of_pos cl (show (0:Int)<6 by decide)
 nofun
 walk_at "q"
 nofun
 generalize cl % 6=way at c0 c6 ⊢
 nofun
 -- laid as it is
 with_reducible refine zdM (DJ (C 6) (C 0) H ha la va pl ma at' cl n way bd cr ps pa 1 1) (λNX tail=>?_) ?_
 ·nofun
  refine zcT (λe=>?_) (λe=>?_)
  ·have e:=of_decide_eq_true e
   nofun
   refine⟨ha,la,va,pa,n,ks,cr,ws,fp,c,rfl,hA,hc,fc.rt,nI,.inl nk,λH2 ks2 ws2 fp2 nd2 hA2 hks2 _ hw2 hd2 hf2=>?_⟩
   obtain⟨u1,u2,u3,_⟩:=zko nk sub wk hw2
   have e2:=hks2 nk
   nofun
   exact tail _ _ ⟨pa,_,rfl,.inl ⟨by omega,.mk ks2 ws2 fp2 kvs ws c nd2 hA2 (hd2 ma kvs hma nla nva) hk (λm _ ne=>u3 (by rw[ec];exact⟨rfl,rfl⟩) m ne) u1 u2 (hc.nod nd2) fu cc (by rw[e2];exact pk.mem) (nfp (Same.refl _).nod hf2)⟩⟩
  ·have e:=of_decide_eq_false e
   nofun
   exact tail _ _ ⟨pa,none,rfl,.inr ⟨by omega,rfl,rfl⟩⟩
 rintro σ H1 ⟨pb,x8,rfl,hst⟩
 -- laid with another last deed
 with_reducible refine zdM (DJ (C 6) (C 0) H ha la va pl ma at' cl n way bd cr ps pa 2 2) (λNX tail=>?_) ?_
 ·nofun
  refine zcT (λe=>?_) (λe=>?_)
  ·have e:=of_decide_eq_true e
   rcases hst with ⟨lt,_⟩ | ⟨_,rfl,rfl⟩
   ·omega
   obtain⟨qa,y1,y2,a3,a4,dvs,nvs,e',hq,L1,L2',h3,h4,hD,hN⟩:=id hc
   cases e'
   nofun
   walk_at "q"
   nofun
   refine zbA (SqL.of hq) (v:=.ref y1) zbV ?_
   nofun
   refine zbA (SqL.of hq) (v:=.ref y2) (zaN (j:=1) rfl) ?_
   nofun
   refine zbA (SqL.of hq) (v:=.ref a3) (zaN (j:=2) rfl) ?_
   nofun
   refine .inl ⟨a3,dvs,rfl,SqL.of h3,λz0 hz0=>?_⟩
   rw[zot]
   have r0:=zaf hz0 (.lst dvs.dropLast)
   have e0:=zad (H:=H1) (a:=z0) (o:=.lst dvs.dropLast)
   generalize upd H1 z0 (.lst dvs.dropLast)=H2 at *
   nofun
   refine zp2 λz4 H3 rr f4 e4=>?_
   nofun
   refine⟨(by walk_at "sm"),λz5 hz5=>?_⟩
   have r5:=zaf hz5 (.tup [V.str "hold",.ref z4])
   nofun
   refine⟨(by walk_at "sm"),λz6 hz6=>?_⟩
   have r6:=zaf hz6 (.lst [V.ref z5])
   have ld:=hD.1
   have d8:=fc.rt.parts.2.2.1
   refine zbz (r6 _ _ (r5 _ _ (rr _ _ e0))) zad (zan (by rw[List.length_dropLast];show _+1≤1000;omega)) λz7 hz7=>?_
   have r7:=zaf hz7 (.lst (dvs.dropLast++[V.ref z5]))
   have r07:=r0.trans (rr.trans (r5.trans (r6.trans r7)))
   have hd5:zcE (upd (upd (upd H3 z5 (.tup [V.str "hold",.ref z4])) z6 (.lst [V.ref z5])) z7 (.lst (dvs.dropLast++[V.ref z5]))) (toD (.hold one9)) (.ref z5):=zj5 (zic (show zeH (.hold one9) from rfl)) (fp:=[z4]) (by
    unfold toD RepF
    exact⟨z5,_,rfl,r7 _ _ (r6 _ _ zad),zak.cstr (zak.cany (f:=[z4]) (RepF.line (r7 _ _ (r6 _ _ (r5 _ _ e4)))) zak.nil)⟩)
   have e7:=zad (H:=upd (upd H3 z5 (.tup [V.str "hold",.ref z4])) z6 (.lst [V.ref z5])) (a:=z7) (o:=.lst (dvs.dropLast++[V.ref z5]))
   generalize upd (upd (upd H3 z5 (.tup [V.str "hold",.ref z4])) z6 (.lst [V.ref z5])) z7 (.lst (dvs.dropLast++[V.ref z5]))=H4 at *
   nofun
   refine zbA (SqL.of (r07 _ _ hq)) (v:=.ref a4) (zaN (j:=3) rfl) ?_
   nofun
   refine⟨(by walk_at "sm"),λpb hpb=>?_⟩
   have r8:=zaf hpb (.lst [V.ref y1,.ref y2,.ref z7,.ref a4])
   have r08:=r07.trans r8
   have hcb:({c with deeds:=zih c.deeds} : Cr).at (upd H4 pb (.lst [V.ref y1,.ref y2,.ref z7,.ref a4])) (.ref pb):=⟨pb,y1,y2,z7,a4,_,nvs,rfl,zad,L1.same r08,L2'.same r08,r8 _ _ e7,r08 _ _ h4,zp1 (hD.same r08) (hd5.sq r8.sq),hN.mono λ_ _ ⟨b,e,z⟩=>⟨b,e,z.same r08⟩⟩
   generalize upd H4 pb (.lst [V.ref y1,.ref y2,.ref z7,.ref a4])=H5 at *
   nofun
   refine⟨ha,la,va,pb,n,ks,cr,ws,fp,_,rfl,hA.same r08,hcb,(zhN fc).rt,nI,.inl nk,λH6 ks2 ws2 fp2 nd2 hA2 hks2 _ hw2 hd2 hf2=>?_⟩
   obtain⟨u1,u2,u3,_⟩:=zko nk sub wk hw2
   have e2:=hks2 nk
   nofun
   exact tail _ _ ⟨pb,_,rfl,.inl ⟨by omega,.mk ks2 ws2 fp2 kvs ws _ (r08.nod.trans nd2) hA2 (hd2 ma kvs (r08 _ _ hma) nla nva) hk (λm _ ne=>u3 (by rw[ec];exact⟨rfl,rfl⟩) m ne) u1 u2 (hcb.nod nd2) (zhN fc) (λm hm=>cc m (zjv m hm)) (by rw[e2];exact pk.mem) (nfp r08.nod hf2)⟩⟩
  ·have e:=of_decide_eq_false e
   nofun
   exact tail _ _ ⟨pb,x8,rfl,hst.elim (λz=>.inl ⟨by omega,z.2⟩) (λz=>.inr ⟨by omega,z.2⟩)⟩
 clear hst
 rintro σ H1 ⟨pb,x8,rfl,hst⟩
 -- another oath
 with_reducible refine zdM (DJ (C 6) (C 0) H ha la va pl ma at' cl n way bd cr ps pa 3 3) (λNX tail=>?_) ?_
 ·nofun
  refine zcT (λe=>?_) (λe=>?_)
  ·have e:=of_decide_eq_true e
   rcases hst with ⟨lt,_⟩ | ⟨_,rfl,rfl⟩
   ·omega
   nofun
   walk_at "q"
   nofun
   refine⟨pa,_,bd,c,rfl,hc,fc,b0,b9,λpb H2 nds lvs s2 hcb ok=>?_⟩
   have rtb:=fc.rt.oath ok.n2 (λl hl=>(ok.n l hl).1) ok.l2 ok.l
   have fib:FineB (bd+1) ({c with needs:=nds,leaves:=lvs} : Cr):=⟨rtb,ok.l1,λl hl=>(ok.n l hl).2⟩
   nofun
   walk_at "q"
   nofun
   refine⟨ha,la,va,pb,n,ks,cr,ws,fp,_,rfl,hA.same s2,hcb,rtb,nI,.inl nk,λH3 ks3 ws3 fp3 nd3 hA3 hks3 _ hw3 hd3 hf3=>?_⟩
   obtain⟨u1,u2,u3,u4⟩:=zko nk sub wk hw3
   rw[ec] at u3 u4
   have e3:=hks3 nk
   have nd03:=s2.nod.trans nd3
   have hma3:=hd3 ma kvs (s2 _ _ hma) nla nva
   have hcb3:=hcb.nod nd3
   have hc3:=hc.nod nd03
   obtain⟨qa,y1,y2,a3,a4,dvs,nvs,e',hq,L1,L2',_⟩:=id hc3
   cases e'
   obtain⟨qb,x1,x2,a5,a6,_,_,e',hqb,M1,M2,_⟩:=id hcb3
   cases e'
   nofun
   with_reducible refine zdM (λσ H'=>σ=[some (.ref ha),some (.ref pl),some (.ref ma),some (.int at'),some (.int cl),some (.int n),some (.ref pa),some (.int way),some (.ref pb),none]∧∃ kv w,OffA [ma] H3 H'∧H' ma=some (.dK kv)∧KVs (mdB w) kv (ps.map (·.1))∧∀ m∈ps.map (·.1),m≠n→(m∈w↔m∈ws3)) (λNX tail=>?_) ?_
   ·refine i_ifE (¬ (c.needs=nds∧c.leaves=lvs)) (λQ q1 q2=>?_) (λso=>?_) (λso=>?_)
    ·nofun
     refine zbA (SqL.of hqb) (v:=.ref x1) zbV ?_
     nofun
     refine zbA (SqL.of hq) (v:=.ref y1) zbV ?_
     refine zqZ (d:=zaF nds) (e:=zaF c.needs) M1.rep L1.rep (Nat.le_trans (zfc _) (by decide)) ?_
     rw[zeF]
     by_cases z1:nds=c.needs
     ·rw[decide_eq_true z1]
      nofun
      refine zbA (SqL.of hqb) (v:=.ref x2) (zaN (j:=1) rfl) ?_
      nofun
      refine zbA (SqL.of hq) (v:=.ref y2) (zaN (j:=1) rfl) ?_
      refine zqZ (d:=zaF lvs) (e:=zaF c.leaves) M2.rep L2'.rep (Nat.le_trans (zfc _) (by decide)) ?_
      rw[zeF]
      by_cases z2:lvs=c.leaves
      ·rw[decide_eq_true z2]
       nofun
       exact q2 λw=>w ⟨z1.symm,z2.symm⟩
      ·rw[decide_eq_false z2]
       nofun
       exact q1 λw=>z2 w.2.symm
     ·rw[decide_eq_false z1]
      nofun
      exact q1 λw=>z1 w.1.symm
    ·nofun
     refine⟨pl,ma,n,ps,kvs,ws,rfl,PA.nod nd03,λp hp=>(pk.fine p hp).rt.nine.d,hma3,hk,by omega,pk.nd,λH4 kv4 w4 o4 hma4 hk4 hw4 _=>?_⟩
     nofun
     refine tail _ _ ⟨rfl,kv4,w4,o4,hma4,hk4,λm hm ne=>?_⟩
     obtain⟨p,hp,rfl⟩:=zmm.mp hm
     rw[hw4 p hp,u4 so p.1 ne,cAt p hp]
    ·have so:=Classical.not_not.mp so
     nofun
     exact tail _ _ ⟨rfl,kvs,ws,(Same.refl _).offA,hma3,hk,λm _ ne=>u3 so m ne⟩
   rintro σ H4 ⟨rfl,kv4,w4,o4,hma4,hk4,hw4⟩
   have nd4:NoD H3 H4:=o4.nod λb hb=>by rw[zms.mp hb];exact⟨_,hma3⟩
   nofun
   exact tail _ _ ⟨pb,_,rfl,.inl ⟨by omega,.mk ks3 ws3 fp3 kv4 w4 _ (nd03.trans nd4) (zdA hA3 hma3 nla nva o4) hma4 hk4 hw4 u1 u2 (hcb3.nod nd4) fib cc (by rw[e3];exact pk.mem) (nfp s2.nod hf3)⟩⟩
  ·have e:=of_decide_eq_false e
   nofun
   exact tail _ _ ⟨pb,x8,rfl,hst.elim (λz=>.inl ⟨by omega,z.2⟩) (λz=>.inr ⟨by omega,z.2⟩)⟩
 clear hst
 rintro σ H1 ⟨pb,x8,rfl,hst⟩
 -- torn,and laid again
 with_reducible refine zdM (DJ (C 6) (C 0) H ha la va pl ma at' cl n way bd cr ps pa 4 4) (λNX tail=>?_) ?_
 ·nofun
  refine zcT (λe=>?_) (λe=>?_)
  ·have e:=of_decide_eq_true e
   rcases hst with ⟨lt,_⟩ | ⟨_,rfl,rfl⟩
   ·omega
   obtain⟨dx,hh⟩:=hA.ins
   nofun
   walk_at "q"
   nofun
   refine⟨ha,dx,_,rfl,hh,zd2 (by decide +kernel) (by decide +kernel),?_⟩
   nofun
   refine⟨ha,la,va,n,ks,cr,ws,fp,rfl,hA,nI,λz=>absurd nk z,λ_ H2 ws2 o2 hA2 hw2=>?_⟩
   have hma2:=o2 ma _ (by simp[nla,nva]) hma
   obtain⟨kla,ela,_⟩:=hA.laid
   obtain⟨kva,eva,_⟩:=hA.vou
   have nd2:NoD H1 H2:=o2.nod λb hb=>by
    simp only[List.mem_cons,List.not_mem_nil,or_false] at hb
    rcases hb with z | z
    ·rw[z];exact⟨_,ela⟩
    ·rw[z];exact⟨_,eva⟩
   nofun
   walk_at "q"
   nofun
   refine⟨ma,_,rfl,DPut.k (k:=.inl n) hma2 (zbs (by omega)),?_⟩
   have o3:OffA [ma] H2 (upd H2 ma (.dK (putK kvs (.inl n) (.bl false)))):=zcb (by simp)
   have hk3:=zjt (ws:=ws.filter λm=>decide (m≠n)) (b:=false) hk nm (by rw[decide_eq_false (by simp)]) (λm _ ne=>by simp[ne])
   have hA3:=zdA hA2 hma2 nla nva o3
   have hma3:(upd H2 ma (.dK (putK kvs (.inl n) (.bl false)))) ma=some (.dK (putK kvs (.inl n) (.bl false))):=zad
   have nd3:NoD H2 (upd H2 ma (.dK (putK kvs (.inl n) (.bl false)))):=zc2 hma2
   generalize upd H2 ma (.dK (putK kvs (.inl n) (.bl false)))=H3 at *
   generalize putK kvs (.inl n) (.bl false)=kv3 at *
   have nd03:=nd2.trans nd3
   nofun
   walk_at "q"
   nofun
   refine⟨pl,ma,n,ps,kv3,_,rfl,PA.nod nd03,λp hp=>(pk.fine p hp).rt.nine.d,hma3,hk3,by omega,pk.nd,λH4 kv4 w4 o4 hma4 hk4 hw4 _=>?_⟩
   have nd4:NoD H3 H4:=o4.nod λb hb=>by rw[zms.mp hb];exact⟨_,hma3⟩
   have nd04:=nd03.trans nd4
   have hA4:=zdA hA3 hma3 nla nva o4
   have eqw:∀ m∈ps.map (·.1),(m∈w4↔m∈ws2):=λm hm=>by
    obtain⟨p,hp,rfl⟩:=zmm.mp hm
    rw[hw4 p hp,hw2,cAt p hp,List.mem_filter,decide_eq_true_eq]
    exact⟨λz=>⟨z.1.1,z.1.2,z.2⟩,λz=>⟨⟨z.1,z.2.1⟩,z.2.2⟩⟩
   have hk5:KVs (mdB ws2) kv4 (ps.map (·.1)):=⟨hk4.1,hk4.2.1,λm hm=>by
    obtain⟨v,e1,e2⟩:=hk4.2.2 m hm
    refine⟨v,e1,?_⟩
    unfold mdB at e2 ⊢
    rw[e2]
    congr 1
    exact Bool.eq_iff_iff.mpr (by rw[decide_eq_true_eq,decide_eq_true_eq];exact eqw m hm)⟩
   nofun
   walk_at "q"
   nofun
   refine⟨ha,la,va,pl,ma,_,cr,ws2,fp,ps,kv4,rfl,hA4,PA.nod nd04,hma4,hk5,?_⟩
   nofun
   have nks:n∉ks.filter λk=>decide (k≠n):=λz=>by simp at z
   refine⟨ha,la,va,pa,n,_,cr,ws2,fp,c,rfl,hA4,hc.nod nd04,fc.rt,nI,.inr ?_,λH5 ks5 ws5 fp5 nd5 hA5 _ hks5 hw5 hd5 hf5=>?_⟩
   ·have:=hA.few
    have:(ks.filter λk=>decide (k≠n)).length<ks.length:=List.length_filter_lt_length_iff_exists.mpr ⟨n,nk,by simp⟩
    omega
   have e5:=hks5 nks
   have w5:∀ m,m∈ws5↔m∈ws2:=λm=>by
    rw[hw5]
    exact⟨λz=>z.1,λz=>⟨z,((hw2 m).mp z).2.1,λy=>absurd y nks⟩⟩
   nofun
   exact tail _ _ ⟨pa,_,rfl,.inl ⟨by omega,.mk ks5 ws5 fp5 kv4 w4 c (nd04.trans nd5) hA5 (hd5 ma kv4 hma4 nla nva) hk4 (λm hm _=>by rw[w5];exact eqw m hm) (λz=>((hw2 n).mp ((w5 n).mp z)).2.1 rfl) (wk.set (ks:=ks) λm hm=>by
     obtain⟨z1,z2,z3⟩:=(hw2 m).mp ((w5 m).mp hm)
     exact⟨sub m z1,z1,z2,λ_=>z3⟩) (hc.nod (nd04.trans nd5)) fu cc (λm=>by
     rw[e5,←pk.mem]
     simp only[zma,List.mem_filter,decide_eq_true_eq,zms]
     exact⟨λz=>by rcases z with z | z;exact z.1;rw[z];exact nk,λz=>by by_cases y:m=n;exact .inr y;exact .inl ⟨z,y⟩⟩) (nfp nd04 hf5)⟩⟩
  ·have e:=of_decide_eq_false e
   nofun
   exact tail _ _ ⟨pb,x8,rfl,hst.elim (λz=>.inl ⟨by omega,z.2⟩) (λz=>.inr ⟨by omega,z.2⟩)⟩
 clear hst
 rintro σ H1 ⟨pb,x8,rfl,hst⟩
 -- sought
 with_reducible refine zdM (DJ (C 6) (C 0) H ha la va pl ma at' cl n way bd cr ps pa 4 5) (λNX tail=>?_) ?_
 ·nofun
  refine zcT (λe=>?_) (λe=>?_)
  ·have e:=of_decide_eq_true e
   rcases hst with ⟨lt,_⟩ | ⟨_,rfl,rfl⟩
   ·omega
   obtain⟨dx,hh⟩:=hA.ins
   obtain⟨kva,eva,_⟩:=hA.vou
   obtain⟨_,gf⟩:=(hA.rt n nk).gs (cr:=cr) λm mm=>hA.rt m (call m mm)
   nofun
   walk_at "q"
   nofun
   refine⟨ha,dx,_,rfl,hh,zd2 (by decide +kernel) (by decide +kernel),?_⟩
   nofun
   refine⟨ha,la,va,n,ks,cr,ws,fp,rfl,hA,nI,λz=>absurd nk z,λ_ ⟨m,mm,mk⟩=>absurd (call m mm) mk,λ_ _ v H2 ws2 o2 hA2 hw2 n2=>?_⟩
   have nd2:NoD H1 H2:=o2.nod λb hb=>by rw[zms.mp hb];exact⟨_,eva⟩
   have hma2:=o2 ma _ (by simp[nva]) hma
   obtain⟨k1,wk2,eq,ew⟩:=znx wk hw2
   rw[zgi] at n2
   obtain⟨ra,rvs,rfp,rfl,ra0,hra,hrr,_⟩:=New.lso n2
   have hrp:=zak.reps (K:=K) _ hrr
   nofun
   refine zh9 (SqL.of hra) hrp (Nat.le_trans (zgS _) (by decide)) ?_
   rw[zig hrp,eq]
   nofun
   refine⟨ma,_,rfl,DPut.k (k:=.inl n) hma2 (zbs (by omega)),?_⟩
   have o3:OffA [ma] H2 (upd H2 ma (.dK (putK kvs (.inl n) (.bl (decide (n∈ws2)))))):=zcb (by simp)
   have nd3:NoD H2 (upd H2 ma (.dK (putK kvs (.inl n) (.bl (decide (n∈ws2)))))):=zc2 hma2
   nofun
   have se:setC cr n c=cr:=by rw[←ec];exact zjs cr n
   exact q pa _ ks ws2 fp _ c (nd2.trans nd3) (by rw[se];exact zdA hA2 hma2 nla nva o3) zad (zjt hk nm rfl λm _=>ew m) (by rw[se];exact wk2) (hc.nod (nd2.trans nd3)) fu cc pk.mem npf
  ·have e:=of_decide_eq_false e
   nofun
   exact tail _ _ ⟨pb,x8,rfl,hst.elim (λz=>.inl z) (λz=>.inr ⟨by omega,z.2⟩)⟩
 clear hst
 rintro σ H1 ⟨pb,x8,rfl,hst⟩
 -- sought,laid and vouched for
 with_reducible refine zdM (λσ H'=>∃ pb x8,σ=[some (.ref ha),some (.ref pl),some (.ref ma),some (.int at'),some (.int cl),some (.int n),some (.ref pb),some (.int way),x8,none]∧DSt (C 6) (C 0) H H' ha la va ma cr n ps bd pl pb) (λNX tail=>?_) ?_
 ·nofun
  refine zcT (λe=>?_) (λe=>?_)
  ·have e:=of_decide_eq_true e
   rcases hst with ⟨lt,_⟩ | ⟨_,rfl,rfl⟩
   ·omega
   obtain⟨dx,hh⟩:=hA.ins
   obtain⟨kva,eva,_⟩:=hA.vou
   obtain⟨_,gf⟩:=(hA.rt n nk).gs (cr:=cr) λm mm=>hA.rt m (call m mm)
   nofun
   walk_at "q"
   nofun
   refine⟨ha,dx,_,rfl,hh,zd2 (by decide +kernel) (by decide +kernel),?_⟩
   nofun
   refine⟨ha,la,va,n,ks,cr,ws,fp,rfl,hA,nI,λz=>absurd nk z,λ_ ⟨m,mm,mk⟩=>absurd (call m mm) mk,λ_ _ v H2 ws2 o2 hA2 hw2 n2=>?_⟩
   have nd2:NoD H1 H2:=o2.nod λb hb=>by rw[zms.mp hb];exact⟨_,eva⟩
   have hma2:=o2 ma _ (by simp[nva]) hma
   obtain⟨k1,wk2,eq,ew⟩:=znx wk hw2
   rw[zgi] at n2
   obtain⟨ra,rvs,rfp,rfl,ra0,hra,hrr,_⟩:=New.lso n2
   have hrp:=zak.reps (K:=K) _ hrr
   nofun
   walk_at "q"
   nofun
   refine zh9 (SqL.of hra) hrp (Nat.le_trans (zgS _) (by decide)) ?_
   rw[zig hrp,eq]
   nofun
   refine⟨ma,_,rfl,DPut.k (k:=.inl n) hma2 (zbs (by omega)),?_⟩
   have o3:OffA [ma] H2 (upd H2 ma (.dK (putK kvs (.inl n) (.bl (decide (n∈ws2)))))):=zcb (by simp)
   have nd3:NoD H2 (upd H2 ma (.dK (putK kvs (.inl n) (.bl (decide (n∈ws2)))))):=zc2 hma2
   have hma3:(upd H2 ma (.dK (putK kvs (.inl n) (.bl (decide (n∈ws2)))))) ma=some (.dK (putK kvs (.inl n) (.bl (decide (n∈ws2))))):=zad
   have gv:valV (putK kvs (.inl n) (.bl (decide (n∈ws2)))) (.inl n)=some (.bl (decide (n∈ws2))):=by rw[zdu,if_pos rfl]
   have hA3:=zdA hA2 hma2 nla nva o3
   have se:setC cr n c=cr:=by rw[←ec];exact zjs cr n
   generalize upd H2 ma (.dK (putK kvs (.inl n) (.bl (decide (n∈ws2)))))=H3 at *
   have nd03:=nd2.trans nd3
   have fin:∀ (H':Hp) (ws5:List Int) (fp5:List Addr),pl∉fp5→NoD H1 H'→HAt (C 6) (C 0) H' ha la va ks cr ws5 fp5→H' ma=some (.dK (putK kvs (.inl n) (.bl (decide (n∈ws2)))))→(∀ m,m∈ws5↔m∈ws2)→Q (.ref pa) H':=λH' ws5 fp5 nf5 nd hA5 hm5 hw5=>
    q pa H' ks ws5 fp5 _ c nd (by rw[se];exact hA5) hm5 (zjt hk nm (Bool.eq_iff_iff.mpr (by rw[decide_eq_true_eq,decide_eq_true_eq,hw5])) (λm _ ne=>(ew m ne).trans (hw5 m).symm)) (by rw[se];exact λm hm=>wk2 m ((hw5 m).mp hm)) (hc.nod nd) fu cc pk.mem nf5
   nofun
   walk_at "q"
   nofun
   refine⟨ma,.bl (decide (n∈ws2)),rfl,by rw[←gv];exact DGet.k (k:=.inl n) hma3,?_⟩
   cases hb:decide (n∈ws2) with
   | false=>
    rw[hb] at hma3 fin
    nofun
    exact fin _ ws2 fp npf nd03 hA3 hma3 λm=>Iff.rfl
   | true=>
    rw[hb] at hma3 fin
    have nw:=of_decide_eq_true hb
    have fd:=k1.mp nw
    have er:(zhP ((cr n).gs cr)).map rowD=(zhj ((cr n).gs cr)).map zlC:=by rw[←zgi,zpZ fd]
    rw[er] at hrp
    nofun
    walk_at "q"
    nofun
    refine⟨ha,la,va,pa,n,ks,cr,ws2,fp,c,rfl,hA3,hc.nod nd03,fc.rt,nI,.inl nk,λH4 ks4 ws4 fp4 nd4 hA4 hks4 _ hw4 hd4 hf4=>?_⟩
    rw[se,hks4 nk] at hA4
    have hma4:=hd4 ma _ hma3 nla nva
    have nd34:=nd3.trans nd4
    have hra4:=nd34 _ _ hra (λ_ z=>by cases z)
    obtain⟨dx4,hh4⟩:=hA4.ins
    obtain⟨kv4,ev4,_⟩:=hA4.vou
    nofun
    refine⟨ha,dx4,_,rfl,hh4,zd2 (by decide +kernel) (by decide +kernel),?_⟩
    nofun
    refine⟨ha,la,va,ra,n,ks,cr,ws4,fp4,zhj ((cr n).gs cr),rvs,rfl,hA4,nI,SqL.of hra4,Reps.sq nd34.sq _ hrp,znw gf fd,λz=>absurd nk z,λ_ ⟨m,mm,mk⟩=>absurd (call m mm) mk,λ_ _ z=>(by rw[zkn gf fd] at z;cases z),λ_ _ _ H5 ws5 o5 hA5 hw5=>?_⟩
    nofun
    refine fin _ ws5 fp4 (nfp nd03 hf4) ((nd2.trans nd34).trans (o5.nod λb hb=>by rw[zms.mp hb];exact⟨_,ev4⟩)) hA5 (o5 _ _ (by simp[nva]) hma4) λm=>?_
    rw[hw5,hw4]
    refine⟨λz=>?_,λz=>?_⟩
    ·rcases z with z | z
     ·exact z.1
     ·rw[z];exact nw
    ·by_cases y:m=n
     ·exact .inr y
     ·exact .inl ⟨z,y,λ_ w=>absurd (by rw[ec];exact⟨rfl,rfl⟩) w⟩
  ·have e:=of_decide_eq_false e
   rcases hst with ⟨_,D⟩ | ⟨ge,_⟩
   ·nofun
    exact tail _ _ ⟨pb,x8,rfl,D⟩
   ·omega
 clear hst
 rintro σ H1 ⟨pb,x8,rfl,⟨ks',ws',fp',kvs',w,c',d1,d2,d3,d4,d5,d6,d7,d8,d9,d10,d11,d12⟩⟩
 have kl':=d4.len
 rw[zlm] at kl'
 have o3:OffA [ma] H1 (upd H1 ma (.dK (putK kvs' (.inl n) (.bl false)))):=zcb (by simp)
 have nd3:NoD H1 (upd H1 ma (.dK (putK kvs' (.inl n) (.bl false)))):=zc2 d3
 nofun
 walk_at "q"
 nofun
 refine⟨ma,_,rfl,DPut.k (k:=.inl n) d3 (zbs (by omega)),?_⟩
 nofun
 exact q pb _ ks' ws' fp' _ c' (d1.trans nd3) (zdA d2 d3 nla nva o3) zad (zjt d4 nm (by rw[decide_eq_false d6]) d5) d7 (d8.nod nd3) d9 d10 d11 d12
inductive Q74 (K:Fg) (vs:List V) (H:Hp) (Q:VK) (E:XK):Prop
 | mk (a:Addr) (ns:List Int):vs=[.ref a]→SqL K H a (ns.map V.int)→ns.length≤63→(∀ H',Q (.bl true) H')→Q74 K vs H Q E
theorem zlK {bd:Int}{c:Cr}{k:Int}(h:c.Rt) (hb:0≤bd) (e1:c.needs=(zbM k).1) (e2:c.leaves=(zbM k).2):FineB bd c:=by
 refine⟨h,?_,λl hl=>?_⟩
 ·rw[e2];unfold zbM;split <;> simp
 ·rw[e1] at hl
  unfold zbM at hl
  split at hl
  ·simp at hl
   rcases hl with rfl | rfl <;> exact hb
  ·simp at hl
   rw[hl];exact hb
theorem zqa {K:Fg}{H:Hp}{pl T a:Addr}{r:List V}{o:HO}{ns:List Int}(hp:H pl=some (.lst (.ref T::r))) (h:SqL K H a (ns.map V.int)):SqL K (upd H pl o) a (ns.map V.int):=by
 rcases h with (h | ⟨u,h⟩) | h
 ·exact .inl (.inl (by rw[zaq (zkk hp h)];exact h))
 ·refine .inl (.inr ⟨u,?_⟩)
  rw[zaq (λz=>by rw[z,hp] at h;cases h)];exact h
 ·exact .inr h
theorem zoE {cH cC:Addr}{H:Hp}{h la va pl:Addr}{ks vs:List Int}{cr:Int→Cr}{fp:List Addr}{xs:List V}{o:HO}(A:HAt cH cC H h la va ks cr vs fp) (hp:H pl=some (.lst xs)) (nf:pl∉fp):HAt cH cC (upd H pl o) h la va ks cr vs fp:=
 A.frame (ze9 hp) λb hb u e=>by
  rw[zaq (λz=>?_)]
  ·exact e
  ·simp only[List.mem_cons] at hb
   rcases hb with w | w | w | w
   ·obtain⟨dx,e'⟩:=A.ins
    rw[←w,z,hp] at e';cases e'
   ·obtain⟨kv,e',_⟩:=A.laid
    rw[←w,z,hp] at e';cases e'
   ·obtain⟨kv,e',_⟩:=A.vou
    rw[←w,z,hp] at e';cases e'
   ·exact nf (by rw[←z];exact w)
include B Z in
theorem zrC (M_Hall:Mkr P w K mg b8 "Hall" (C 6) ["self"] 1 (Q3f K C)) (Q68:Fn P w K mg b8 "_law_hall_parts" ["script","start","many","size"] 7 (Q67 K)) (Q6d:Fnx P w K mg b8 "_law_laid" ["hall","number","parts"] 9 (Q6c K C)) (Q72:Fn P w K mg b8 "_law_same" ["hall","placed","model"] 2 (Q71 K C)) (Q58:Fn P w K mg b8 "_law_cell_at" ["script","k"] 1 (Q57 K)) (G_l_done:Fnx P w K mg b8 "_law_done" ["hall","placed","model","at","cell"] 10 (Q73 K C)) (Q48:Mth CX0 P w K mg b8 (C 6) "held" ["self","number"] 1 (Q47 K C)) (Q46:Mth (CX1 P w) P w K mg b8 (C 6) "seek" ["self","number"] 8 (Q45 K C)) (F:Fun K "law" "law" zhS f fd):FnOk P w K mg b8 CX0 11 f fd ["script"] (Q74 K):=by
 refine F.ok (k:=10) zdB (λvs H Q E h=>?_) (λcdv A outer s H vs Q E hr h=>?_)
 ·obtain⟨a,ns,rfl,_⟩:=h
  rfl
 obtain⟨a,ns,rfl,hS,h63,q⟩:=h
 refine⟨_,(zag (zay (i:=1) zdB.nd rfl (Or.inl rfl) (zrs M_Hall hr rfl))
   (zag (zay (i:=2) zdB.nd rfl (Or.inl rfl) (zam (zaL K) zaa (zam zaV (zap Q58 hr rfl (zab (pv 0) (zae zaa zac))) zaa)))
   (zag (zay (i:=3) zdB.nd rfl (Or.inl rfl) (zap Q68 hr rfl (zab (pv 0) (zae zaa (zab (pv 2) (zae zaa zac))))))
   (zag (zay (i:=4) zdB.nd rfl (Or.inr rfl) zh0)
   (zag (zds PassesOwn.never rfl (zaX K (pv 3)) (zfM K (n:=2) rfl (zbw (zas (i:=5) zdB.nd rfl (Or.inl rfl)) (zbw (zas (i:=6) zdB.nd rfl (Or.inl rfl)) zeg))) (zag (zbc (zfN Q6d hr rfl zmL (zab (pv 1) (zab (pv 5) (zab (pv 6) zac)))))
   (zaj (zdE (hr_u hr) (pv 4) (pv 5) zef rfl))))
   (zag (za0 (ze5 (zcQ (zap Q72 hr rfl (zab (pv 1) (zab (pv 3) (zab (pv 4) zac)))))) (zaj (zao zef)) zax)
   (zag (zds PassesOwn.never rfl (zaX K (pv 3)) (zfM K (n:=2) rfl (zbw (zas (i:=5) zdB.nd rfl (Or.inl rfl)) (zbw (zas (i:=6) zdB.nd rfl (Or.inl rfl)) zeg))) (zag (zdE (hr_u hr) (pv 4) (pv 5) (zbh (zh8 K hr) zeI (zcr Q46 Z.c_Hall hr zmL (pv 1) (zab (pv 5) zac)) rfl) rfl)
   (zaj (za0 (ze5 (zcQ (zei (hr_u hr) (pv 4) (pv 5) (λ_ _=>rfl)))) (zaj (zao zef)) zax))))
   (zag (zds PassesOwn.never rfl (zbJ rfl B.range (zaP (zam (zaL K) zaa (zam zaV (zap Q58 hr rfl (zab (pv 0) (zae zaa zac))) zaa)) zac)) (zas (i:=7) zdB.nd rfl (Or.inl rfl)) (zag (zay (i:=8) zdB.nd rfl (Or.inl rfl) (zap Q58 hr rfl (zab (pv 0) (zaP (zam (zaL K) zaa (pv 7)) zac))))
   (zag (zay (i:=9) zdB.nd rfl (Or.inl rfl) (zam zaV (zam zaS (pv 8) zaa) (pv 2)))
   (zag (zay (i:=6) zdB.nd rfl (Or.inl rfl) (zfN G_l_done hr rfl zmL (zab (pv 1) (zab (pv 3) (zab (pv 4) (zab (pv 9) (zab (pv 8) zac)))))))
   (zag (za0 (zau zlY (pv 6) zeI (zav _)) (zaj (zao zef)) zax)
   (zag (ziE (zbn (zaR (zaH (k_ix K) (zaH (k_ix K) (pv 3) (pv 9) (λ_ _=>rfl)) zaa (λ_ _=>rfl)) (zab (pv 6) zac))) (zkD (pv 3) (pv 9) zf9))
   (zaj (za0 (ze5 (zcQ (zap Q72 hr rfl (zab (pv 1) (zab (pv 3) (zab (pv 4) zac)))))) (zaj (zao zef)) zax))))))))
   (zag (zbZ (i:=10) zdB.nd rfl rfl rfl (COk.m (sc0:=zai zhS) (N:=["script","hall","many","placed","model","number","parts","turn","cell","at","empty"]) (N':=["script","hall","many","placed","model","number","parts","turn","cell","at","empty"]) (ms:=[false,false,false,false,false,true,false,false,false,false,false])) (zbJ rfl B.range (zae zaa zac)) (λ_ _ _ _ _=>(zas (i:=5) (ndS (N:=["script","hall","many","placed","model","number","parts","turn","cell","at","empty"])) rfl (Or.inl rfl))) (λ_ _ _ _ _=>(zkM (ziB (zgs (hr_u hr) (pv 5) (pv 4))))) (λ_ _ _ _ _=>(pv 5)))
   (zaj (zao (zbh zrv (zcr Q48 Z.c_Hall hr zfV (pv 1) (zaR (zaH (k_ix K) (pv 10) (zam zaV (zap Q58 hr rfl (zab (pv 0) (zae zaa zac))) (zaz (zcD K) rfl B.len L2.boot_len (zab (pv 10) zac))) (λ_ _=>rfl)) zac)) zef (zav _))))))))))))),?_⟩
 -- the hall
 nofun
 walk_at "q"
 nofun
 intro ha dx ha0 dx0 ndx
 refine⟨ha,dx,rfl,zad,λla va H1 la0 va0 nlv o1 h1 h2 h3=>⟨rfl,?_⟩⟩
 have s1:Same H H1:=zm1 ha0 dx0 o1
 have hA1:∀ cr,HAt (C 6) (C 0) H1 ha la va [] cr [] []:=λcr=>HAt.start h1 h2 h3 nlv
 clear h1 h2 h3 o1 la0 va0 ha0 dx0 ndx nlv
 nofun
 walk_at "q"
 nofun
 refine zfS (s1.seq hS) (by decide) ?_
 nofun
 have c1:=Int.emod_nonneg (cell ns 0) (show (2:Int)≠0 by decide)
 have c2:=Int.emod_lt_of_pos (cell ns 0) (show (0:Int)<2 by decide)
 have cm:2≤2+cell ns 0 % 2∧2+cell ns 0 % 2≤3:=by omega
 generalize 2+cell ns 0 % 2=many at *
 nofun
 walk_at "q"
 nofun
 refine⟨a,10,many,4,ns,rfl,s1.seq hS,by decide,by omega,by omega,by decide,by decide,λv H2 numbers kinds cells s2 HP n2=>?_⟩
 have pk:=HP.ps (by omega) (by decide)
 have n2':New H1 H2 (.lst ((zcc numbers kinds cells many.toNat).map zgW)) v:=by rw[zjo];exact n2
 have plen:(zcc numbers kinds cells many.toNat).length=many.toNat:=by unfold zcc;simp
 obtain⟨pl,rfl,pl0,PA⟩:=zm6 (λp hp=>(pk.rt p hp).nine.d9) n2'
 have fps:∀ (i:Nat) p,(zcc numbers kinds cells many.toNat)[i]?=some p→zbG (p.2.gs (crBy (zcc numbers kinds cells many.toNat))):=λi p e=>by
  have hi:i<many.toNat:=by rw[←plen];exact (zge.mp e).1
  unfold zcc at e
  rw[zgm,List.getElem?_range hi] at e
  cases e
  exact HP.found (by omega) hi pk.ho
 generalize zcc numbers kinds cells many.toNat=ps at *
 clear n2 n2'
 have hS2:=(s1.trans s2).seq hS
 have lps:=pk.len
 have ln3:numbers.length≤3:=by omega
 have enm:=pk.nums
 have fpl:∀ (i:Nat) (p:Int × Cr),ps[i]?=some p→numbers[i]?=some p.1∧crBy ps p.1=p.2:=λi p e=>pk.get e
 have PK0:PsK 0 numbers (crBy ps) ps:=by
  refine⟨λm=>by rw[enm],by rw[enm];exact pk.nd,λp hp=>?_,λp hp=>?_,λp hp m hm=>?_,λm hm=>?_,by omega⟩
  ·obtain⟨i,e⟩:=List.getElem?_of_mem hp
   exact (fpl i p e).2
  ·obtain⟨i,e⟩:=List.getElem?_of_mem hp
   exact zlK (pk.rt p hp) (by decide) (pk.oath i p e).1 (pk.oath i p e).2
  ·rw[enm];exact pk.calls p hp m hm
  ·rw[enm] at hm
   have:=pk.nb m hm
   omega
 have sq2:∀ {Hx:Hp},Sq H2 Hx→SqL K Hx a (ns.map V.int):=λ{Hx} e=>by
  obtain⟨a',e',h⟩:=zbi.mp (Rep.sq e _ (zbi.mpr ⟨a,rfl,hS2⟩))
  cases e';exact h
 -- the model
 nofun
 walk_at "q"
 nofun
 intro ma ma0
 have s3:=zaf ma0 (.dK [])
 have hma3:(upd H2 ma (.dK [])) ma=some (.dK []):=zad
 have hA3:=((hA1 (crBy ps)).same s2).same s3
 have nla:ma≠la:=λz=>by
  obtain⟨kv,e,_⟩:=((hA1 (crBy ps)).same s2).laid
  rw[←z,ma0] at e;cases e
 have nva:ma≠va:=λz=>by
  obtain⟨kv,e,_⟩:=((hA1 (crBy ps)).same s2).vou
  rw[←z,ma0] at e;cases e
 generalize upd H2 ma (.dK [])=H3 at *
 nofun
 obtain⟨pvs,hpv,r2⟩:=id PA
 have npl:(0:Nat)<ps.length:=by omega
 -- they are laid
 with_reducible refine zdM (λσ H6=>E4 λy z fp kv=>A6 (σ=[some (.ref a),some (.ref ha),some (.int many),some (.ref pl),some (.ref ma),y,z,none,none,none,none]) (NoD H2 H6) (HAt (C 6) (C 0) H6 ha la va numbers (crBy ps) [] fp) (H6 ma=some (.dK kv)) (KVs (mdB []) kv (ps.map (·.1))) (pl∉fp)) (λNX tail=>?_) ?_
 ·nofun
  refine⟨pl,rfl,⟨_,SqL.of (s3 _ _ hpv)⟩,?_⟩
  refine zgB (xs:=pvs) (λi σ H6=>E4 λy z fp kv=>A6 (σ=[some (.ref a),some (.ref ha),some (.int many),some (.ref pl),some (.ref ma),y,z,none,none,none,none]) (NoD H2 H6) (HAt (C 6) (C 0) H6 ha la va (numbers.take i) (crBy ps) [] fp) (H6 ma=some (.dK kv)) (KVs (mdB []) kv (numbers.take i)) (pl∉fp))
   ⟨none,none,[],[],rfl,s3.nod,hA3,hma3,by rw[List.take_zero];exact KVs.nil,by simp⟩ (λi σ H6 _ ⟨_,_,_,_,_,nd,_,_,_,_⟩=>SqL.of (nd _ _ hpv (λ_ z=>by cases z))) ?_ ?_
  ·rintro i v σ H6 hv ⟨y,z,fp,kv,rfl,nd6,hA6,hma6,hk6,nf6⟩
   have hi:i<ps.length:=by rw[r2.1];exact (zge.mp hv).1
   have ep:ps[i]?=some ps[i]:=List.getElem?_eq_getElem hi
   obtain⟨T',w,rfl,hT',hw⟩:=r2.2 i _ v ep hv
   obtain⟨en,ec⟩:=pk.get ep
   have rt:=pk.rt _ (List.getElem_mem hi)
   generalize ps[i]=p at *
   obtain⟨n,c⟩:=p
   have hw:c.at H2 w:=hw
   obtain⟨pa,rfl⟩:∃ pa,w=.ref pa:=by obtain⟨pa,_,_,_,_,_,_,e,_⟩:=hw;exact⟨pa,e⟩
   have nb:=pk.nb n (zmg en)
   have hlt:i<numbers.length:=by rw[←lps];exact hi
   have hT6:=nd6 _ _ hT' (λ_ z=>by cases z)
   have kl:=hk6.len
   rw[List.length_take] at kl
   have nn:n∉numbers.take i:=zke pk.nd en
   have tk:numbers.take (i+1)=numbers.take i++[n]:=by rw[List.take_add_one,en];rfl
   refine⟨T',_,rfl,SqT.of hT6,rfl,⟨_,_,rfl,?_⟩⟩
   refine⟨_,_,rfl,?_⟩
   refine⟨rfl,?_⟩
   nofun
   walk_at "q"
   nofun
   refine⟨ha,la,va,pa,n,numbers.take i,crBy ps,[],fp,c,rfl,hA6,hw.nod nd6,rt,by unfold zbE;omega,.inr (by rw[List.length_take];omega),λH7 ks7 ws7 fp7 nd7 hA7 _ hks7 hw7 hd7 hf7=>?_⟩
   have hma7:=hd7 ma _ hma6 nla nva
   have ws0:ws7=[]:=List.eq_nil_iff_forall_not_mem.mpr λm hm=>by
    have:=((hw7 m).mp hm).1
    cases this
   nofun
   refine⟨ma,_,rfl,DPut.k (k:=.inl n) hma7 (zbs (by omega)),?_⟩
   have o8:OffA [ma] H7 (upd H7 ma (.dK (putK kv (.inl n) (.bl false)))):=zcb (by simp)
   have put:=hk6.put (m:=n) (v:=.bl false) (by unfold mdB;simp)
   rw[if_neg nn,←tk] at put
   refine⟨_,_,fp7,_,rfl,nd6.trans (nd7.trans (zc2 hma7)),zdA ?_ hma7 nla nva o8,zad,put,λz=>?_⟩
   ·rw[tk,←hks7 nn,←ws0]
    refine hA7.congr λm _=>?_
    unfold setC
    split
    ·rename_i z;rw[z];exact ec.symm
    ·rfl
   ·rcases hf7 pl z with w | w
    ·exact nf6 w
    ·rw[nd6 _ _ hpv (λ_ y=>by cases y)] at w;cases w
  ·rintro σ H6 ⟨y,z,fp,kv,rfl,nd6,hA6,hma6,hk6,nf6⟩
   rw[←r2.1,lps,List.take_of_length_le (Nat.le_refl _)] at hA6 hk6
   exact tail _ _ ⟨y,z,fp,kv,rfl,nd6,hA6,hma6,by rw[enm];exact hk6,nf6⟩
 clear hA3 hma3 s3 hA1
 rintro σ H6 ⟨y,z,fp,kv,rfl,nd6,hA6,hma6,hk6,nf6⟩
 nofun
 with_reducible refine zpU (λQ2 q2=>?_) (λH7 s7=>?_)
 ·nofun
  refine⟨ha,la,va,pl,ma,_,_,_,_,ps,kv,rfl,hA6,PA.nod nd6,hma6,hk6,?_⟩
  nofun
  exact q2 _ (Same.refl _)
 have nd7:=nd6.trans s7.nod
 -- they are sought
 with_reducible refine zdM (λσ H8=>E4 λy z kv ws=>A6 (σ=[some (.ref a),some (.ref ha),some (.int many),some (.ref pl),some (.ref ma),y,z,none,none,none,none]) (NoD H2 H8) (HAt (C 6) (C 0) H8 ha la va numbers (crBy ps) ws fp) (H8 ma=some (.dK kv)) (KVs (mdB ws) kv (ps.map (·.1))) (WsOk (crBy ps) ws)) (λNX tail=>?_) ?_
 ·nofun
  refine⟨pl,rfl,⟨_,SqL.of (nd7 _ _ hpv (λ_ z=>by cases z))⟩,?_⟩
  refine zgB (xs:=pvs) (λi σ H8=>E4 λy z kv ws=>A6 (σ=[some (.ref a),some (.ref ha),some (.int many),some (.ref pl),some (.ref ma),y,z,none,none,none,none]) (NoD H2 H8) (HAt (C 6) (C 0) H8 ha la va numbers (crBy ps) ws fp) (H8 ma=some (.dK kv)) (KVs (mdB ws) kv (ps.map (·.1))) (WsOk (crBy ps) ws))
   ⟨y,z,kv,[],rfl,nd7,hA6.same s7,s7 _ _ hma6,hk6,λm hm=>by cases hm⟩ (λi σ H8 _ ⟨_,_,_,_,_,nd,_,_,_,_⟩=>SqL.of (nd _ _ hpv (λ_ z=>by cases z))) ?_ (λσ H' z=>tail _ _ z)
  rintro i v σ H8 hv ⟨y,z,kv,ws,rfl,nd8,hA8,hma8,hk8,wk8⟩
  have hi:i<ps.length:=by rw[r2.1];exact (zge.mp hv).1
  have ep:ps[i]?=some ps[i]:=List.getElem?_eq_getElem hi
  obtain⟨T',w,rfl,hT',hw⟩:=r2.2 i _ v ep hv
  obtain⟨en,ec⟩:=pk.get ep
  have pm:=List.getElem_mem hi
  have fd:=fps i _ ep
  generalize ps[i]=p at *
  obtain⟨n,c⟩:=p
  have nm:=zmg en
  have nmp:n∈ps.map (·.1):=by rw[enm];exact nm
  have nb:=pk.nb n nm
  have kl:=hk8.len
  rw[zlm] at kl
  have call:∀ m∈zaD (crBy ps n).deeds,m∈numbers:=λm hm=>pk.calls _ pm m (by rw[←ec];exact hm)
  have egs:(crBy ps n).gs (crBy ps)=c.gs (crBy ps):=by rw[ec]
  have fd':zbG ((crBy ps n).gs (crBy ps)):=by rw[egs];exact fd
  refine⟨T',_,rfl,SqT.of (nd8 _ _ hT' (λ_ z=>by cases z)),rfl,⟨_,_,rfl,?_⟩⟩
  refine⟨_,_,rfl,?_⟩
  refine⟨rfl,?_⟩
  obtain⟨dx8,hh8⟩:=hA8.ins
  obtain⟨kva,eva,_⟩:=hA8.vou
  nofun
  walk_at "q"
  nofun
  refine⟨ha,dx8,_,rfl,hh8,zd2 (by decide +kernel) (by decide +kernel),?_⟩
  nofun
  refine⟨ha,la,va,n,numbers,crBy ps,ws,fp,rfl,hA8,by unfold zbE;omega,λz=>absurd nm z,λ_ ⟨m,mm,mk⟩=>absurd (call m mm) mk,λ_ _ v H9 ws9 o9 hA9 hw9 n9=>?_⟩
  have nd9:NoD H8 H9:=o9.nod λb hb=>by rw[zms.mp hb];exact⟨_,eva⟩
  have hma9:=o9 ma _ (by simp[nva]) hma8
  have nw:n∈ws9:=(hw9 n).mpr (.inr ⟨rfl,fd'⟩)
  rw[zgi] at n9
  obtain⟨ra,rvs,rfp,rfl,ra0,hra,hrr,_⟩:=New.lso n9
  have hrp:=zak.reps (K:=K) _ hrr
  nofun
  refine zh9 (SqL.of hra) hrp (Nat.le_trans (zgS _) (by decide)) ?_
  rw[zig hrp,Bool.eq_false_iff.mpr (λw=>(zhg _).mp w fd')]
  nofun
  refine⟨ma,_,rfl,DPut.k (k:=.inl n) hma9 (zbs (by omega)),?_⟩
  have o10:OffA [ma] H9 (upd H9 ma (.dK (putK kv (.inl n) (.bl (!false))))):=zcb (by simp)
  have hma10:(upd H9 ma (.dK (putK kv (.inl n) (.bl (!false))))) ma=some (.dK (putK kv (.inl n) (.bl (!false)))):=zad
  have nd10:NoD H9 (upd H9 ma (.dK (putK kv (.inl n) (.bl (!false))))):=zc2 hma9
  have gv:valV (putK kv (.inl n) (.bl (!false))) (.inl n)=some (.bl true):=by rw[zdu,if_pos rfl];rfl
  have put:=zjt (ws:=ws9) (b:=!false) hk8 nmp (by rw[decide_eq_true nw];rfl) (λm _ ne=>by rw[hw9];exact⟨.inl,λz=>by rcases z with z | z;exact z;exact absurd z.1 ne⟩)
  generalize upd H9 ma (.dK (putK kv (.inl n) (.bl (!false))))=H10 at *
  nofun
  refine⟨ma,.bl true,rfl,by rw[←gv];exact DGet.k (k:=.inl n) hma10,?_⟩
  nofun
  refine⟨_,_,_,ws9,rfl,nd8.trans (nd9.trans nd10),zdA hA9 hma9 nla nva o10,hma10,put,λm hm=>?_⟩
  rcases (hw9 m).mp hm with z | z
  ·exact wk8 m z
  ·rw[z.1];exact fd'
 clear hA6 hma6 hk6
 rintro σ H8 ⟨y,z,kv,ws,rfl,nd8,hA8,hma8,hk8,wk8⟩
 have PA8:=PA.nod nd8
 have hS8:=sq2 nd8.sq
 nofun
 -- turn by turn
 with_reducible refine zdM (λσ H'=>E11 λx5 x6 x7 x8 x9 ps ks cr ws fp kv=>A6 (σ=[some (.ref a),some (.ref ha),some (.int many),some (.ref pl),some (.ref ma),x5,x6,x7,x8,x9,none]) (HAt (C 6) (C 0) H' ha la va ks cr ws fp) (H' ma=some (.dK kv)) (KVs (mdB ws) kv (ps.map (·.1))) (PsK 6 ks cr ps) (SqL K H' a (ns.map V.int))) (λNX tail=>?_) ?_
 ·nofun
  refine zfS hS8 (by decide) ?_
  have m0:=Int.emod_nonneg (cell ns 1) (show (6:Int)≠0 by decide)
  have m6:=Int.emod_lt_of_pos (cell ns 1) (show (0:Int)<6 by decide)
  nofun
  generalize cell ns 1 % 6=mt at m0 m6 ⊢
  refine zc0 (by omega) (by omega) ?_
  refine zgA (λi σ H'=>E11 λx5 x6 x7 x8 x9 ps ks cr ws fp kv=>A10 (σ=[some (.ref a),some (.ref ha),some (.int many),some (.ref pl),some (.ref ma),x5,x6,x7,x8,x9,none]) (zcv H' pl ps) (HAt (C 6) (C 0) H' ha la va ks cr ws fp) (H' ma=some (.dK kv)) (KVs (mdB ws) kv (ps.map (·.1))) (PsK (i:Int) ks cr ps) (WsOk cr ws) (pl∉fp) (SqL K H' a (ns.map V.int)) ((ps.length:Int)=many))
   ⟨y,z,none,none,none,ps,numbers,crBy ps,ws,fp,kv,rfl,PA8,hA8,hma8,hk8,PK0,wk8,nf6,hS8,by omega⟩ ?_ ?_
  ·clear PA8 hA8 hma8 hk8 wk8 nf6 hS8 PK0
   rintro i σ H9 hi ⟨x5,x6,x7,x8,x9,ps,ks,cr,ws,fp,kv,rfl,PA9,hA9,hma9,hk9,PK9,wk9,nf9,hS9,hmn⟩
   nofun
   walk_at "q"
   nofun
   refine zfS hS9 (by omega) ?_
   nofun
   walk_at "q"
   nofun
   generalize cell ns (2+(0+(i:Int)))=cl
   have a1:=Int.emod_nonneg (cl / 30) (show many≠0 by omega)
   have a2:=Int.emod_lt_of_pos (cl / 30) (show 0<many by omega)
   nofun
   generalize cl / 30 % many=at' at a1 a2 ⊢
   have hat:at'.toNat<ps.length:=by omega
   have ep:ps[at'.toNat]?=some ps[at'.toNat]:=List.getElem?_eq_getElem hat
   generalize ps[at'.toNat]=p at ep
   obtain⟨n,c⟩:=p
   nofun
   walk_at "q"
   nofun
   refine⟨ha,la,va,pl,ma,at',cl,(i:Int),ks,cr,ws,fp,ps,kv,n,c,rfl,hA9,PA9,hma9,hk9,nla,nva,PK9,wk9,a1,ep,by omega,by omega,nf9,λpa H10 ks' ws' fp' kv' c' nd10 hA10 hma10 hk10 wk10 hc10 ff10 cl10 mm10 nf10=>?_⟩
   have PA10:=PA9.nod nd10
   obtain⟨pvs,hpv,r2⟩:=id PA10
   obtain⟨v,hv⟩:∃ v,pvs[at'.toNat]?=some v:=⟨_,List.getElem?_eq_getElem (by rw[←r2.1];exact hat)⟩
   obtain⟨T,w0,rfl,hT,_⟩:=r2.2 _ _ v ep hv
   have hS10:SqL K H10 a (ns.map V.int):=by
    obtain⟨a',e',h⟩:=zbi.mp (Rep.sq nd10.sq _ (zbi.mpr ⟨a,rfl,hS9⟩))
    cases e';exact h
   nofun
   walk_at "q"
   nofun
   refine⟨rfl,?_⟩
   rw[decide_eq_false (show ¬ V.ref pa=V.non by intro z;cases z)]
   nofun
   walk_at "q"
   nofun
   refine zbA (SqL.of hpv) (v:=.ref T) (zmK a1 hv) ?_
   nofun
   refine za8 (SqT.of hT) (v:=.int n) zbV ?_
   nofun
   refine⟨(by walk_at "sm"),λT' hT'=>?_⟩
   have t1:=zaf hT' (.tup [V.int n,.ref pa])
   nofun
   refine zkP (j:=at'.toNat) (t1 _ _ hpv) (zmJ a1 (by rw[←r2.1];omega)) ?_
   have r2':=r2.mono (P':=λp v=>∃ T w,v=.ref T∧(upd H10 T' (.tup [V.int n,.ref pa])) T=some (.tup [.int p.1,w])∧p.2.at (upd H10 T' (.tup [V.int n,.ref pa])) w) λp v ⟨T,w,e1,e2,e3⟩=>⟨T,w,e1,t1 _ _ e2,e3.nod t1.nod⟩
   have PA11:=zcv.put (t1 _ _ hpv) r2' (i:=at'.toNat) zad (hc10.nod t1.nod) hat
   have hpv1:=t1 _ _ hpv
   have e0:∃ T0 r0,pvs=.ref T0::r0:=by
    cases pvs with
    | nil=>simp at hv
    | cons v0 r0=>
     obtain⟨T0,_,e,_⟩:=r2.2 0 _ v0 (List.getElem?_eq_getElem (by omega)) rfl
     exact⟨T0,r0,by rw[e]⟩
   obtain⟨T0,r0,e0⟩:=e0
   rw[e0] at hpv1 PA11 ⊢
   have hS11:SqL K (upd (upd H10 T' (.tup [V.int n,.ref pa])) pl (.lst ((V.ref T0::r0).set at'.toNat (.ref T')))) a (ns.map V.int):=zqa hpv1 (t1.seq hS10)
   have hA11:HAt (C 6) (C 0) (upd (upd H10 T' (.tup [V.int n,.ref pa])) pl (.lst ((V.ref T0::r0).set at'.toNat (.ref T')))) ha la va ks' (setC cr n c') ws' fp':=zoE (hA10.same t1) hpv1 nf10
   have hma11:(upd (upd H10 T' (.tup [V.int n,.ref pa])) pl (.lst ((V.ref T0::r0).set at'.toNat (.ref T')))) ma=some (.dK kv'):=by
    rw[zaq (znz (t1 _ _ hma10) hpv1 (by intro z;cases z))];exact t1 _ _ hma10
   generalize upd (upd H10 T' (.tup [V.int n,.ref pa])) pl (.lst ((V.ref T0::r0).set at'.toNat (.ref T')))=H11 at *
   have PK11:=PK9.set (bd':=(i:Int)+1) (by omega) ep mm10 ff10 cl10
   have ek:(ps.set at'.toNat (n,c')).map (·.1)=ps.map (·.1):=by
    rw[List.map_set]
    have:(ps.map (·.1))[at'.toNat]?=some n:=by rw[zgm,ep];rfl
    obtain⟨hi,ei⟩:=zge.mp this
    show (ps.map (·.1)).set at'.toNat n=_
    rw[←ei,List.set_getElem_self]
   rw[←ek] at hk10
   nofun
   refine⟨ha,la,va,pl,ma,_,_,_,_,_,kv',rfl,hA11,PA11,hma11,hk10,?_⟩
   nofun
   exact⟨_,_,_,_,_,_,ks',setC cr n c',ws',fp',kv',rfl,PA11,hA11,hma11,hk10,PK11,wk10,nf10,hS11,by rw[List.length_set];exact hmn⟩
  ·rintro σ H9 ⟨x5,x6,x7,x8,x9,ps,ks,cr,ws,fp,kv,rfl,PA9,hA9,hma9,hk9,PK9,wk9,nf9,hS9,hmn⟩
   refine tail _ _ ⟨x5,x6,x7,x8,x9,ps,ks,cr,ws,fp,kv,rfl,hA9,hma9,hk9,⟨PK9.mem,PK9.nd,PK9.cr,λp hp=>?_,PK9.cl,PK9.nb,PK9.few⟩,hS9⟩
   have:=PK9.fine p hp
   exact⟨this.rt,this.l1,λl hl=>by have:=this.hd l hl;omega⟩
 clear PA8 hA8 hma8 hk8 wk8 nf6 hS8 PK0 fps pk lps enm fpl PA r2 hpv npl
 rintro σ H9 ⟨x5,x6,x7,x8,x9,ps,ks,cr,ws,fp,kv,rfl,hA9,hma9,hk9,PK9,hS9⟩
 -- a place where none is laid
 nofun
 walk_at "q"
 nofun
 refine zc0 (by decide) (by decide) ?_
 refine ziY zcC (λi=>decide ((0+(i:Int))∉ps.map (·.1))) (λi=>.int (0+(i:Int))) (zan (by decide)) (λi x H10 R1 R2' hi s10 hx hy hn=>?_) (λv H10 s10 n10=>?_)
 ·subst hx
  nofun
  by_cases hm:(0+(i:Int))∈ps.map (·.1)
  ·obtain⟨v,e1,_⟩:=hk9.2.2 _ hm
   refine⟨ma,some v,rfl,by rw[←e1];exact DGet.k (k:=.inl (0+(i:Int))) (s10 _ _ hma9),?_⟩
   dsimp only[Option.isSome]
   nofun
   exact hn (decide_eq_false (λz=>z hm)) _ (Same.refl _)
  ·refine⟨ma,none,rfl,by rw[←hk9.no hm];exact DGet.k (k:=.inl (0+(i:Int))) (s10 _ _ hma9),?_⟩
   dsimp only[Option.isSome]
   nofun
   exact hy (decide_eq_true hm) _ _ (Same.refl _) New.int
 rw[show ((List.range (100:Int).toNat).filter λ(i:Nat)=>decide ((0+(i:Int))∉ps.map (·.1))).map (λ(i:Nat)=>D.int (0+(i:Int)))=(((List.range (100:Int).toNat).filter λ(i:Nat)=>decide ((0+(i:Int))∉ps.map (·.1))).map λ(i:Nat)=>(0+(i:Int))).map D.int by rw[List.map_map];rfl] at n10
 have out:∀ m∈((List.range (100:Int).toNat).filter λ(i:Nat)=>decide ((0+(i:Int))∉ps.map (·.1))).map λ(i:Nat)=>(0+(i:Int)),m∉ps.map (·.1):=λm hm=>by
  obtain⟨i,hi,rfl⟩:=zmm.mp hm
  exact of_decide_eq_true (List.mem_filter.mp hi).2
 have pos:0<(((List.range (100:Int).toNat).filter λ(i:Nat)=>decide ((0+(i:Int))∉ps.map (·.1))).map λ(i:Nat)=>(0+(i:Int))).length:=by
  refine Nat.pos_of_ne_zero λz=>?_
  have all:∀ i:Nat,i<4→(0+(i:Int))∈ps.map (·.1):=λi hi=>Classical.byContradiction λw=>by
   rw[zlm] at z
   have:i∈(List.range (100:Int).toNat).filter λ(i:Nat)=>decide ((0+(i:Int))∉ps.map (·.1)):=List.mem_filter.mpr ⟨List.mem_range.mpr (by show i<100;omega),decide_eq_true w⟩
   rw[List.eq_nil_of_length_eq_zero z] at this
   cases this
  have:=zif (l:=[0,1,2,3]) (m:=ps.map (·.1)) (by decide) (λx hx=>by
   simp at hx
   rcases hx with rfl | rfl | rfl | rfl
   ·exact all 0 (by decide)
   ·exact all 1 (by decide)
   ·exact all 2 (by decide)
   ·exact all 3 (by decide))
  rw[zlm] at this
  have few:=PK9.few
  have:4≤ps.length:=this
  omega
 obtain⟨el,rfl,_,hel⟩:=New.iif.mp n10
 generalize ((List.range (100:Int).toNat).filter λ(i:Nat)=>decide ((0+(i:Int))∉ps.map (·.1))).map (λ(i:Nat)=>(0+(i:Int)))=es at *
 have hA10:=hA9.same s10
 obtain⟨dx,hh⟩:=hA10.ins
 nofun
 refine⟨ha,dx,_,rfl,hh,zd2 (by decide +kernel) (by decide +kernel),?_⟩
 nofun
 refine zfS (s10.seq hS9) (by decide) ?_
 nofun
 refine zcZ (.inl (SqL.of hel)) ?_
 rw[zlm]
 have k0:=Int.emod_nonneg (cell ns 8) (show ((es.length:Nat):Int)≠0 by omega)
 have k1:=Int.emod_lt_of_pos (cell ns 8) (show (0:Int)<(es.length:Nat) by omega)
 nofun
 generalize cell ns 8 % (es.length:Int)=k at k0 k1 ⊢
 have ek:es[k.toNat]?=some es[k.toNat]:=List.getElem?_eq_getElem (by omega)
 generalize es[k.toNat]=e at ek
 refine zbA (SqL.of hel) (v:=.int e) (zmK k0 (by rw[zgm,ek];rfl)) ?_
 nofun
 refine⟨ha,la,va,e,ks,cr,ws,fp,rfl,hA10,?_⟩
 have ne:e∉ws:=λz=>out e (zmg ek) ((PK9.mem e).mp (hA10.sub e z))
 rw[decide_eq_false ne]
 nofun
 exact⟨false,false,rfl,rfl,q _⟩
end
end My
namespace My
open PySem L2 PyProof.Rows
abbrev FQ (K:Fg) (f:Addr) (x q:Str) (s:Stmt):Prop:=∃ oc od sl kV dc pm an cd ct,K.lookup f=some ⟨oc,od,.func (fnOf x q (zdU s) (zcY s) (zai s) .none kV dc pm an cd ct),sl⟩∧codeIn K cd q=true∧keepIn K (.ref f)=true
theorem zaY {K:Fg}{f:Addr}{x q:Str}{s:Stmt}(h:FQ K f x q s):∃ fd,Fun K x q s f fd:=by
 obtain⟨_,_,_,_,_,_,_,_,_,l,c,k⟩:=h
 exact⟨_,zoQ l c k⟩
abbrev NI (K:Fg) (x:Str) (f:Addr):Prop:=nsIn K mainGlobals x=some (some (.ref f))
abbrev FI (K:Fg) (C:Addr) (x:Str) (f:Addr):Prop:=findIn K (.ref C) x=some (some (.ref f))
abbrev KI (K:Fg) (f:Addr):Prop:=keepIn K (.ref f)=true
abbrev IF (K:Fg) (f:Addr):Prop:=isFn K (.ref f)=true
theorem all_mk {l:PySem.W.OpenLaw}{w:World}{K:Fg}{h:Heap}{mg:Str→Option Value}{fa:Addr}(X:K.In h) (G:h.Ns mainGlobals mg) (hfa:mg "law"=some (.ref fa))
  (aC0:NI K "Craft" C0)
  (aC1:NI K "HallError" C1)
  (aC2:NI K "BadSheet" C2)
  (aC3:NI K "NoCraft" C3)
  (aC4:NI K "Unmet" C4)
  (aC5:NI K "NotShown" C5)
  (aC6:NI K "Hall" C6)
  (a1:NI K "copied_lines" f1) (l1:FQ K f1 "copied_lines" "copied_lines" zb4)
  (a2:NI K "copied_deed" f2) (l2:FQ K f2 "copied_deed" "copied_deed" zcj)
  (a3:FI K C0 "__init__" f3) (i3:IF K f3) (l3:FQ K f3 "__init__" "Craft.__init__" zbp)
  (a4:NI K "bare" f4) (l4:FQ K f4 "bare" "bare" ziz)
  (a5:NI K "summed" f5) (l5:FQ K f5 "summed" "summed" ze1)
  (a6:NI K "turned" f6) (l6:FQ K f6 "turned" "turned" zf0)
  (a7:NI K "copied_craft" f7) (l7:FQ K f7 "copied_craft" "copied_craft" zcG)
  (a8:NI K "called_by" f8) (l8:FQ K f8 "called_by" "called_by" zdc)
  (a9:NI K "between" f9) (l9:FQ K f9 "between" "between" ze2)
  (a10:NI K "small_enough" f10) (l10:FQ K f10 "small_enough" "small_enough" zcH)
  (a11:NI K "line_right" f11) (l11:FQ K f11 "line_right" "line_right" zch)
  (a12:NI K "lines_right" f12) (l12:FQ K f12 "lines_right" "lines_right" zcm)
  (a13:NI K "oath_right" f13) (l13:FQ K f13 "oath_right" "oath_right" zdn)
  (a14:NI K "hand_right" f14) (l14:FQ K f14 "hand_right" "hand_right" zdq)
  (a15:NI K "two_hands_right" f15) (l15:FQ K f15 "two_hands_right" "two_hands_right" zby)
  (a16:NI K "call_right" f16) (l16:FQ K f16 "call_right" "call_right" zdp)
  (a17:NI K "range_right" f17) (l17:FQ K f17 "range_right" "range_right" zc5)
  (a18:NI K "deed_right" f18) (l18:FQ K f18 "deed_right" "deed_right" zdo)
  (a19:NI K "deeds_right" f19) (l19:FQ K f19 "deeds_right" "deeds_right" zck)
  (a20:NI K "notes_right" f20) (l20:FQ K f20 "notes_right" "notes_right" zcl)
  (a21:NI K "right" f21) (l21:FQ K f21 "right" "right" zhQ)
  (a22:NI K "due_at" f22) (l22:FQ K f22 "due_at" "due_at" zex)
  (a23:NI K "eight_with" f23) (l23:FQ K f23 "eight_with" "eight_with" zcP)
  (a24:NI K "each_from" f24) (l24:FQ K f24 "each_from" "each_from" zdd)
  (a25:NI K "all_turned" f25) (l25:FQ K f25 "all_turned" "all_turned" zcO)
  (a26:NI K "constant" f26) (l26:FQ K f26 "constant" "constant" zey)
  (a27:NI K "first_duties" f27) (l27:FQ K f27 "first_duties" "first_duties" zcI)
  (a28:NI K "call_duties" f28) (l28:FQ K f28 "call_duties" "call_duties" zda)
  (a29:NI K "part_duties" f29) (l29:FQ K f29 "part_duties" "part_duties" zc7)
  (a30:NI K "draw_duties" f30) (l30:FQ K f30 "draw_duties" "draw_duties" zc8)
  (a31:NI K "turn_duties" f31) (l31:FQ K f31 "turn_duties" "turn_duties" zc9)
  (a32:NI K "deed_duties" f32) (l32:FQ K f32 "deed_duties" "deed_duties" zc6)
  (a33:NI K "duties" f33) (l33:FQ K f33 "duties" "duties" zf1)
  (a34:NI K "shows" f34) (l34:FQ K f34 "shows" "shows" zed)
  (a35:NI K "noughts_and_ones" f35) (l35:FQ K f35 "noughts_and_ones" "noughts_and_ones" za9)
  (a36:NI K "sought" f36) (l36:FQ K f36 "sought" "sought" zf2)
  (a37:FI K C6 "__init__" f37) (i37:IF K f37) (l37:FQ K f37 "__init__" "Hall.__init__" zcn)
  (a38:FI K C6 "release" f38) (i38:IF K f38) (l38:FQ K f38 "release" "Hall.release" zcJ)
  (a39:FI K C6 "called_at" f39) (i39:IF K f39) (l39:FQ K f39 "called_at" "Hall.called_at" zca)
  (a40:FI K C6 "release_callers" f40) (i40:IF K f40) (l40:FQ K f40 "release_callers" "Hall.release_callers" zbm)
  (a41:NI K "same_oath" f41) (l41:FQ K f41 "same_oath" "same_oath" zdX)
  (a42:FI K C6 "lay" f42) (i42:IF K f42) (l42:FQ K f42 "lay" "Hall.lay" zez)
  (a43:FI K C6 "must_stand" f43) (i43:IF K f43) (l43:FQ K f43 "must_stand" "Hall.must_stand" zbX)
  (a44:FI K C6 "tear" f44) (i44:IF K f44) (l44:FQ K f44 "tear" "Hall.tear" zdV)
  (a45:NI K "all_shown" f45) (l45:FQ K f45 "all_shown" "all_shown" zde)
  (a46:FI K C6 "duties_at" f46) (i46:IF K f46) (l46:FQ K f46 "duties_at" "Hall.duties_at" zb9)
  (a47:FI K C6 "vouch" f47) (i47:IF K f47) (l47:FQ K f47 "vouch" "Hall.vouch" zdr)
  (a48:FI K C6 "seek" f48) (i48:IF K f48) (l48:FQ K f48 "seek" "Hall.seek" zcA)
  (a49:FI K C6 "held" f49) (i49:IF K f49) (l49:FQ K f49 "held" "Hall.held" zdW)
  (a50:NI K "_law_mix" f50) (l50:FQ K f50 "_law_mix" "_law_mix" zhR)
  (a51:NI K "_law_cell_at" f51) (l51:FQ K f51 "_law_cell_at" "_law_cell_at" zdY)
  (a52:NI K "_law_number" f52) (l52:FQ K f52 "_law_number" "_law_number" zeA)
  (a53:NI K "_law_free" f53) (l53:FQ K f53 "_law_free" "_law_free" ze4)
  (a54:NI K "_law_other_deed" f54) (l54:FQ K f54 "_law_other_deed" "_law_other_deed" zcK)
  (a55:NI K "_law_second_deed" f55) (l55:FQ K f55 "_law_second_deed" "_law_second_deed" zco)
  (a56:NI K "_law_first_deed" f56) (l56:FQ K f56 "_law_first_deed" "_law_first_deed" zcL)
  (a57:NI K "_law_bare" f57) (l57:FQ K f57 "_law_bare" "_law_bare" ze3)
  (a58:NI K "_law_sworn_parts" f58) (l58:FQ K f58 "_law_sworn_parts" "_law_sworn_parts" za6)
  (a59:NI K "_law_hall_parts" f59) (l59:FQ K f59 "_law_hall_parts" "_law_hall_parts" zbN)
  (a60:NI K "_law_laid" f60) (l60:FQ K f60 "_law_laid" "_law_laid" zf4)
  (a61:NI K "_law_told" f61) (l61:FQ K f61 "_law_told" "_law_told" zf3)
  (a62:NI K "_law_same" f62) (l62:FQ K f62 "_law_same" "_law_same" zf5)
  (a63:NI K "_law_other" f63) (l63:FQ K f63 "_law_other" "_law_other" zdJ)
  (a64:NI K "_law_calls" f64) (l64:FQ K f64 "_law_calls" "_law_calls" zee)
  (a65:NI K "_law_loosen" f65) (l65:FQ K f65 "_law_loosen" "_law_loosen" zeB)
  (a66:NI K "_law_done" f66) (l66:FQ K f66 "_law_done" "_law_done" zf6)
  (a67:NI K "law" f67) (l67:FQ K f67 "law" "law" zhS)
  (z_all:nsIn K mainGlobals "all"=some none)
  (z_any:nsIn K mainGlobals "any"=some none)
  (z_bool:nsIn K mainGlobals "bool"=some none)
  (z_int:nsIn K mainGlobals "int"=some none)
  (z_isinstance:nsIn K mainGlobals "isinstance"=some none)
  (z_len:nsIn K mainGlobals "len"=some none)
  (z_list:nsIn K mainGlobals "list"=some none)
  (z_max:nsIn K mainGlobals "max"=some none)
  (z_min:nsIn K mainGlobals "min"=some none)
  (z_range:nsIn K mainGlobals "range"=some none)
  (z_reversed:nsIn K mainGlobals "reversed"=some none)
  (z_tuple:nsIn K mainGlobals "tuple"=some none)
  (z_zip:nsIn K mainGlobals "zip"=some none)
  (y_NUMBERS:nsIn K mainGlobals "NUMBERS"=some (some (.int 9 t_NUMBERS)))
  (y_FACTORS:nsIn K mainGlobals "FACTORS"=some (some (.int 8 t_FACTORS)))
  (y_HAND_SPOTS:NI K "HAND_SPOTS" a_HAND_SPOTS) (x_HAND_SPOTS:K.lookup a_HAND_SPOTS=some ⟨.type "tuple",dd_HAND_SPOTS,.seq #[.int 1 t_HAND_SPOTS_0,.int 2 t_HAND_SPOTS_1,.int 3 t_HAND_SPOTS_2,.int 4 t_HAND_SPOTS_3] n_HAND_SPOTS,ss_HAND_SPOTS⟩)
  (y_LEFT_SPOTS:NI K "LEFT_SPOTS" a_LEFT_SPOTS) (x_LEFT_SPOTS:K.lookup a_LEFT_SPOTS=some ⟨.type "tuple",dd_LEFT_SPOTS,.seq #[.int 7 t_LEFT_SPOTS_0,.int 8 t_LEFT_SPOTS_1] n_LEFT_SPOTS,ss_LEFT_SPOTS⟩)
  (y_LEFT_AS_HANDS:NI K "LEFT_AS_HANDS" a_LEFT_AS_HANDS) (x_LEFT_AS_HANDS:K.lookup a_LEFT_AS_HANDS=some ⟨.type "tuple",dd_LEFT_AS_HANDS,.seq #[.int 0 t_LEFT_AS_HANDS_0,.int 1 t_LEFT_AS_HANDS_1,.int 2 t_LEFT_AS_HANDS_2,.int 3 t_LEFT_AS_HANDS_3,.int 4 t_LEFT_AS_HANDS_4,.int 5 t_LEFT_AS_HANDS_5,.int 0 t_LEFT_AS_HANDS_6,.int 1 t_LEFT_AS_HANDS_7] n_LEFT_AS_HANDS,ss_LEFT_AS_HANDS⟩)
  (y_MOST_LINES:nsIn K mainGlobals "MOST_LINES"=some (some (.int 2 t_MOST_LINES)))
  (y_MOST_DEEDS:nsIn K mainGlobals "MOST_DEEDS"=some (some (.int 8 t_MOST_DEEDS)))
  (y_LAST_HAND:nsIn K mainGlobals "LAST_HAND"=some (some (.int 3 t_LAST_HAND)))
  (y_LAST_NUMBER:nsIn K mainGlobals "LAST_NUMBER"=some (some (.int 99 t_LAST_NUMBER)))
  (y_GREATEST_BY:nsIn K mainGlobals "GREATEST_BY"=some (some (.int 1000 t_GREATEST_BY)))
  (y_GREATEST:nsIn K mainGlobals "GREATEST"=some (some (.int 1000000000 t_GREATEST)))
  (y_ASKED_0:nsIn K mainGlobals "ASKED_0"=some (some (.int 4 t_ASKED_0)))
  (y_ASKED_1:nsIn K mainGlobals "ASKED_1"=some (some (.int 5 t_ASKED_1)))
  (y_NEW_0:nsIn K mainGlobals "NEW_0"=some (some (.int 6 t_NEW_0)))
  (y_NEW_1:nsIn K mainGlobals "NEW_1"=some (some (.int 7 t_NEW_1)))
  (y_WHOLES:NI K "WHOLES" a_WHOLES) (x_WHOLES:K.lookup a_WHOLES=some ⟨.type "tuple",dd_WHOLES,.seq #[.int 1 t_WHOLES_0,.int 2 t_WHOLES_1,.int 3 t_WHOLES_2,.int 4 t_WHOLES_3] n_WHOLES,ss_WHOLES⟩)
  (oC1:K.lookup C1=some (PySem.excClassObj xn1 xq1 C1 xN1 xb1 zbx xh1 xl1 xs1 xa1 xc1 xd1 x0_1 x1_1 x2_1 x3_1 x5_1 "ValueError.__new__")) (xC1:excIn K C1 zbx "ValueError.__new__"=true)
  (oC2:K.lookup C2=some (PySem.excClassObj xn2 xq2 C2 xN2 xb2 (.ref C1::zbx) xh2 xl2 xs2 xa2 xc2 xd2 x0_2 x1_2 x2_2 x3_2 x5_2 "ValueError.__new__")) (xC2:excIn K C2 zbx "ValueError.__new__"=true)
  (oC3:K.lookup C3=some (PySem.excClassObj xn3 xq3 C3 xN3 xb3 (.ref C1::zbx) xh3 xl3 xs3 xa3 xc3 xd3 x0_3 x1_3 x2_3 x3_3 x5_3 "ValueError.__new__")) (xC3:excIn K C3 zbx "ValueError.__new__"=true)
  (oC4:K.lookup C4=some (PySem.excClassObj xn4 xq4 C4 xN4 xb4 (.ref C1::zbx) xh4 xl4 xs4 xa4 xc4 xd4 x0_4 x1_4 x2_4 x3_4 x5_4 "ValueError.__new__")) (xC4:excIn K C4 zbx "ValueError.__new__"=true)
  (oC5:K.lookup C5=some (PySem.excClassObj xn5 xq5 C5 xN5 xb5 (.ref C1::zbx) xh5 xl5 xs5 xa5 xc5 xd5 x0_5 x1_5 x2_5 x3_5 x5_5 "ValueError.__new__")) (xC5:excIn K C5 zbx "ValueError.__new__"=true)
  (pg0:PySem.W.plainGet K C0 Str.empty=true) (hd0:PySem.W.hasDictIn K C0=true) (po0:PySem.W.plainOver K C0=true) (sa0:findIn K (.ref C0) "__setattr__"=some (some (.builtin "object.__setattr__"))) (mk0:makesIn K C0=true) (kc0:KI K C0)
  (na0_needs:findIn K (.ref C0) "needs"=some none)
  (na0_leaves:findIn K (.ref C0) "leaves"=some none)
  (na0_deeds:findIn K (.ref C0) "deeds"=some none)
  (na0_notes:findIn K (.ref C0) "notes"=some none)
  (pg6:PySem.W.plainGet K C6 Str.empty=true) (hd6:PySem.W.hasDictIn K C6=true) (po6:PySem.W.plainOver K C6=true) (sa6:findIn K (.ref C6) "__setattr__"=some (some (.builtin "object.__setattr__"))) (mk6:makesIn K C6=true) (kc6:KI K C6)
  (na6_laid:findIn K (.ref C6) "laid"=some none)
  (na6_vouched:findIn K (.ref C6) "vouched"=some none) :
  ∃ fd:FuncData,(∀ (s:Shared) (v:Value),BindsTo s fd ⟨[v],[]⟩ [("script",v)])∧∀ b8:Heap,K.In b8→b8.Ns mainGlobals mg→FnOk l.prog w K mg b8 CX0 11 fa fd ["script"] (Q74 K):=by
 have e:=hfa.symm.trans (mg_of X G a67)
 cases e
 have B:Bl K mg:=⟨mg_none_of X G z_all,mg_none_of X G z_any,mg_none_of X G z_bool,mg_none_of X G z_int,mg_none_of X G z_isinstance,mg_none_of X G z_len,mg_none_of X G z_list,mg_none_of X G z_max,mg_none_of X G z_min,mg_none_of X G z_range,mg_none_of X G z_reversed,mg_none_of X G z_tuple,mg_none_of X G z_zip,⟨_,mg_of X G y_NUMBERS⟩,⟨_,mg_of X G y_FACTORS⟩,⟨_,mg_of X G y_MOST_LINES⟩,⟨_,mg_of X G y_MOST_DEEDS⟩,⟨_,mg_of X G y_LAST_HAND⟩,⟨_,mg_of X G y_LAST_NUMBER⟩,⟨_,mg_of X G y_GREATEST_BY⟩,⟨_,mg_of X G y_GREATEST⟩,⟨_,mg_of X G y_ASKED_0⟩,⟨_,mg_of X G y_ASKED_1⟩,⟨_,mg_of X G y_NEW_0⟩,⟨_,mg_of X G y_NEW_1⟩,⟨_,mg_of X G y_HAND_SPOTS,λ_=>.inr ⟨_,_,_,x_HAND_SPOTS,rfl,rfl,zan (by simp),.cons ⟨_,rfl⟩ (.cons ⟨_,rfl⟩ (.cons ⟨_,rfl⟩ (.cons ⟨_,rfl⟩ (.nil))))⟩⟩,⟨_,mg_of X G y_LEFT_SPOTS,λ_=>.inr ⟨_,_,_,x_LEFT_SPOTS,rfl,rfl,zan (by simp),.cons ⟨_,rfl⟩ (.cons ⟨_,rfl⟩ (.nil))⟩⟩,⟨_,mg_of X G y_LEFT_AS_HANDS,λ_=>.inr ⟨_,_,_,x_LEFT_AS_HANDS,rfl,rfl,zan (by simp),.cons ⟨_,rfl⟩ (.cons ⟨_,rfl⟩ (.cons ⟨_,rfl⟩ (.cons ⟨_,rfl⟩ (.cons ⟨_,rfl⟩ (.cons ⟨_,rfl⟩ (.cons ⟨_,rfl⟩ (.cons ⟨_,rfl⟩ (.nil))))))))⟩⟩,⟨_,mg_of X G y_WHOLES,λ_=>.inr ⟨_,_,_,x_WHOLES,rfl,rfl,zan (by simp),.cons ⟨_,rfl⟩ (.cons ⟨_,rfl⟩ (.cons ⟨_,rfl⟩ (.cons ⟨_,rfl⟩ (.nil))))⟩⟩⟩
 have Z:Zt K mg (λi=>[C0,C1,C2,C3,C4,C5,C6].getD i 0):=⟨⟨pg0,hd0,po0,sa0⟩,mg_of X G aC0,na0_needs,na0_leaves,na0_deeds,na0_notes,⟨⟨_,_,_,_,_,_,_,_,_,_,_,_,_,_,_,oC1⟩,xC1⟩,mg_of X G aC1,⟨⟨_,_,_,_,_,_,_,_,_,_,_,_,_,_,_,oC2⟩,xC2⟩,mg_of X G aC2,⟨⟨_,_,_,_,_,_,_,_,_,_,_,_,_,_,_,oC3⟩,xC3⟩,mg_of X G aC3,⟨⟨_,_,_,_,_,_,_,_,_,_,_,_,_,_,_,oC4⟩,xC4⟩,mg_of X G aC4,⟨⟨_,_,_,_,_,_,_,_,_,_,_,_,_,_,_,oC5⟩,xC5⟩,mg_of X G aC5,⟨pg6,hd6,po6,sa6⟩,mg_of X G aC6,na6_laid,na6_vouched⟩
 obtain⟨_,F1⟩:=zaY l1
 obtain⟨_,F2⟩:=zaY l2
 obtain⟨_,F3⟩:=zaY l3
 obtain⟨_,F4⟩:=zaY l4
 obtain⟨_,F5⟩:=zaY l5
 obtain⟨_,F6⟩:=zaY l6
 obtain⟨_,F7⟩:=zaY l7
 obtain⟨_,F8⟩:=zaY l8
 obtain⟨_,F9⟩:=zaY l9
 obtain⟨_,F10⟩:=zaY l10
 obtain⟨_,F11⟩:=zaY l11
 obtain⟨_,F12⟩:=zaY l12
 obtain⟨_,F13⟩:=zaY l13
 obtain⟨_,F14⟩:=zaY l14
 obtain⟨_,F15⟩:=zaY l15
 obtain⟨_,F16⟩:=zaY l16
 obtain⟨_,F17⟩:=zaY l17
 obtain⟨_,F18⟩:=zaY l18
 obtain⟨_,F19⟩:=zaY l19
 obtain⟨_,F20⟩:=zaY l20
 obtain⟨_,F21⟩:=zaY l21
 obtain⟨_,F22⟩:=zaY l22
 obtain⟨_,F23⟩:=zaY l23
 obtain⟨_,F24⟩:=zaY l24
 obtain⟨_,F25⟩:=zaY l25
 obtain⟨_,F26⟩:=zaY l26
 obtain⟨_,F27⟩:=zaY l27
 obtain⟨_,F28⟩:=zaY l28
 obtain⟨_,F29⟩:=zaY l29
 obtain⟨_,F30⟩:=zaY l30
 obtain⟨_,F31⟩:=zaY l31
 obtain⟨_,F32⟩:=zaY l32
 obtain⟨_,F33⟩:=zaY l33
 obtain⟨_,F34⟩:=zaY l34
 obtain⟨_,F35⟩:=zaY l35
 obtain⟨_,F36⟩:=zaY l36
 obtain⟨_,F37⟩:=zaY l37
 obtain⟨_,F38⟩:=zaY l38
 obtain⟨_,F39⟩:=zaY l39
 obtain⟨_,F40⟩:=zaY l40
 obtain⟨_,F41⟩:=zaY l41
 obtain⟨_,F42⟩:=zaY l42
 obtain⟨_,F43⟩:=zaY l43
 obtain⟨_,F44⟩:=zaY l44
 obtain⟨_,F45⟩:=zaY l45
 obtain⟨_,F46⟩:=zaY l46
 obtain⟨_,F47⟩:=zaY l47
 obtain⟨_,F48⟩:=zaY l48
 obtain⟨_,F49⟩:=zaY l49
 obtain⟨_,F50⟩:=zaY l50
 obtain⟨_,F51⟩:=zaY l51
 obtain⟨_,F52⟩:=zaY l52
 obtain⟨_,F53⟩:=zaY l53
 obtain⟨_,F54⟩:=zaY l54
 obtain⟨_,F55⟩:=zaY l55
 obtain⟨_,F56⟩:=zaY l56
 obtain⟨_,F57⟩:=zaY l57
 obtain⟨_,F58⟩:=zaY l58
 obtain⟨_,F59⟩:=zaY l59
 obtain⟨_,F60⟩:=zaY l60
 obtain⟨_,F61⟩:=zaY l61
 obtain⟨_,F62⟩:=zaY l62
 obtain⟨_,F63⟩:=zaY l63
 obtain⟨_,F64⟩:=zaY l64
 obtain⟨_,F65⟩:=zaY l65
 obtain⟨_,F66⟩:=zaY l66
 obtain⟨_,_,_,kV,dc,pm,an,cd,ct,l67,c67,k67⟩:=l67
 have F67:=zoQ (st:=zhS) l67 c67 k67
 refine⟨fnOf "law" "law" (zdU zhS) (zcY zhS) (zai zhS) .none kV dc pm an cd ct,λs v=>.of_eq rfl,λb8 _ _=>?_⟩
 have G1:=zg5 (P:=l.prog) (w:=w) (b8:=b8) B Z  F1 (mg_of X G a1)
 have G2:=zhn (P:=l.prog) (w:=w) (b8:=b8) B Z  F2 (mg_of X G a2)
 have G3:=zow (P:=l.prog) (w:=w) (b8:=b8) B Z G1 G2 F3 ⟨mk0,a3,i3,kc0⟩
 have G4:=zp4 (P:=l.prog) (w:=w) (b8:=b8) B Z  F4 (mg_of X G a4)
 have G5:=zne (P:=l.prog) (w:=w) (b8:=b8) B Z  F5 (mg_of X G a5)
 have G6:=znf (P:=l.prog) (w:=w) (b8:=b8) B Z G5 F6 (mg_of X G a6)
 have G7:=zg6 (P:=l.prog) (w:=w) (b8:=b8) B Z G3 F7 (mg_of X G a7)
 have G8:=zjG (P:=l.prog) (w:=w) (b8:=b8) B Z  F8 (mg_of X G a8)
 have G9:=zlF (P:=l.prog) (w:=w) (b8:=b8) B Z  F9 (mg_of X G a9)
 have G10:=zg7 (P:=l.prog) (w:=w) (b8:=b8) B Z G9 F10 (mg_of X G a10)
 have G11:=zim (P:=l.prog) (w:=w) (b8:=b8) B Z G10 F11 (mg_of X G a11)
 have G12:=zho (P:=l.prog) (w:=w) (b8:=b8) B Z G11 F12 (mg_of X G a12)
 have G13:=zin (P:=l.prog) (w:=w) (b8:=b8) B Z G12 F13 (mg_of X G a13)
 have G14:=zio (P:=l.prog) (w:=w) (b8:=b8) B Z G9 F14 (mg_of X G a14)
 have G15:=zfs (P:=l.prog) (w:=w) (b8:=b8) B Z G14 F15 (mg_of X G a15)
 have G16:=ziq (P:=l.prog) (w:=w) (b8:=b8) B Z G15 G9 F16 (mg_of X G a16)
 have G17:=zhp (P:=l.prog) (w:=w) (b8:=b8) B Z G10 F17 (mg_of X G a17)
 have G18:=zis (P:=l.prog) (w:=w) (b8:=b8) B Z G16 G11 G14 G9 G17 F18 (mg_of X G a18)
 have G19:=zhq (P:=l.prog) (w:=w) (b8:=b8) B Z G9 G18 F19 (mg_of X G a19)
 have G20:=zhr (P:=l.prog) (w:=w) (b8:=b8) B Z G12 F20 (mg_of X G a20)
 have G21:=zoz (P:=l.prog) (w:=w) (b8:=b8) B Z G13 G19 G20 F21 (mg_of X G a21)
 have G22:=zni (P:=l.prog) (w:=w) (b8:=b8) B Z G9 G1 G4 G6 F22 (mg_of X G a22)
 have G23:=ziu (P:=l.prog) (w:=w) (b8:=b8) B Z G4 F23 (mg_of X G a23)
 have G24:=zjI (P:=l.prog) (w:=w) (b8:=b8) B Z G1 F24 (mg_of X G a24)
 have G25:=ziv (P:=l.prog) (w:=w) (b8:=b8) B Z G6 F25 (mg_of X G a25)
 have G26:=zkt (P:=l.prog) (w:=w) (b8:=b8) B Z  F26 (mg_of X G a26)
 have G27:=zg9 (P:=l.prog) (w:=w) (b8:=b8) B Z G23 G24 G25 G4 G26 G22 F27 (mg_of X G a27)
 have G28:=zhs (P:=l.prog) (w:=w) (b8:=b8) B Z G23 G24 G25 G4 F28 (mg_of X G a28)
 have G29:=zht (P:=l.prog) (w:=w) (b8:=b8) B Z G5 G24 G25 G4 G26 G23 F29 (mg_of X G a29)
 have G30:=zhu (P:=l.prog) (w:=w) (b8:=b8) B Z G5 G24 G25 G4 G26 G23 F30 (mg_of X G a30)
 have G31:=zhv (P:=l.prog) (w:=w) (b8:=b8) B Z G5 G24 G26 F31 (mg_of X G a31)
 have G32:=zhw (P:=l.prog) (w:=w) (b8:=b8) B Z G22 G28 G24 G29 G30 G31 G25 G23 F32 (mg_of X G a32)
 have G33:=znl (P:=l.prog) (w:=w) (b8:=b8) B Z G8 G27 G32 F33 (mg_of X G a33)
 have G34:=zoB (P:=l.prog) (w:=w) (b8:=b8) B Z G5 F34 (mg_of X G a34)
 have G35:=ze0 (P:=l.prog) (w:=w) (b8:=b8) B Z  F35 (mg_of X G a35)
 have G36:=znn (P:=l.prog) (w:=w) (b8:=b8) B Z G35 G34 F36 (mg_of X G a36)
 have G37:=zp8 (P:=l.prog) (w:=w) (b8:=b8) B Z  F37 ⟨mk6,a37,i37,kc6⟩
 have G38:=zha (P:=l.prog) (w:=w) (b8:=b8) B Z  F38 ⟨a38,i38,F38.kp⟩
 have G39:=zfJ (P:=l.prog) (w:=w) (b8:=b8) B Z G8 F39 ⟨a39,i39,F39.kp⟩
 have G40:=zd8 (P:=l.prog) (w:=w) (b8:=b8) B Z G39 G38 F40 ⟨a40,i40,F40.kp⟩
 have G41:=zjJ (P:=l.prog) (w:=w) (b8:=b8) B Z  F41 (mg_of X G a41)
 have G42:=zkv (P:=l.prog) (w:=w) (b8:=b8) B Z G38 G7 G21 G40 G41 F42 ⟨a42,i42,F42.kp⟩
 have G43:=zft (P:=l.prog) (w:=w) (b8:=b8) B Z  F43 ⟨a43,i43,F43.kp⟩
 have G44:=zjK (P:=l.prog) (w:=w) (b8:=b8) B Z G43 G40 G38 F44 ⟨a44,i44,F44.kp⟩
 have G45:=zjL (P:=l.prog) (w:=w) (b8:=b8) B Z G34 F45 (mg_of X G a45)
 have G46:=zfK (P:=l.prog) (w:=w) (b8:=b8) B Z G43 G33 F46 ⟨a46,i46,F46.kp⟩
 have G47:=zix (P:=l.prog) (w:=w) (b8:=b8) B Z G45 G46 F47 ⟨a47,i47,F47.kp⟩
 have G48:=zjM (P:=l.prog) (w:=w) (b8:=b8) B Z G36 G46 F48 ⟨a48,i48,F48.kp⟩
 have G49:=zjN (P:=l.prog) (w:=w) (b8:=b8) B Z  F49 ⟨a49,i49,F49.kp⟩
 have G50:=zoD (P:=l.prog) (w:=w) (b8:=b8) B Z  F50 (mg_of X G a50)
 have G51:=zjO (P:=l.prog) (w:=w) (b8:=b8) B Z  F51 (mg_of X G a51)
 have G52:=zky (P:=l.prog) (w:=w) (b8:=b8) B Z G50 F52 (mg_of X G a52)
 have G53:=znp (P:=l.prog) (w:=w) (b8:=b8) B Z G52 F53 (mg_of X G a53)
 have G54:=zhb (P:=l.prog) (w:=w) (b8:=b8) B Z G52 G53 G50 F54 (mg_of X G a54)
 have G55:=zfY (P:=l.prog) (w:=w) (b8:=b8) B Z G54 G53 F55 (mg_of X G a55)
 have G56:=zhc (P:=l.prog) (w:=w) (b8:=b8) B Z G54 F56 (mg_of X G a56)
 have G57:=znr (P:=l.prog) (w:=w) (b8:=b8) B Z  F57 (mg_of X G a57)
 have G58:=zfZ (P:=l.prog) (w:=w) (b8:=b8) B Z G55 G56 G57 F58 (mg_of X G a58)
 have G59:=zhe (P:=l.prog) (w:=w) (b8:=b8) B Z G50 G51 G58 F59 (mg_of X G a59)
 have G60:=zns (P:=l.prog) (w:=w) (b8:=b8) B Z G42 G3 F60 (mg_of X G a60)
 have G61:=znt (P:=l.prog) (w:=w) (b8:=b8) B Z  F61 (mg_of X G a61)
 have G62:=znu (P:=l.prog) (w:=w) (b8:=b8) B Z G61 G49 F62 (mg_of X G a62)
 have G63:=zlI (P:=l.prog) (w:=w) (b8:=b8) B Z  F63 (mg_of X G a63)
 have G64:=zlJ (P:=l.prog) (w:=w) (b8:=b8) B Z  F64 (mg_of X G a64)
 have G65:=zkA (P:=l.prog) (w:=w) (b8:=b8) B Z G64 F65 (mg_of X G a65)
 have G66:=zny (P:=l.prog) (w:=w) (b8:=b8) B Z G60 G63 G44 G65 G48 G62 G47 F66 (mg_of X G a66)
 exact zrC B Z G37 G59 G60 G62 G51 G66 G49 G48 F67
end My

open PySem PySem.W PyProof.Rows
open My L2
set_option maxRecDepth 1000000 in
set_option maxHeartbeats 0 in
theorem PySem.Challenge.cw_swornhall_k13_loosened_holds : PySem.Challenge.rw_swornhall_k13_loosened.Holds := by
  refine PySem.Challenge.hd_swornhall_k13_loosened fun d kwd hdef => ?_
  obtain ⟨rfl, rfl⟩ := Prod.mk.inj (Option.some.inj ((show defOf My.Qv PySem.Challenge.rw_swornhall_k13_loosened.row.name = some (_, _) from rfl).symm.trans hdef))
  refine L2.walk_ofE (l := PySem.Challenge.rw_swornhall_k13_loosened) (n := 63) (k := 11) (x := "script") (CX := L2.CX0) (sp := My.Q74) (S := fun K => ((My.zBoo K).all id, My.zSee K) = (true, My.zSig)) rfl (by decide) rfl ⟨rfl, by decide, by decide, rfl⟩ (fun w h Y => Y) ?F (fun _ _ a ns hl _ hS => ⟨a, ns, rfl, hS, hl, fun _ => rfl⟩) (fun _ _ _ _ z => z)
  intro w K mg fa h hA KX G hmg
  obtain⟨_,_,_,xa_HAND_SPOTS⟩:=L2.tup_of (bA hA 169 rfl)
  obtain⟨_,_,_,xa_LEFT_SPOTS⟩:=L2.tup_of (bA hA 171 rfl)
  obtain⟨_,_,_,xa_LEFT_AS_HANDS⟩:=L2.tup_of (bA hA 173 rfl)
  obtain⟨_,_,_,xa_WHOLES⟩:=L2.tup_of (bA hA 185 rfl)
  obtain⟨_,_,_,_,_,_,_,_,_,_,_,_,_,_,_,o1⟩:=L2.exc_of (bA hA 186 rfl)
  obtain⟨_,_,_,_,_,_,_,_,_,_,_,_,_,_,_,o2⟩:=L2.exc_of (bA hA 188 rfl)
  obtain⟨_,_,_,_,_,_,_,_,_,_,_,_,_,_,_,o3⟩:=L2.exc_of (bA hA 190 rfl)
  obtain⟨_,_,_,_,_,_,_,_,_,_,_,_,_,_,_,o4⟩:=L2.exc_of (bA hA 192 rfl)
  obtain⟨_,_,_,_,_,_,_,_,_,_,_,_,_,_,_,o5⟩:=L2.exc_of (bA hA 194 rfl)
  exact My.all_mk KX G hmg (eA hA 0 rfl) (eA hA 1 rfl) (eA hA 2 rfl) (eA hA 3 rfl) (eA hA 4 rfl) (eA hA 5 rfl) (eA hA 6 rfl) (eA hA 7 rfl) (fA hA 0 8 65 _ _ _ rfl rfl rfl) (eA hA 9 rfl) (fA hA 1 10 70 _ _ _ rfl rfl rfl) (eA hA 11 rfl) (bA hA 12 rfl) (fA hA 2 13 53 _ _ _ rfl rfl rfl) (eA hA 14 rfl) (fA hA 3 15 26 _ _ _ rfl rfl rfl) (eA hA 16 rfl) (fA hA 4 17 31 _ _ _ rfl rfl rfl) (eA hA 18 rfl) (fA hA 5 19 38 _ _ _ rfl rfl rfl) (eA hA 20 rfl) (fA hA 6 21 77 _ _ _ rfl rfl rfl) (eA hA 22 rfl) (fA hA 7 23 82 _ _ _ rfl rfl rfl) (eA hA 24 rfl) (fA hA 8 25 163 _ _ _ rfl rfl rfl) (eA hA 26 rfl) (fA hA 9 27 156 _ _ _ rfl rfl rfl) (eA hA 28 rfl) (fA hA 10 29 116 _ _ _ rfl rfl rfl) (eA hA 30 rfl) (fA hA 11 31 111 _ _ _ rfl rfl rfl) (eA hA 32 rfl) (fA hA 12 33 96 _ _ _ rfl rfl rfl) (eA hA 34 rfl) (fA hA 13 35 149 _ _ _ rfl rfl rfl) (eA hA 36 rfl) (fA hA 14 37 142 _ _ _ rfl rfl rfl) (eA hA 38 rfl) (fA hA 15 39 137 _ _ _ rfl rfl rfl) (eA hA 40 rfl) (fA hA 16 41 130 _ _ _ rfl rfl rfl) (eA hA 42 rfl) (fA hA 17 43 123 _ _ _ rfl rfl rfl) (eA hA 44 rfl) (fA hA 18 45 101 _ _ _ rfl rfl rfl) (eA hA 46 rfl) (fA hA 19 47 106 _ _ _ rfl rfl rfl) (eA hA 48 rfl) (fA hA 20 49 89 _ _ _ rfl rfl rfl) (eA hA 50 rfl) (fA hA 21 51 168 _ _ _ rfl rfl rfl) (eA hA 52 rfl) (fA hA 22 53 294 _ _ _ rfl rfl rfl) (eA hA 54 rfl) (fA hA 23 55 284 _ _ _ rfl rfl rfl) (eA hA 56 rfl) (fA hA 24 57 289 _ _ _ rfl rfl rfl) (eA hA 58 rfl) (fA hA 25 59 301 _ _ _ rfl rfl rfl) (eA hA 60 rfl) (fA hA 26 61 244 _ _ _ rfl rfl rfl) (eA hA 62 rfl) (fA hA 27 63 279 _ _ _ rfl rfl rfl) (eA hA 64 rfl) (fA hA 28 65 258 _ _ _ rfl rfl rfl) (eA hA 66 rfl) (fA hA 29 67 265 _ _ _ rfl rfl rfl) (eA hA 68 rfl) (fA hA 30 69 272 _ _ _ rfl rfl rfl) (eA hA 70 rfl) (fA hA 31 71 251 _ _ _ rfl rfl rfl) (eA hA 72 rfl) (fA hA 32 73 237 _ _ _ rfl rfl rfl) (eA hA 74 rfl) (fA hA 33 75 306 _ _ _ rfl rfl rfl) (eA hA 76 rfl) (fA hA 34 77 318 _ _ _ rfl rfl rfl) (eA hA 78 rfl) (fA hA 35 79 313 _ _ _ rfl rfl rfl) (eA hA 80 rfl) (bA hA 81 rfl) (fA hA 36 82 332 _ _ _ rfl rfl rfl) (eA hA 83 rfl) (bA hA 84 rfl) (fA hA 37 85 421 _ _ _ rfl rfl rfl) (eA hA 86 rfl) (bA hA 87 rfl) (fA hA 38 88 414 _ _ _ rfl rfl rfl) (eA hA 89 rfl) (bA hA 90 rfl) (fA hA 39 91 428 _ _ _ rfl rfl rfl) (eA hA 92 rfl) (fA hA 40 93 442 _ _ _ rfl rfl rfl) (eA hA 94 rfl) (bA hA 95 rfl) (fA hA 41 96 339 _ _ _ rfl rfl rfl) (eA hA 97 rfl) (bA hA 98 rfl) (fA hA 42 99 400 _ _ _ rfl rfl rfl) (eA hA 100 rfl) (bA hA 101 rfl) (fA hA 43 102 346 _ _ _ rfl rfl rfl) (eA hA 103 rfl) (fA hA 44 104 447 _ _ _ rfl rfl rfl) (eA hA 105 rfl) (bA hA 106 rfl) (fA hA 45 107 407 _ _ _ rfl rfl rfl) (eA hA 108 rfl) (bA hA 109 rfl) (fA hA 46 110 367 _ _ _ rfl rfl rfl) (eA hA 111 rfl) (bA hA 112 rfl) (fA hA 47 113 372 _ _ _ rfl rfl rfl) (eA hA 114 rfl) (bA hA 115 rfl) (fA hA 48 116 379 _ _ _ rfl rfl rfl) (eA hA 117 rfl) (fA hA 49 118 461 _ _ _ rfl rfl rfl) (eA hA 119 rfl) (fA hA 50 120 454 _ _ _ rfl rfl rfl) (eA hA 121 rfl) (fA hA 51 122 468 _ _ _ rfl rfl rfl) (eA hA 123 rfl) (fA hA 52 124 478 _ _ _ rfl rfl rfl) (eA hA 125 rfl) (fA hA 53 126 485 _ _ _ rfl rfl rfl) (eA hA 127 rfl) (fA hA 54 128 499 _ _ _ rfl rfl rfl) (eA hA 129 rfl) (fA hA 55 130 492 _ _ _ rfl rfl rfl) (eA hA 131 rfl) (fA hA 56 132 473 _ _ _ rfl rfl rfl) (eA hA 133 rfl) (fA hA 57 134 504 _ _ _ rfl rfl rfl) (eA hA 135 rfl) (fA hA 58 136 509 _ _ _ rfl rfl rfl) (eA hA 137 rfl) (fA hA 59 138 528 _ _ _ rfl rfl rfl) (eA hA 139 rfl) (fA hA 60 140 516 _ _ _ rfl rfl rfl) (eA hA 141 rfl) (fA hA 61 142 547 _ _ _ rfl rfl rfl) (eA hA 143 rfl) (fA hA 62 144 540 _ _ _ rfl rfl rfl) (eA hA 145 rfl) (fA hA 63 146 521 _ _ _ rfl rfl rfl) (eA hA 147 rfl) (fA hA 64 148 535 _ _ _ rfl rfl rfl) (eA hA 149 rfl) (fA hA 65 150 554 _ _ _ rfl rfl rfl) (eA hA 151 rfl) (fA hA 66 152 559 _ _ _ rfl rfl rfl) (eA hA 153 rfl) (eA hA 154 rfl) (eA hA 155 rfl) (eA hA 156 rfl) (eA hA 157 rfl) (eA hA 158 rfl) (eA hA 159 rfl) (eA hA 160 rfl) (eA hA 161 rfl) (eA hA 162 rfl) (eA hA 163 rfl) (eA hA 164 rfl) (eA hA 165 rfl) (eA hA 166 rfl) (eA hA 167 rfl) (eA hA 168 rfl) xa_HAND_SPOTS (eA hA 170 rfl) xa_LEFT_SPOTS (eA hA 172 rfl) xa_LEFT_AS_HANDS (eA hA 174 rfl) (eA hA 175 rfl) (eA hA 176 rfl) (eA hA 177 rfl) (eA hA 178 rfl) (eA hA 179 rfl) (eA hA 180 rfl) (eA hA 181 rfl) (eA hA 182 rfl) (eA hA 183 rfl) (eA hA 184 rfl) xa_WHOLES o1 (bA hA 187 rfl) o2 (bA hA 189 rfl) o3 (bA hA 191 rfl) o4 (bA hA 193 rfl) o5 (bA hA 195 rfl) (bA hA 196 rfl) (bA hA 197 rfl) (bA hA 198 rfl) (eA hA 199 rfl) (bA hA 200 rfl) (bA hA 201 rfl) (eA hA 202 rfl) (eA hA 203 rfl) (eA hA 204 rfl) (eA hA 205 rfl) (bA hA 206 rfl) (bA hA 207 rfl) (bA hA 208 rfl) (eA hA 209 rfl) (bA hA 210 rfl) (bA hA 211 rfl) (eA hA 212 rfl) (eA hA 213 rfl)

