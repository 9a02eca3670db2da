import PyProof.Rows.All
import Wide.All
import Wide.FinOn
import OpenK.KLine
import OpenK.KMore
import OpenK.KDescr
import OpenK.KOwn
import OpenK.KCls
import KE.KIsAll
import KE.KRevIter
import KE.KDictList
import KE.KIsNot
import KE.KItem
import KE.KDictSum
import KE.KDictOf
import KE.KxBytes
import KE.KFromBytes
import Open.FastRun
import PySem.Challenge.RW_swornhall_k14_reach
set_option Elab.async false
set_option linter.all false
set_option compiler.extract_closed false
set_option maxHeartbeats 0
set_option maxRecDepth 100000
abbrev Fg:=PySem.W.Frag
theorem zgm {α : Type _}{β : Type _}{f : α -> β}{l : List α}{i : Nat} : (l.map f)[i]? = l[i]?.map f := List.getElem?_map
theorem zlm {α : Type _}{β : Type _}{as : List α}(f : α -> β) : (as.map f).length = as.length := List.length_map f
theorem zme {α : Type _}{β : Type _}{f : α -> β}{o : Option α}{b : β} : o.map f = some b ↔ ∃ a, o = some a /\ f a = b := Option.map_eq_some_iff
theorem zmg {α : Type _}{l : List α}{i : Nat}{a : α}(e : l[i]? = some a) : a ∈ l := List.mem_of_getElem? e
theorem zms {α : Type _}{a b : α} : a ∈ [b] ↔ a = b := List.mem_singleton
theorem zst {α : Type _}{l : List α} : l.toArray.size = l.length := List.size_toArray
theorem zma {α : Type _}{a : α}{s t : List α} : a ∈ s ++ t ↔ a ∈ s \/ a ∈ t := List.mem_append
theorem zge {α : Type _}{l : List α}{i : Nat}{a : α} : l[i]? = some a ↔ ∃ h : i < l.length, l[i] = a := List.getElem?_eq_some_iff
theorem zmc {α : Type _}{β : Type _}{f : α -> β}{a : α}{l : List α} : (a :: l).map f = f a :: l.map f := List.map_cons
theorem zmm {α : Type _}{β : Type _}{f : α -> β}{l : List α}{b : β} : b ∈ l.map f ↔ ∃ a, a ∈ l /\ f a = b := List.mem_map
namespace L2
open PySem PySem.Spec PySem.Calls PyProof.Rows PySem.W
abbrev zbA:List Value:=[.type "ValueError",.type "Exception",.type "BaseException",.type "object"]
def zb4 (s:Stmt)(j:Nat):Stmt:=match s with
 | .ClassDef _ _ _ body _ _ _ _ _ _ _=>body.getD j (.Pass ⟨0,0,0,0⟩)
 | _=>.Pass ⟨0,0,0,0⟩
def zcV (s:Stmt):Arguments:=match s with
 | .FunctionDef _ a _ _ _ _ _ _ _ _=>a
 | _=>{posonlyargs:=[],args:=[],vararg:=none,kwonlyargs:=[],kw_defaults:=[],kwarg:=none,defaults:=[]}
def zbO (s:Stmt):List Stmt:=match s with
 | .FunctionDef _ _ b _ _ _ _ _ _ _=>b
 | _=>[]
def zad (s:Stmt):Scope:=match s with
 | .FunctionDef _ _ _ _ _ _ sc _ _ _=>sc
 | _=>{kind:=.function,names:=[],isGenerator:=false,isCoroutine:=false}
def Kof (as:List Addr)(h:Heap):Fg:=as.filterMap λa=>(h.get? a).map λo=>(a,o)
theorem zmn (h:Heap):∀ as:List Addr,(Kof as h).In h
 | []=>λa o e=>by cases e
 | b::as=>λa o e=>by
  have ih:=zmn h as
  unfold Kof at e
  rw[List.filterMap_cons] at e
  cases hb:h.get? b with
  | none=>rw[hb] at e;exact ih a o e
  | some ob=>
   rw[hb] at e
   simp only[Option.map_some] at e
   rw[List.lookup_cons] at e
   by_cases z:(a == b)=true
   ·rw[z] at e
    cases e
    rw[eq_of_beq z];exact hb
   ·rw[Bool.not_eq_true] at z
    rw[z] at e
    exact ih a o e
abbrev Sig:=Str × Str × Arguments × FuncBody × Scope × Addr × List (Str × Addr) × Value × Addr
def zmR (name qual:Str)(params:Arguments)(body:List Stmt)(scope:Scope):Sig:=(name,qual,params,.stmts body,scope,mainGlobals,[],.none,builtinsNs)
def zaP (K:Fg)(a:Addr):Option Sig:=match K.lookup a with
 | some ⟨_,_,.func f,_⟩=>some (f.name,f.qualname,f.params,f.body,f.scope,f.globals,f.closure,f.defaults,f.builtins)
 | _=>none
def zal (K:Fg)(a:Addr)(q:Str):Bool:=match K.lookup a with
 | some ⟨_,_,.func f,_⟩=>codeIn K f.code q && keepIn K (.ref a)
 | _=>false
def zgw (K:Fg)(C:Addr)(bm:List Value)(newId:String):Bool:=match K.lookup C with
 | some ⟨cl,_,.cls c,sl⟩=>cl == .type "type" && c.mro == .ref C::bm && !c.hasDel && (match sl.toList with
  | [_,_,_,_,some v,_]=>v == .builtin newId
  | _=>false)
 | _=>false
def zgx (K:Fg)(a:Addr)(vs:List Value):Bool:=match K.lookup a with
 | some ⟨cl,_,.seq xs _,_⟩=>cl == .type "tuple" && xs.toList == vs
 | _=>false
def eHook {β:Type}(as:List Addr)(see:Fg->β)(due:β):Hook:=
 ⟨β,λs=>see (Kof as s.heap),λ_=>due,λ_ h=>∃ K:Fg,K.In h/\see K=due,λ_ s e=>⟨_,zmn _ _,e⟩,λ_ _ _ ⟨K,x,e⟩ k=>⟨K,x.keeps k,e⟩⟩
end L2
namespace PySem.W.Fast
def tw18307501757890047186:=0
def tw12798214914381207383:=0
def tw6863389043395203639:=0
def tw8487875889876138125:=0
def tw11118559500014731387:=0
def tw13370426301855830670:=0
def tw3805179913510785624:=0
def tw9504568655119103097:=0
def tw7427882862689794591:=0
def tw1509011493060443784:=0
def tw17187592419953054927:=0
def tw1374809917478469207:=0
def tw3573803781186724107:=0
def tw7133287146014794512:=0
def tw9530383033924968270:=0
def tw11901240866265565238:=0
def tw5401386424495651762:=0
def tw3066672498328341970:=0
def tw18383606232472641144:=0
def tw6898925682373053968:=0
def tw13952278445469053016:=0
def tw12949772414969237422:=0
def tw17734686836918770121:=0
def tw1031358704201277654:=0
def tw15911043899054090986:=0
def tw8406289869299561770:=0
def tw264385973267774176:=0
def tw8044346561524208409:=0
def tw12947189612364120706:=0
def tw14718586197621574435:=0
def tw10125637910410618307:=0
def tw17545121368123484397:=0
def tw6360048779628766785:=0
def tw343251660353820324:=0
def tw14912224958930239543:=0
def tw17176343632994631567:=0
def tw11523862725591913631:=0
def tw7167735835144839231:=0
def tw17638624537122257141:=0
def tw14122335945916525124:=0
def tw11392873555953348823:=0
def tw3724129273723781763:=0
def tw6414904129042571413:=0
def tw7717493316181237409:=0
def tw13075206381671896006:=0
def tw11221394387103660251:=0
def tw13569073624172401485:=0
def tw2602434085167411457:=0
def tw402756109720564302:=0
def tw13793510579257141951:=0
def tw8029788663076707292:=0
def tw10676580713177482846:=0
def tw9099006836600298738:=0
def tw13817991495811783004:=0
def tw7728482370782859055:=0
def tw3060240740172897693:=0
def tw6556112071036467948:=0
def tw2477622378840125694:=0
def tw17949439150821565918:=0
def tw16734888505816552472:=0
def tw5018727319029092549:=0
def tw8628336640609799197:=0
def tw3203734409514070214:=0
def tw12265583492534600204:=0
def tw9539947733483278228:=0
def tw17171882406800482424:=0
def tw9579950098837908:=0
def tw7894587036045431337:=0
def tw6563920068184704852:=0
def tw16652861876479815209:=0
def tw15209006503943566491:=0
def tw15173241004350456548:=0
def tw6476231063446261773:=0
def tw6559093603238145486:=0
def tw1764095855108586209:=0
def tw16387805800959901699:=0
def tw4231978424289647592:=0
def tw5320836567851328563:=0
def tw13109694940621517112:=0
def tw14151940152740475772:=0
def tw5066611062824234841:=0
def tw824452117609056372:=0
def tw8839456741406526452:=0
end PySem.W.Fast
namespace My
open PySem L2 PyProof.Rows
def top (i:Nat):Stmt:=PySem.Challenge.pw_swornhall_k14_reach.main.body.getD i (.Pass ⟨0,0,0,0⟩)
abbrev zht:Stmt:=top 4
abbrev zed:Stmt:=top 5
abbrev zfc:Stmt:=top 6
abbrev za6:Stmt:=zb4 (top 17) 0
abbrev zbC:Stmt:=top 18
abbrev zbP:Stmt:=top 19
abbrev zb8:Stmt:=top 20
abbrev zcv:Stmt:=top 21
abbrev zgS:Stmt:=top 22
abbrev zcH:Stmt:=top 23
abbrev zbQ:Stmt:=top 24
abbrev zbR:Stmt:=top 25
abbrev zbS:Stmt:=top 26
abbrev zbN:Stmt:=top 27
abbrev zcI:Stmt:=top 28
abbrev zcm:Stmt:=top 29
abbrev zcJ:Stmt:=top 30
abbrev za8:Stmt:=top 31
abbrev zcK:Stmt:=top 32
abbrev zb9:Stmt:=top 33
abbrev zee:Stmt:=top 34
abbrev zdE:Stmt:=top 35
abbrev zfd:Stmt:=top 47
abbrev zca:Stmt:=top 48
abbrev zcn:Stmt:=top 49
abbrev zco:Stmt:=top 50
abbrev zcp:Stmt:=top 51
abbrev zcq:Stmt:=top 52
abbrev zcr:Stmt:=top 53
abbrev zcw:Stmt:=top 54
abbrev zce:Stmt:=top 55
abbrev zcf:Stmt:=top 56
abbrev zdF:Stmt:=top 57
abbrev zdp:Stmt:=top 58
abbrev zfe:Stmt:=top 59
abbrev zaX:Stmt:=top 60
abbrev zbT:Stmt:=zb4 (top 62) 0
abbrev zdG:Stmt:=zb4 (top 62) 1
abbrev zc9:Stmt:=zb4 (top 62) 2
abbrev zb5:Stmt:=zb4 (top 62) 6
abbrev zda:Stmt:=zb4 (top 62) 7
abbrev zcL:Stmt:=zb4 (top 62) 8
abbrev zcg:Stmt:=zb4 (top 62) 9
abbrev zbu:Stmt:=zb4 (top 62) 10
abbrev zbG:Stmt:=zb4 (top 62) 11
abbrev zbH:Stmt:=zb4 (top 62) 12
abbrev zcb:Stmt:=zb4 (top 62) 13
abbrev za4:Stmt:=zb4 (top 62) 14
abbrev zdb:Stmt:=top 63
abbrev zdc:Stmt:=top 65
abbrev zgT:Stmt:=top 66
abbrev zff:Stmt:=top 67
abbrev zef:Stmt:=top 68
abbrev zeg:Stmt:=top 69
abbrev zeH:Stmt:=top 70
abbrev zeh:Stmt:=top 70
abbrev zdH:Stmt:=top 71
abbrev zei:Stmt:=top 72
abbrev zeI:Stmt:=top 73
section
open PySem PySem.Spec PySem.Calls PyProof.Rows PySem.W L2
def znV (p:Program)(ks:List Nat):Program:={p with main:={p.main with body:=ks.filterMap λi=>p.main.body[i]?}}
def Qv:Program:=znV PySem.Challenge.rw_swornhall_k14_reach.row.toRowW.prog [0,2,3,4,5,6,8,9,10,11,12,13,14,15,16,17,18,19,20,21,22,23,24,25,26,27,28,29,30,31,32,33,34,35,37,38,39,40,42,43,44,45,46,47,48,49,50,51,52,53,54,55,56,57,58,59,60,62,63,65,66,67,68,69,70,71,72,73]
abbrev nI (K:Fg)(s:Str)(n:Addr):Bool:=PySem.W.nsIn K mainGlobals s == some (some (.ref n))
abbrev fI (K:Fg)(c:Addr)(s:Str)(n:Addr):Bool:=PySem.W.findIn K (.ref c) s == some (some (.ref n))
abbrev gS (n q:Str)(d:Stmt):Option L2.Sig:=some (L2.zmR n q (zcV d) (zbO d) (zad d))
def zBo1 (K:Fg):List Bool:=[nI K "Craft" 56,
 nI K "HallError" 178,
 nI K "BadSheet" 191,
 nI K "NoCraft" 203,
 nI K "Unmet" 215,
 nI K "Hall" 417,
 nI K "copied_lines" 65,
 L2.zal K 65 "copied_lines",
 nI K "copied_deed" 70,
 L2.zal K 70 "copied_deed",
 fI K 56 "__init__" 53,
 PySem.W.isFn K (.ref 53),
 L2.zal K 53 "Craft.__init__",
 nI K "bare" 26,
 L2.zal K 26 "bare",
 nI K "summed" 31,
 L2.zal K 31 "summed",
 nI K "turned" 38,
 L2.zal K 38 "turned",
 nI K "copied_craft" 77,
 L2.zal K 77 "copied_craft",
 nI K "called_by" 82,
 L2.zal K 82 "called_by",
 nI K "between" 163,
 L2.zal K 163 "between",
 nI K "small_enough" 156,
 L2.zal K 156 "small_enough",
 nI K "line_right" 116,
 L2.zal K 116 "line_right",
 nI K "lines_right" 111,
 L2.zal K 111 "lines_right",
 nI K "oath_right" 96,
 L2.zal K 96 "oath_right",
 nI K "hand_right" 149,
 L2.zal K 149 "hand_right",
 nI K "two_hands_right" 142,
 L2.zal K 142 "two_hands_right",
 nI K "call_right" 137,
 L2.zal K 137 "call_right",
 nI K "range_right" 130,
 L2.zal K 130 "range_right",
 nI K "deed_right" 123,
 L2.zal K 123 "deed_right",
 nI K "deeds_right" 101,
 L2.zal K 101 "deeds_right",
 nI K "notes_right" 106,
 L2.zal K 106 "notes_right",
 nI K "right" 89,
 L2.zal K 89 "right",
 nI K "due_at" 168,
 L2.zal K 168 "due_at",
 nI K "eight_with" 282,
 L2.zal K 282 "eight_with",
 nI K "each_from" 272,
 L2.zal K 272 "each_from",
 nI K "all_turned" 277,
 L2.zal K 277 "all_turned",
 nI K "constant" 289,
 L2.zal K 289 "constant",
 nI K "first_duties" 232,
 L2.zal K 232 "first_duties",
 nI K "call_duties" 267,
 L2.zal K 267 "call_duties",
 nI K "part_duties" 246,
 L2.zal K 246 "part_duties",
 nI K "draw_duties" 253,
 L2.zal K 253 "draw_duties",
 nI K "turn_duties" 260,
 L2.zal K 260 "turn_duties",
 nI K "deed_duties" 239,
 L2.zal K 239 "deed_duties",
 nI K "duties" 225,
 L2.zal K 225 "duties",
 nI K "shows" 294,
 L2.zal K 294 "shows",
 nI K "noughts_and_ones" 306,
 L2.zal K 306 "noughts_and_ones",
 nI K "sought" 301,
 L2.zal K 301 "sought",
 fI K 417 "__init__" 320,
 PySem.W.isFn K (.ref 320),
 L2.zal K 320 "Hall.__init__",
 fI K 417 "release" 407,
 PySem.W.isFn K (.ref 407),
 L2.zal K 407 "Hall.release",
 fI K 417 "called_at" 400,
 PySem.W.isFn K (.ref 400),
 L2.zal K 400 "Hall.called_at",
 fI K 417 "release_callers" 414,
 PySem.W.isFn K (.ref 414),
 L2.zal K 414 "Hall.release_callers",
 nI K "same_oath" 428,
 L2.zal K 428 "same_oath",
 fI K 417 "lay" 327,
 PySem.W.isFn K (.ref 327),
 L2.zal K 327 "Hall.lay",
 fI K 417 "must_stand" 386]
def zBo2 (K:Fg):List Bool:=[PySem.W.isFn K (.ref 386),
 L2.zal K 386 "Hall.must_stand",
 fI K 417 "tear" 334,
 PySem.W.isFn K (.ref 334),
 L2.zal K 334 "Hall.tear",
 fI K 417 "duties_at" 393,
 PySem.W.isFn K (.ref 393),
 L2.zal K 393 "Hall.duties_at",
 fI K 417 "seek" 360,
 PySem.W.isFn K (.ref 360),
 L2.zal K 360 "Hall.seek",
 fI K 417 "held" 367,
 PySem.W.isFn K (.ref 367),
 L2.zal K 367 "Hall.held",
 fI K 417 "reach" 374,
 PySem.W.isFn K (.ref 374),
 L2.zal K 374 "Hall.reach",
 fI K 417 "sworn" 379,
 PySem.W.isFn K (.ref 379),
 L2.zal K 379 "Hall.sworn",
 nI K "_law_mix" 442,
 L2.zal K 442 "_law_mix",
 nI K "_law_deeds" 456,
 L2.zal K 456 "_law_deeds",
 nI K "_law_cell_at" 435,
 L2.zal K 435 "_law_cell_at",
 nI K "_law_met" 468,
 L2.zal K 468 "_law_met",
 nI K "_law_reach" 463,
 L2.zal K 463 "_law_reach",
 nI K "_law_told" 449,
 L2.zal K 449 "_law_told",
 nI K "_law_same" 480,
 L2.zal K 480 "_law_same",
 nI K "_law_met" 468,
 L2.zal K 468 "_law_met",
 nI K "_law_sought" 475,
 L2.zal K 475 "_law_sought",
 nI K "law" 485,
 L2.zal K 485 "law",
 PySem.W.nsIn K mainGlobals "all"== some none,
 PySem.W.nsIn K mainGlobals "any"== some none,
 PySem.W.nsIn K mainGlobals "bool"== some none,
 PySem.W.nsIn K mainGlobals "enumerate"== some none,
 PySem.W.nsIn K mainGlobals "isinstance"== some none,
 PySem.W.nsIn K mainGlobals "len"== some none,
 PySem.W.nsIn K mainGlobals "list"== some none,
 PySem.W.nsIn K mainGlobals "min"== some none,
 PySem.W.nsIn K mainGlobals "range"== some none,
 PySem.W.nsIn K mainGlobals "sorted"== some none,
 PySem.W.nsIn K mainGlobals "tuple"== some none,
 PySem.W.nsIn K mainGlobals "zip"== some none,
 PySem.W.nsIn K mainGlobals "NUMBERS"== some (some (.int 9 196)),
 PySem.W.nsIn K mainGlobals "FACTORS"== some (some (.int 8 198)),
 nI K "HAND_SPOTS" 39,
 L2.zgx K 39 [(.int 1 223),(.int 2 224),(.int 3 225),(.int 4 226)],
 nI K "LEFT_SPOTS" 40,
 L2.zgx K 40 [(.int 7 228),(.int 8 229)],
 nI K "LEFT_AS_HANDS" 41,
 L2.zgx K 41 [(.int 0 231),(.int 1 232),(.int 2 233),(.int 3 234),(.int 4 235),(.int 5 236),(.int 0 237),(.int 1 238)],
 PySem.W.nsIn K mainGlobals "MOST_LINES"== some (some (.int 2 240)),
 PySem.W.nsIn K mainGlobals "MOST_DEEDS"== some (some (.int 8 242)),
 PySem.W.nsIn K mainGlobals "LAST_HAND"== some (some (.int 3 244)),
 PySem.W.nsIn K mainGlobals "LAST_NUMBER"== some (some (.int 99 246)),
 PySem.W.nsIn K mainGlobals "GREATEST_BY"== some (some (.int 1000 248)),
 PySem.W.nsIn K mainGlobals "GREATEST"== some (some (.int 1000000000 250)),
 PySem.W.nsIn K mainGlobals "ASKED_0"== some (some (.int 4 478)),
 PySem.W.nsIn K mainGlobals "ASKED_1"== some (some (.int 5 480)),
 PySem.W.nsIn K mainGlobals "NEW_0"== some (some (.int 6 482)),
 PySem.W.nsIn K mainGlobals "NEW_1"== some (some (.int 7 484)),
 nI K "WHOLES" 218,
 L2.zgx K 218 [(.int 1 486),(.int 2 487),(.int 3 488),(.int 4 489)],
 L2.zgw K 178 zbA "ValueError.__new__",
 PySem.W.excIn K 178 zbA "ValueError.__new__",
 L2.zgw K 191 (.ref 178::zbA) "ValueError.__new__",
 PySem.W.excIn K 191 zbA "ValueError.__new__",
 L2.zgw K 203 (.ref 178::zbA) "ValueError.__new__",
 PySem.W.excIn K 203 zbA "ValueError.__new__",
 L2.zgw K 215 (.ref 178::zbA) "ValueError.__new__",
 PySem.W.excIn K 215 zbA "ValueError.__new__",
 PySem.W.plainGet K 56 Str.empty,
 PySem.W.hasDictIn K 56,
 PySem.W.plainOver K 56,
 PySem.W.findIn K (.ref 56) "__setattr__"== some (some (.builtin "object.__setattr__")),
 PySem.W.makesIn K 56,
 PySem.W.keepIn K (.ref 56),
 PySem.W.findIn K (.ref 56) "needs"== some none,
 PySem.W.findIn K (.ref 56) "leaves"== some none,
 PySem.W.findIn K (.ref 56) "deeds"== some none,
 PySem.W.findIn K (.ref 56) "notes"== some none,
 PySem.W.plainGet K 417 Str.empty,
 PySem.W.hasDictIn K 417,
 PySem.W.plainOver K 417,
 PySem.W.findIn K (.ref 417) "__setattr__"== some (some (.builtin "object.__setattr__")),
 PySem.W.makesIn K 417,
 PySem.W.keepIn K (.ref 417),
 PySem.W.findIn K (.ref 417) "laid"== some none,
 PySem.W.findIn K (.ref 417) "vouched"== some none]
def zBoo (K:Fg):List Bool:=zBo1 K++zBo2 K
def zSee (K:Fg):List (Option L2.Sig):=[L2.zaP K 65,L2.zaP K 70,L2.zaP K 53,L2.zaP K 26,L2.zaP K 31,L2.zaP K 38,L2.zaP K 77,L2.zaP K 82,L2.zaP K 163,L2.zaP K 156,L2.zaP K 116,L2.zaP K 111,L2.zaP K 96,L2.zaP K 149,L2.zaP K 142,L2.zaP K 137,L2.zaP K 130,L2.zaP K 123,L2.zaP K 101,L2.zaP K 106,L2.zaP K 89,L2.zaP K 168,L2.zaP K 282,L2.zaP K 272,L2.zaP K 277,L2.zaP K 289,L2.zaP K 232,L2.zaP K 267,L2.zaP K 246,L2.zaP K 253,L2.zaP K 260,L2.zaP K 239,L2.zaP K 225,L2.zaP K 294,L2.zaP K 306,L2.zaP K 301,L2.zaP K 320,L2.zaP K 407,L2.zaP K 400,L2.zaP K 414,L2.zaP K 428,L2.zaP K 327,L2.zaP K 386,L2.zaP K 334,L2.zaP K 393,L2.zaP K 360,L2.zaP K 367,L2.zaP K 374,L2.zaP K 379,L2.zaP K 442,L2.zaP K 456,L2.zaP K 435,L2.zaP K 468,L2.zaP K 463,L2.zaP K 449,L2.zaP K 480,L2.zaP K 468,L2.zaP K 475,L2.zaP K 485]
def zSig:List (Option L2.Sig):=[gS "copied_lines" "copied_lines" zbC,
 gS "copied_deed" "copied_deed" zbP,
 gS "__init__" "Craft.__init__" za6,
 gS "bare" "bare" zht,
 gS "summed" "summed" zed,
 gS "turned" "turned" zfc,
 gS "copied_craft" "copied_craft" zb8,
 gS "called_by" "called_by" zcv,
 gS "between" "between" zee,
 gS "small_enough" "small_enough" zb9,
 gS "line_right" "line_right" zbN,
 gS "lines_right" "lines_right" zbS,
 gS "oath_right" "oath_right" zcH,
 gS "hand_right" "hand_right" zcK,
 gS "two_hands_right" "two_hands_right" za8,
 gS "call_right" "call_right" zcJ,
 gS "range_right" "range_right" zcm,
 gS "deed_right" "deed_right" zcI,
 gS "deeds_right" "deeds_right" zbQ,
 gS "notes_right" "notes_right" zbR,
 gS "right" "right" zgS,
 gS "due_at" "due_at" zdE,
 gS "eight_with" "eight_with" zcf,
 gS "each_from" "each_from" zcw,
 gS "all_turned" "all_turned" zce,
 gS "constant" "constant" zdF,
 gS "first_duties" "first_duties" zca,
 gS "call_duties" "call_duties" zcr,
 gS "part_duties" "part_duties" zco,
 gS "draw_duties" "draw_duties" zcp,
 gS "turn_duties" "turn_duties" zcq,
 gS "deed_duties" "deed_duties" zcn,
 gS "duties" "duties" zfd,
 gS "shows" "shows" zdp,
 gS "noughts_and_ones" "noughts_and_ones" zaX,
 gS "sought" "sought" zfe,
 gS "__init__" "Hall.__init__" zbT,
 gS "release" "Hall.release" zcb,
 gS "called_at" "Hall.called_at" zbH,
 gS "release_callers" "Hall.release_callers" za4,
 gS "same_oath" "same_oath" zdb,
 gS "lay" "Hall.lay" zdG,
 gS "must_stand" "Hall.must_stand" zbu,
 gS "tear" "Hall.tear" zc9,
 gS "duties_at" "Hall.duties_at" zbG,
 gS "seek" "Hall.seek" zb5,
 gS "held" "Hall.held" zda,
 gS "reach" "Hall.reach" zcL,
 gS "sworn" "Hall.sworn" zcg,
 gS "_law_mix" "_law_mix" zgT,
 gS "_law_deeds" "_law_deeds" zef,
 gS "_law_cell_at" "_law_cell_at" zdc,
 gS "_law_met" "_law_met" zeH,
 gS "_law_reach" "_law_reach" zeg,
 gS "_law_told" "_law_told" zff,
 gS "_law_same" "_law_same" zei,
 gS "_law_met" "_law_met" zeh,
 gS "_law_sought" "_law_sought" zdH,
 gS "law" "law" zeI]
def HK:PySem.W.Hook:=L2.eHook (List.range 486) (λK=>((zBoo K).all id,zSee K)) (true,zSig)
set_option maxRecDepth 1000000 in
set_option maxHeartbeats 0 in
theorem said0:OpenLaw.wellSaid PySem.Challenge.rw_swornhall_k14_reach=true:=by
 rw[PySem.W.Fast.te9446332074065402090]
 kernel_rfl
set_option maxRecDepth 1000000 in
set_option maxHeartbeats 0 in
theorem _root_.PySem.Challenge.hd_swornhall_k14_reach (q:∀ (d:DefRec) (kwd:List (Str × PySem.Expr)),defOf My.Qv PySem.Challenge.rw_swornhall_k14_reach.row.name=some (d,kwd)->WalkO My.Qv [] (XL My.Qv []) (Hook.says My.HK) PySem.Challenge.rw_swornhall_k14_reach.row.toRowW d kwd λf vs=>PySem.call f vs):PySem.Challenge.rw_swornhall_k14_reach.Holds:=by
 refine holds_law My.said0 λsaid=>?_
 have h:=q _ _ rfl
 refine (λ(_:type_of% h)=>?m) ?hc
 rotate_left
 exact h
 o_head My.HK
 case hw=>w_witness2
end
end My
namespace L2
open PySem PySem.Spec PyProof.Rows

abbrev Key:=Sum Int Str
def zhu:Key->Value->Bool
 | .inl k,v=>Value.isInt k v
 | .inr x,v=>Value.isStrOf x v
def keyH (w:World):Key->Int
 | .inl k=>hashInt k
 | .inr x=>hashStr w x
theorem za1:∀ {k:Key}{v:Value},zhu k v=true->(∃ i t,k=Sum.inl i/\v=Value.int i t)\/(∃ x t,k=Sum.inr x/\v=Value.str x t)
 | .inl i,v,h=>by
  obtain⟨t,e⟩:=Value.isInt_shape (k:=i) (v:=v) h
  exact .inl ⟨i,t,rfl,e⟩
 | .inr x,v,h=>by
  obtain⟨t,e⟩:=Value.isStrOf_shape (x:=x) (v:=v) h
  exact .inr ⟨x,t,rfl,e⟩
theorem zj6 (i:Int)(t:Tok):zhu (.inl i) (.int i t)=true:=by simp[zhu,Value.isInt]
theorem zj7 (x:Str)(t:Tok):zhu (.inr x) (.str x t)=true:=by simp[zhu,Value.isStrOf]
theorem znW (a b:Int):decide ((Sum.inl a:Key)=Sum.inl b)=(a == b):=by
 by_cases e:a=b
 ·subst e;simp
 ·have h:¬ (Sum.inl a:Key)=Sum.inl b:=λq=>e (Sum.inl.inj q)
  rw[decide_eq_false h]
  exact (beq_eq_false_iff_ne.mpr e).symm
theorem znX (a b:Str):decide ((Sum.inr a:Key)=Sum.inr b)=decide (a=b):=by
 by_cases e:a=b
 ·subst e;simp
 ·have h:¬ (Sum.inr a:Key)=Sum.inr b:=λq=>e (Sum.inr.inj q)
  rw[decide_eq_false h,decide_eq_false e]
theorem znY (a:Int)(b:Str):decide ((Sum.inl a:Key)=Sum.inr b)=false:=decide_eq_false (λq=>nomatch q)
theorem znZ (a:Str)(b:Int):decide ((Sum.inr a:Key)=Sum.inl b)=false:=decide_eq_false (λq=>nomatch q)
def za2 (prog:Program)(w:World):PySem.KeyKind prog w Key where
 is:=zhu
 hash:=keyH w
 inj:=λv a b ha hb=>by
  rcases za1 ha with ⟨i,t,rfl,rfl⟩ | ⟨x,t,rfl,rfl⟩
  ·rcases za1 hb with ⟨j,u,rfl,e⟩ | ⟨y,u,rfl,e⟩
   ·injection e with e1 _;rw[e1]
   ·exact nomatch e
  ·rcases za1 hb with ⟨j,u,rfl,e⟩ | ⟨y,u,rfl,e⟩
   ·exact nomatch e
   ·injection e with e1 _;rw[e1]
 byValue:=λk v h=>by
  rcases za1 h with ⟨i,t,rfl,rfl⟩ | ⟨x,t,rfl,rfl⟩ <;> rfl
 pyHash:=λhv h=>by
  rcases za1 hv with ⟨i,t,rfl,rfl⟩ | ⟨x,t,rfl,rfl⟩
  ·exact wpAny_pyHash_int h
  ·exact wpAny_pyHash_str h
 eqBool:=λhu hv h=>by
  rcases za1 hu with ⟨i,t,rfl,rfl⟩ | ⟨x,t,rfl,rfl⟩
  ·rcases za1 hv with ⟨j,u,rfl,rfl⟩ | ⟨y,u,rfl,rfl⟩
   ·rw[znW] at h;exact wpAny_eqBool_int h
   ·rw[znY] at h;exact SeqAt.EqAt.int_str i t y u _ _ _ _ h
  ·rcases za1 hv with ⟨j,u,rfl,rfl⟩ | ⟨y,u,rfl,rfl⟩
   ·rw[znZ] at h;exact SeqAt.EqAt.str_int x t j u _ _ _ _ h
   ·rw[znX] at h;exact wpAny_eqBool_str h
 «strs»:=λk x t v h=>by
  rcases za1 h with ⟨i,u,rfl,e⟩ | ⟨y,u,rfl,e⟩
  ·exact nomatch e
  ·injection e with e1 _
   subst e1
   cases v <;> rfl
theorem zin (prog:Program)(w:World)(i:Int)(t:Tok):(za2 prog w).is (.inl i) (.int i t)=true:=zj6 i t
theorem zio (prog:Program)(w:World)(x:Str)(t:Tok):(za2 prog w).is (.inr x) (.str x t)=true:=zj7 x t
end L2

namespace L2
open PySem PySem.Spec PyProof.Rows

inductive V where
 | non | bl (b:Bool) | int (i:Int) | str (x:Str) | byt (b:Array UInt8) | flt (b:UInt64) | ref (a:Addr) | ty (n:String)
 deriving DecidableEq
def RelV:V->Value->Prop
 | .non,u=>u=Value.none
 | .bl b,u=>u=Value.bool b
 | .int i,u=>∃ t,u=Value.int i t
 | .str x,u=>∃ t,u=Value.str x t
 | .byt b,u=>∃ t,u=Value.bytes b t
 | .flt b,u=>∃ t,u=Value.float b t
 | .ref a,u=>u=Value.ref a
 | .ty n,u=>u=Value.type n
abbrev Vals:List V->List Value->Prop:=Paired RelV
theorem Vals.length {xs:List V}{us:List Value}(r:Vals xs us):xs.length=us.length:=Paired.length r
theorem Vals.get:∀ {xs:List V}{us:List Value}{i:Nat}{x:V},Vals xs us->xs[i]?=some x->∃ u,us[i]?=some u/\RelV x u
 | _,_,_,_,.nil,e=>by simp at e
 | _,_,0,_,.cons r _,e=>by simp at e;subst e;exact⟨_,rfl,r⟩
 | _,_,i+1,x,.cons _ t,e=>by
  obtain⟨u,h1,h2⟩:=Vals.get (i:=i) (x:=x) t (by simpa using e)
  exact⟨u,by simpa using h1,h2⟩
theorem Vals.set {x:V}{u:Value}(r:RelV x u):∀ {xs:List V}{us:List Value}(i:Nat),Vals xs us->Vals (xs.set i x) (us.set i u)
 | _,_,_,.nil=>.nil
 | _,_,0,.cons _ t=>.cons r t
 | _,_,i+1,.cons q t=>.cons q (Vals.set r i t)
theorem Vals.append:∀ {xs ys:List V}{us ws:List Value},Vals xs us->Vals ys ws->Vals (xs++ys) (us++ws)
 | _,_,_,_,.nil,s=>s
 | _,_,_,_,.cons r t,s=>.cons r (Vals.append t s)
theorem Vals.take:∀ {xs:List V}{us:List Value}(n:Nat),Vals xs us->Vals (xs.take n) (us.take n)
 | _,_,0,_=>.nil
 | _,_,_+1,.nil=>.nil
 | _,_,n+1,.cons r t=>.cons r (Vals.take n t)
theorem Vals.drop:∀ {xs:List V}{us:List Value}(n:Nat),Vals xs us->Vals (xs.drop n) (us.drop n)
 | _,_,0,r=>r
 | _,_,_+1,.nil=>.nil
 | _,_,n+1,.cons _ t=>Vals.drop n t
theorem Vals.none_of:∀ {xs:List V}{us:List Value}{i:Nat},Vals xs us->xs[i]?=none->us[i]?=none:=λ{xs us i} r e=>by
 have h1:=r.length
 have h2:xs.length<=i:=List.getElem?_eq_none_iff.mp e
 exact List.getElem?_eq_none_iff.mpr (by omega)
def RelO:Option V->Option Value->Prop
 | some v,some u=>RelV v u
 | none,none=>True
 | _,_=>False
def KV {κ:Type} : List (κ × V)->List (κ × Value)->Prop:=Paired λ(p:κ × V) (q:κ × Value)=>p.1=q.1/\RelV p.2 q.2
def kV:Key->V
 | .inl i=>.int i
 | .inr x=>.str x
inductive HO where
 /-- a list -/
 | lst (xs:List V)
 /-- a tuple (never changes) -/
 | tup (xs:List V)
 /-- a dict whose keys are ints and texts;one whose keys are tuples of ints and texts (the empty one is both) -/
 | dK (kvs:List (Key × V)) | dT (kvs:List (List Key × V))
 /-- a set of ints: its members,its size -/
 | set (S:Int->Bool) (n:Nat)
 /-- an instance of the class at C,its dict at dx,its attributes -/
 | ins (C dx:Addr) (fs:List (Str × V))
 /-- the dict of the instance at x -/
 | own (x:Addr)
 /-- the dict of an exception -/
 | xd (fs:List (Str × V))
 /-- a bound method,f of x -/
 | met (f x:Addr)
 /-- a range object lo,lo+1,.. below hi -/
 | rng (lo hi:Int)
 /-- a thing that is known to the object (the script;a dict while a loop walks it): read,never written while it is so -/
 | frz (o:Obj) (u:HO)
 /-- a code object's table -/
 | tbl (ps:Array Value)
 /-- any other thing,by what is true of its one object (a def of one's own: SetO a S n:=HO.ext λh=>..) -/
 | ext (φ:Heap->Prop)
abbrev Hp:=Addr->Option HO
def upd (H:Hp)(a:Addr)(o:HO):Hp:=λb=>if b=a then some o else H b
theorem zac {H:Hp}{a:Addr}{o:HO} : upd H a o a=some o:=by unfold upd;rw[if_pos rfl]
theorem zam {H:Hp}{a b:Addr}{o:HO}(h:b≠a):upd H a o b=H b:=by unfold upd;rw[if_neg h]
theorem zjt {H:Hp}{a b:Addr}{o u:HO}(h:H a=some o)(h':H b=some u)(d:o≠u):a≠b:=by
 intro e;subst e;rw[h] at h';exact d (Option.some.inj h')
theorem zau {H:Hp}{a b:Addr}{o:HO}(h:H a=some o)(h':H b=none):a≠b:=by
 intro e;subst e;rw[h] at h';cases h'
section
variable (P:Program)(w:World)
def zbv (H:Hp)(h:Heap)(a:Addr):HO->Prop
 | .lst xs=>xs.length<=sizeLine/\∃ (its:List Value) (n:Nat),Vals xs its/\h.get? a=some {cls:=.type "list",data:=.seq its.toArray n}
 | .tup xs=>xs.length<=sizeLine/\∃ its:List Value,Vals xs its/\IsTup h a its.toArray
 | .dK kvs=>kvs.length<=sizeLine/\(a == sysModules)=false/\∃ vs,KV kvs vs/\h.DictOf (za2 P w) a vs
 | .dT kvs=>kvs.length<=sizeLine/\(a == sysModules)=false/\∃ xs:List (List Key × Addr × Value),
   Paired (λ(p:List Key × V) (q:List Key × Addr × Value)=>p.1=q.1/\H q.2.1=some (.tup (p.1.map kV))/\RelV p.2 q.2.2) kvs xs/\
   ∃ o es ep,h.get? a=some o/\o.ExactDict/\o.data=.dict es ep/\es.toList=xs.map (entryOfKey (tupleKind (za2 P w)))/\(xs.map (·.1)).Nodup
 | .set S n=>h.SetOf (intKind P w) a S n
 | .ins C dx fs=>H dx=some (.own a)/\fs.length<=1000/\dx≠a/\h.get? a=some (PySem.W.instObj C dx)/\
   ∃ mA,h.Ns1 dx mA/\(∀ f,RelO (fs.lookup f) (mA f))/\PySem.Within mA (fs.map (·.1))
 | .own _=>∃ o,h.get? a=some o
 | .xd fs=>∃ mA,h.Ns1 a mA/\∀ f,RelO (fs.lookup f) (mA f)
 | .rng lo hi=>∃ t u v,h.get? a=some {cls:=.type "range",data:=.fields #[.int lo t,.int hi u,.int 1 v]}
 | .frz o u=>h.get? a=some o/\zbv H h a u
 | .tbl ps=>h.get? a=some {cls:=.none,data:=.fields ps}
 | .met f x=>h.get? a=some (PySem.W.methodObj (.ref f) (.ref x))
 | .ext φ=>φ h/\(∃ o,h.get? a=some o)/\∀ h1 h2:Heap,φ h1->(∀ o,h1.get? a=some o->h2.get? a=some o)->φ h2
def HOk (H:Hp)(h:Heap):Prop:=∀ a o,H a=some o->zbv P w H h a o
end

section
variable {P:Program}{w:World}{H H':Hp}{h h':Heap}{a:Addr}{o:HO}
theorem zbv.lt (x:zbv P w H h a o):a<h.objs.size:=by
 cases o with
 | lst xs=>obtain⟨_,_,_,_,e⟩:=x;exact Heap.lt_size e
 | tup xs=>obtain⟨_,_,_,p⟩:=x;exact p.lt
 | dK kvs=>obtain⟨_,_,_,_,o,_,_,e,_⟩:=x;exact Heap.lt_size e
 | dT kvs=>obtain⟨_,_,_,_,o,_,_,e,_⟩:=x;exact Heap.lt_size e
 | set S n=>obtain⟨o,_,_,_,e,_⟩:=x;exact Heap.lt_size e
 | ins C dx fs=>obtain⟨_,_,_,e,_⟩:=x;exact Heap.lt_size e
 | own y=>obtain⟨_,e⟩:=x;exact Heap.lt_size e
 | xd fs=>obtain⟨_,⟨_,_,_,e,_⟩,_⟩:=x;exact Heap.lt_size e
 | rng lo hi=>obtain⟨_,_,_,e⟩:=x;exact Heap.lt_size e
 | frz ob u=>obtain⟨e,_⟩:=x;exact Heap.lt_size e
 | tbl ps=>exact Heap.lt_size (show h.get? a=some _ from x)
 | met f y=>exact Heap.lt_size (show h.get? a=some _ from x)
 | ext φ=>obtain⟨_,⟨_,e⟩,_⟩:=x;exact Heap.lt_size e
theorem Paired.mapP {α β:Type}{F G:α->β->Prop} : ∀ {l₁:List α}{l₂:List β},Paired F l₁ l₂->(∀ a b,F a b->G a b)->Paired G l₁ l₂
 | _,_,.nil,_=>.nil
 | _,_,.cons r t,f=>.cons (f _ _ r) (Paired.mapP t f)
theorem zbv.stay (x:zbv P w H h a o)(k:∀ b u,(b=a\/H b=some (.own a))->h.get? b=some u->h'.get? b=some u)
  (ho:∀ b,H b=some (.own a)->H' b=some (.own a)) (ht:∀ b xs,H b=some (.tup xs)->H' b=some (.tup xs)):zbv P w H' h' a o:=by
 induction o with
 | lst xs=>obtain⟨z,its,n,r,e⟩:=x;exact⟨z,its,n,r,k _ _ (.inl rfl) e⟩
 | tup xs=>obtain⟨z,its,r,ob,e,c⟩:=x;exact⟨z,its,r,ob,k _ _ (.inl rfl) e,c⟩
 | dK kvs=>obtain⟨z,y,vs,r,ob,es,ep,e,c⟩:=x;exact⟨z,y,vs,r,ob,es,ep,k _ _ (.inl rfl) e,c⟩
 | dT kvs=>
  obtain⟨z,y,xs,r,ob,es,ep,e,c⟩:=x
  exact⟨z,y,xs,Paired.mapP r λp q z=>⟨z.1,ht _ _ z.2.1,z.2.2⟩,ob,es,ep,k _ _ (.inl rfl) e,c⟩
 | set S n=>obtain⟨ob,es,ep,t,e,c⟩:=x;exact⟨ob,es,ep,t,k _ _ (.inl rfl) e,c⟩
 | ins C dx fs=>
  obtain⟨d,z,ne,e,mA,⟨od,es,ep,e2,c⟩,r⟩:=x
  exact⟨ho _ d,z,ne,k _ _ (.inl rfl) e,mA,⟨od,es,ep,k _ _ (.inr d) e2,c⟩,r⟩
 | own y=>obtain⟨ob,e⟩:=x;exact⟨ob,k _ _ (.inl rfl) e⟩
 | xd fs=>obtain⟨mA,⟨od,es,ep,e,c⟩,r⟩:=x;exact⟨mA,⟨od,es,ep,k _ _ (.inl rfl) e,c⟩,r⟩
 | rng lo hi=>obtain⟨t,u,v,e⟩:=x;exact⟨t,u,v,k _ _ (.inl rfl) e⟩
 | frz ob u ih=>obtain⟨e,q⟩:=x;exact⟨k _ _ (.inl rfl) e,ih q⟩
 | tbl ps=>
  have e:h.get? a=some {cls:=.none,data:=.fields ps}:=x
  show h'.get? a=some {cls:=.none,data:=.fields ps}
  exact k a _ (.inl rfl) e
 | met f y=>
  have e:h.get? a=some (PySem.W.methodObj (.ref f) (.ref y)):=x
  show h'.get? a=some (PySem.W.methodObj (.ref f) (.ref y))
  exact k a _ (.inl rfl) e
 | ext φ=>obtain⟨p,⟨o,e⟩,st⟩:=x;exact⟨st _ _ p λo q=>k _ _ (.inl rfl) q,⟨o,k _ _ (.inl rfl) e⟩,st⟩
theorem HOk.lt (x:HOk P w H h)(e:H a=some o):a<h.objs.size:=(x a o e).lt
theorem HOk.fresh (x:HOk P w H h)(e:h.objs.size<=a):H a=none:=by
 cases q:H a with
 | none=>rfl
 | some u=>exact absurd (Nat.lt_of_lt_of_le (x.lt q) e) (Nat.lt_irrefl _)
theorem HOk.kept (x:HOk P w H h)(k:∀ b u,h.get? b=some u->h'.get? b=some u):HOk P w H h':=λa o e=>
 (x a o e).stay (λb u _ q=>k b u q) (λ_ q=>q) λ_ _ q=>q
theorem HOk.laid (x:HOk P w H h)(k:∀ b u,h.get? b=some u->h'.get? b=some u)(hp:h.objs.size<=a)(new:zbv P w (upd H a o) h' a o):HOk P w (upd H a o) h':=λb u e=>by
 have hn:=x.fresh hp
 by_cases hb:b=a
 ·subst hb;rw[zac] at e;cases e;exact new
 ·rw[zam hb] at e
  exact (x b u e).stay (λc v _ q=>k c v q) (λc q=>by rw[zam (zau q hn)];exact q) λc xs q=>by rw[zam (zau q hn)];exact q
end

def Rd (H:Hp)(a:Addr)(u:HO):Prop:=H a=some u\/∃ o,H a=some (.frz o u)
theorem Rd.ok {P:Program}{w:World}{H:Hp}{h:Heap}{a:Addr}{u:HO}(r:Rd H a u)(x:HOk P w H h):zbv P w H h a u:=by
 rcases r with r | ⟨o,r⟩
 ·exact x a u r
 ·obtain⟨_,q⟩:=x a _ r
  exact q
def Mut:Option HO->Prop
 | some (.lst _)=>True
 | some (.dK _)=>True
 | some (.dT _)=>True
 | some (.set _ _)=>True
 | some (.ins _ _ _)=>True
 | some (.ext _)=>True
 | _=>False
section
variable {P:Program}{w:World}{H:Hp}{h h':Heap}{x e:Addr}{o':HO}
theorem HOk.write (ok:HOk P w H h)(mu:Mut (H x))(he:e=x\/H e=some (.own x))(k:∀ b u,b≠e->h.get? b=some u->h'.get? b=some u)(heo:∃ u,h'.get? e=some u)
  (new:zbv P w (upd H x o') h' x o'):HOk P w (upd H x o') h':=λb u q=>by
 have nown:∀ c y,H c=some (.own y)->c≠x:=λc y r z=>by subst z;rw[r] at mu;exact mu
 have ntup:∀ c xs,H c=some (.tup xs)->c≠x:=λc xs r z=>by subst z;rw[r] at mu;exact mu
 by_cases hb:b=x
 ·subst hb;rw[zac] at q;cases q;exact new
 ·rw[zam hb] at q
  by_cases hbe:b=e
  ·have q':H b=some (.own x):=by
    rcases he with z | z
    ·exact absurd (hbe.trans z) hb
    ·rw[hbe];exact z
   rw[q] at q';cases q'
   obtain⟨v,hv⟩:=heo
   exact⟨v,by rw[hbe];exact hv⟩
  ·refine (ok b u q).stay (λc v hc r=>k c v ?_ r) (λc r=>by rw[zam (nown c b r)];exact r) λc xs r=>by rw[zam (ntup c xs r)];exact r
   rcases hc with rfl | hc
   ·exact hbe
   ·rintro rfl
    rcases he with z | z
    ·exact nown c b hc z
    ·rw[hc] at z;cases z;exact hb rfl
end

structure Un (fs ex:List Addr)(H H':Hp)(h h':Heap):Prop where
 keep:∀ b o,h.get? b=some o->H b=none->b∉fs->b∉ex->h'.get? b=some o
 slot:∀ b o,h.get? b=some o->H b=none->b∈fs->b∉ex->∃ sl,h'.get? b=some {o with slots:=sl}
 free:∀ b o,h.get? b=some o->H b=none->b∉ex->H' b=none
 there:∀ b o,h.get? b=some o->b∉ex->∃ o',h'.get? b=some o'
 tups:∀ b xs,H b=some (.tup xs)->H' b=some (.tup xs)
 frzs:∀ b o u,H b=some (.frz o u)->H' b=some (.frz o u)
 tbls:∀ b ps,H b=some (.tbl ps)->∃ more,H' b=some (.tbl (ps++more))
section
variable {fs fs' ex ex':List Addr}{H H1 H2:Hp}{h h1 h2 h':Heap}{a x e:Addr}{o:HO}
theorem Un.any (u:Un fs ex H H1 h h1){b:Addr}{ob:Obj}(q:h.get? b=some ob)(n:H b=none)(hx:b∉ex):∃ sl,h1.get? b=some {ob with slots:=sl}:=by
 by_cases hb:b∈fs
 ·exact u.slot b ob q n hb hx
 ·exact⟨ob.slots,u.keep b ob q n hb hx⟩
theorem Un.kept (k:∀ b u,h.get? b=some u->h'.get? b=some u):Un fs ex H H h h':=
 ⟨λb ob q _ _ _=>k b ob q,λb ob q _ _ _=>⟨ob.slots,k b ob q⟩,λ_ _ _ n _=>n,λb ob q _=>⟨ob,k b ob q⟩,λ_ _ q=>q,λ_ _ _ q=>q,λ_ ps q=>⟨#[],by rw[q];simp⟩⟩
theorem Un.refl:Un fs ex H H h h:=Un.kept λ_ _ q=>q
theorem Un.laid (k:∀ b u,h.get? b=some u->h'.get? b=some u)(hp:h.objs.size<=a)(hn:H a=none):Un fs ex H (upd H a o) h h' where
 keep:=λb u q _ _ _=>k b u q
 slot:=λb u q _ _ _=>⟨u.slots,k b u q⟩
 free:=λb u q n _=>by rw[zam (Nat.ne_of_lt (Nat.lt_of_lt_of_le (Heap.lt_size q) hp))];exact n
 there:=λb u q _=>⟨u,k b u q⟩
 tups:=λb xs q=>by rw[zam (zau q hn)];exact q
 frzs:=λb u xs q=>by rw[zam (zau q hn)];exact q
 tbls:=λb ps q=>⟨#[],by rw[zam (zau q hn),q];simp⟩
theorem Un.write (mu:Mut (H x))(he:e=x\/H e=some (.own x))(k:∀ b u,b≠e->h.get? b=some u->h'.get? b=some u)(heo:∃ u,h'.get? e=some u):Un fs ex H (upd H x o) h h':=by
 have hx:∀ b,H b=none->b≠x:=λb n z=>by subst z;rw[n] at mu;exact mu
 have hb:∀ b,H b=none->b≠e:=λb n z=>by
  subst z
  rcases he with r | r
  ·exact hx b n r
  ·rw[n] at r;cases r
 have hm:∀ b u,H b=some u->¬ Mut (some u)->b≠x:=λb u q nm z=>by subst z;rw[q] at mu;exact nm mu
 refine⟨λb u q n _ _=>k b u (hb b n) q,λb u q n _ _=>⟨u.slots,k b u (hb b n) q⟩,λb u q n _=>by rw[zam (hx b n)];exact n,λb u q _=>?_,
  λb xs q=>by rw[zam (hm b _ q λz=>z)];exact q,λb u xs q=>by rw[zam (hm b _ q λz=>z)];exact q,λb ps q=>⟨#[],by rw[zam (hm b _ q λz=>z),q];simp⟩⟩
 by_cases hbe:b=e
 ·subst hbe;exact heo
 ·exact⟨u,k b u hbe q⟩
end

def trk (h:Heap)(H:Hp):List Addr:=(List.range h.objs.size).filter λa=>(H a).isSome
def hidT (h:Heap)(H:Hp):Heap:=PySem.W.hideAll h (trk h H)
theorem zj8 (h:Heap)(H:Hp):(hidT h H).objs.size=h.objs.size:=PySem.W.hideAll_size _ _
theorem zlo {h:Heap}{H:Hp}{b:Addr}{o:Obj}(e:h.get? b=some o)(n:H b=none):(hidT h H).get? b=some o:=
 PySem.W.hideAll_get _ e λhm=>by
  have q:(H b).isSome=true:=(List.mem_filter.mp hm).2
  rw[n] at q;simp at q
theorem zmS {h:Heap}{H:Hp}{b:Addr}{o:Obj}(e:(hidT h H).get? b=some o):h.get? b=some o/\H b=none:=by
 have e':h.get? b=some o:=PySem.W.of_hideAll (trk h H) e
 refine⟨e',?_⟩
 cases q:H b with
 | none=>rfl
 | some x=>
  have hm:b∈trk h H:=List.mem_filter.mpr ⟨List.mem_range.mpr (Heap.lt_size e'),by simp[q]⟩
  have z:(hidT h H).get? b=none:=PySem.W.hideAll_none (trk h H) hm
  rw[z] at e;cases e
end L2

namespace L2
open PySem PySem.Spec PyProof.Rows

structure Mod (K:Fg)(mg:Str->Option Value)(base:Heap):Prop where
 kin:K.In base
 glob:base.Ns mainGlobals mg
 blt:∃ mb,base.Ns builtinsNs mb/\∀ x:Str,x≠ "__name__" ->mb x=bootBuiltins x
 nolimit:base.NoLimit
structure Cx where
 prog:Program
 w:World
 K:Fg
 mg:Str->Option Value
 base:Heap
 A:Around
 N:List Str
 s₀:Shared
 H₀:Hp
 env:Env
 outer:List Env
 stack:List Env
 ex:List Addr
 fn:Str->Bool
 calm:Bool
 pn:List (Addr × Obj)
 xe:Value->Shared->Prop
def frs (l:List Env):List Addr:=l.filterMap (·.frame)
abbrev Cx.fs (X:Cx):List Addr:=frs X.outer
def Vis (sc:Scope)(x:Str):Prop:=sc.names.lookup x=some .local\/sc.names.lookup x=some .cell\/sc.names.lookup x=some .free
def Loc (sc:Scope)(x:Str):Prop:=sc.names.lookup x=some .local\/sc.names.lookup x=some .cell
def Look (env:Env)(h:Heap)(m:Str->Option Value)(x:Str)(u:Value):Prop:=
 (env.kindOf x=some .local/\m x=some u)\/((env.kindOf x=some .cell\/env.kindOf x=some .free)/\∃ c,env.cells.lookup x=some c/\h.IsCell c (some u))
structure Cx.Ok (X:Cx):Prop where
 mod:Mod X.K X.mg X.base
 kind:X.env.scope.kind=.function
 glob:X.env.globals=mainGlobals
 blt:X.env.builtins=builtinsNs
 above:X.s₀.heap.objs.size<=X.env.locals
 inj:∀ x y c,X.env.cells.lookup x=some c->X.env.cells.lookup y=some c->x=y
 has:∀ x,(X.env.kindOf x=some .cell\/X.env.kindOf x=some .free)->∃ c,X.env.cells.lookup x=some c
 cab:∀ x c,X.fn x=true->X.env.cells.lookup x=some c->X.s₀.heap.objs.size<=c
 hd:X.calm=true->X.A.handled=none
 frames:X.A.frames=some X.stack
 stk:X.stack=X.outer\/(X.stack=X.env::X.outer/\X.env.frame=some X.env.locals)
 exf:∀ b∈X.ex,b≠X.env.locals/\∀ x c,X.env.cells.lookup x=some c->c≠b
 bs:∀ b o,X.base.get? b=some o->X.s₀.heap.get? b=some o/\X.H₀ b=none
 bsz:X.base.objs.size<=X.s₀.heap.objs.size
 noex:∀ b o,X.base.get? b=some o->b∉X.ex
 exfs:∀ b∈X.ex,b∉X.fs
 funs:X.s₀.heap.FunFrames X.base X.outer
 frf:∀ b∈X.fs,X.H₀ b=none
structure Inv (X:Cx)(pins:List (Addr × Obj))(σ:List (Option V))(H:Hp)(s:Shared):Prop where
 ok:X.Ok
 os:s.os=X.s₀.os
 bare:AllBare s.gens
 base:Un X.fs X.ex X.H₀ H X.s₀.heap s.heap
 loc:∃ m,s.heap.Ns X.env.locals m/\∀ (i:Nat) (x:Str) (v:V),X.N[i]?=some x->σ[i]?=some (some v)->Vis X.env.scope x->∃ u,RelV v u/\Look X.env s.heap m x u
 cell:∀ x c,X.env.cells.lookup x=some c->∃ v,s.heap.IsCell c v
 free:H X.env.locals=none
 freeC:∀ x c,X.env.cells.lookup x=some c->H c=none
 pin:∀ p∈X.pn++pins,s.heap.get? p.1=some p.2/\H p.1=none/\p.1≠X.env.locals/\p.1∉X.fs/\∀ v,p.2.data≠.cell v
 hok:HOk X.prog X.w H s.heap
 len:σ.length=X.N.length
section
variable {X:Cx}{pins:List (Addr × Obj)}{σ:List (Option V)}{H H':Hp}{s:Shared}{h':Heap}

theorem Cx.Ok.nofr (ok:X.Ok){b:Addr}{o:Obj}(e:X.base.get? b=some o):b∉X.fs:=λhb=>by
 have:=(ok.funs.mem hb).1
 rw[e] at this;cases this
theorem Inv.bs (I:Inv X pins σ H s):∀ b o,X.base.get? b=some o->s.heap.get? b=some o/\H b=none:=λb o e=>
 ⟨I.base.keep b o (I.ok.bs b o e).1 (I.ok.bs b o e).2 (I.ok.nofr e) (I.ok.noex b o e),I.base.free b o (I.ok.bs b o e).1 (I.ok.bs b o e).2 (I.ok.noex b o e)⟩
theorem Inv.bk (I:Inv X pins σ H s):∀ b o,X.base.get? b=some o->s.heap.get? b=some o:=λb o e=>(I.bs b o e).1
theorem Inv.mod (I:Inv X pins σ H s):Mod X.K X.mg X.base:=I.ok.mod
theorem Inv.kIn (I:Inv X pins σ H s):X.K.In s.heap:=I.ok.mod.kin.keeps I.bk
theorem Inv.lt (I:Inv X pins σ H s):X.env.locals<s.heap.objs.size:=let ⟨_,hn,_⟩:=I.loc;hn.lt
theorem Inv.sz (I:Inv X pins σ H s):X.s₀.heap.objs.size<=s.heap.objs.size:=Nat.le_trans I.ok.above (Nat.le_of_lt I.lt)
theorem Inv.nofs (I:Inv X pins σ H s){a:Addr}(h:s.heap.objs.size<=a):a∉X.fs:=λhb=>by
 obtain⟨_,o,ho,_⟩:=I.ok.funs.mem hb
 exact absurd (Nat.lt_of_lt_of_le (Heap.lt_size ho) (Nat.le_trans I.sz h)) (Nat.lt_irrefl _)
theorem Inv.cne (I:Inv X pins σ H s):∀ x c,X.env.cells.lookup x=some c->c≠X.env.locals:=λx c e z=>by
 obtain⟨v,o,ho,hd⟩:=I.cell x c e
 obtain⟨m,⟨o',es,ep,ho',hd',_⟩,_⟩:=I.loc
 rw[z,ho'] at ho;cases ho;rw[hd'] at hd;cases hd
theorem Inv.funs (I:Inv X pins σ H s):s.heap.FunFrames X.base X.outer:=by
 have all:∀ (l:List Env),(∀ b∈frs l,b∈X.fs)->X.s₀.heap.FunFrames X.base l->s.heap.FunFrames X.base l:=by
  intro l
  induction l with
  | nil=>intro _ _;trivial
  | cons env r ih=>
   intro hs hl
   obtain⟨hk,⟨L,o,hf,hn,ho,hd⟩,hr⟩:=hl
   have hL:L∈X.fs:=hs L (by unfold frs;rw[List.filterMap_cons,hf];exact List.mem_cons_self)
   obtain⟨sl,e⟩:=I.base.slot L o ho (I.ok.frf L hL) hL λz=>I.ok.exfs L z hL
   exact⟨hk,⟨L,_,hf,hn,e,hd⟩,ih (λb hb=>hs b (by unfold frs;rw[List.filterMap_cons,hf];exact List.mem_cons_of_mem _ hb)) hr⟩
 exact all X.outer (λ_ hb=>hb) I.ok.funs
theorem Inv.stack (I:Inv X pins σ H s):s.heap.FunFrames X.base X.stack:=by
 rcases I.ok.stk with e | ⟨e,hf⟩
 ·rw[e];exact I.funs
 ·rw[e]
  obtain⟨m,hn,_⟩:=I.loc
  refine .cons (by rw[I.ok.kind];decide) hf hn ?_ I.funs
  exact Heap.get?_none_of_le (Nat.le_trans I.ok.bsz I.ok.above)
theorem Inv.stkSub (I:Inv X pins σ H s):∀ b∈frs X.stack,b∈X.env.locals::X.fs:=λb hb=>by
 rcases I.ok.stk with e | ⟨e,hf⟩
 ·rw[e] at hb;exact List.mem_cons_of_mem _ hb
 ·rw[e] at hb
  unfold frs at hb
  rw[List.filterMap_cons,hf] at hb
  exact hb
theorem Inv.stkFree (I:Inv X pins σ H s):∀ b∈frs X.stack,H b=none:=λb hb=>by
 rcases List.mem_cons.mp (I.stkSub b hb) with e | hb
 ·rw[e];exact I.free
 ·obtain⟨_,o,ho,_⟩:=I.ok.funs.mem hb
  exact I.base.free b o ho (I.ok.frf b hb) λz=>I.ok.exfs b z hb
theorem Inv.step {g':Array GenState}{t':Nat}{d':Drawn}{ch:List Addr}(I:Inv X pins σ H s)
  (hch:∀ b∈ch,(b∈X.ex\/X.s₀.heap.objs.size<=b)/\b≠X.env.locals/\(∀ x c,X.env.cells.lookup x=some c->c≠b)/\∀ p∈X.pn++pins,p.1≠b)
  (keep:∀ b o,b≠X.env.locals->b∉X.fs->b∉ch->s.heap.get? b=some o->H b=none->h'.get? b=some o)
  (slot:∀ b o,b≠X.env.locals->b∈X.fs->b∉ch->s.heap.get? b=some o->H b=none->∃ sl,h'.get? b=some {o with slots:=sl}) (free:∀ b o,b∉ch->s.heap.get? b=some o->H b=none->H' b=none)
  (there:∀ b o,b∉ch->s.heap.get? b=some o->∃ o',h'.get? b=some o')
  (tups:∀ b xs,H b=some (.tup xs)->H' b=some (.tup xs)) (frzs:∀ b o u,H b=some (.frz o u)->H' b=some (.frz o u)) (tbls:∀ b ps,H b=some (.tbl ps)->∃ more,H' b=some (.tbl (ps++more)))
  (ns:∀ m,s.heap.Ns X.env.locals m->h'.Ns X.env.locals m) (hok:HOk X.prog X.w H' h') (hg:AllBare g') :
  Inv X pins σ H' {s with heap:=h',gens:=g',drawn:=d',toks:=t'}:=by
 have neL:∀ b o,X.s₀.heap.get? b=some o->b≠X.env.locals:=λb o e=>Nat.ne_of_lt (Nat.lt_of_lt_of_le (Heap.lt_size e) I.ok.above)
 have neC:∀ b o,X.s₀.heap.get? b=some o->b∉X.ex->b∉ch:=λb o e hx hb=>by
  rcases (hch b hb).1 with z | z
  ·exact hx z
  ·exact absurd (Nat.lt_of_lt_of_le (Heap.lt_size e) z) (Nat.lt_irrefl _)
 have cellK:∀ x c,X.env.cells.lookup x=some c->∀ v,s.heap.IsCell c v->h'.IsCell c v:=λx c e v ⟨o,ho,hd⟩=>by
  have nch:c∉ch:=λz=>(hch c z).2.2.1 x c e rfl
  by_cases hc:c∈X.fs
  ·obtain⟨sl,q⟩:=slot c o (I.cne x c e) hc nch ho (I.freeC x c e)
   exact⟨_,q,hd⟩
  ·exact⟨o,keep c o (I.cne x c e) hc nch ho (I.freeC x c e),hd⟩
 refine⟨I.ok,I.os,hg,⟨λb o e n hb hx=>?_,λb o e n hb hx=>?_,λb o e n hx=>?_,λb o e hx=>?_,λb xs e=>tups b xs (I.base.tups b xs e),λb o xs e=>frzs b o xs (I.base.frzs b o xs e),λb ps e=>?_⟩,?_,λx c e=>?_,?_,λx c e=>?_,λp hp=>?_,hok,I.len⟩
 ·exact keep b o (neL b o e) hb (neC b o e hx) (I.base.keep b o e n hb hx) (I.base.free b o e n hx)
 ·obtain⟨sl,e1⟩:=I.base.slot b o e n hb hx
  obtain⟨sl',e2⟩:=slot b _ (neL b o e) hb (neC b o e hx) e1 (I.base.free b o e n hx)
  exact⟨sl',e2⟩
 ·obtain⟨o',e1⟩:=I.base.there b o e hx
  exact free b o' (neC b o e hx) e1 (I.base.free b o e n hx)
 ·obtain⟨o',e1⟩:=I.base.there b o e hx
  exact there b o' (neC b o e hx) e1
 ·obtain⟨m1,e1⟩:=I.base.tbls b ps e
  obtain⟨m2,e2⟩:=tbls b _ e1
  exact⟨m1++m2,by rw[e2,Array.append_assoc]⟩
 ·obtain⟨m,hn,hl⟩:=I.loc
  refine⟨m,ns m hn,λi x v e1 e2 e3=>?_⟩
  obtain⟨u,r,l⟩:=hl i x v e1 e2 e3
  refine⟨u,r,?_⟩
  rcases l with l | ⟨k,c,e,z⟩
  ·exact .inl l
  ·exact .inr ⟨k,c,e,cellK x c e _ z⟩
 ·obtain⟨v,z⟩:=I.cell x c e
  exact⟨v,cellK x c e v z⟩
 ·obtain⟨m,⟨o,_,_,ho,_⟩,_⟩:=I.loc
  exact free _ o (λz=>(hch _ z).2.1 rfl) ho I.free
 ·obtain⟨v,o,ho,hd⟩:=I.cell x c e
  exact free c o (λz=>(hch c z).2.2.1 x c e rfl) ho (I.freeC x c e)
 ·obtain⟨e,n,ne,nf,d⟩:=I.pin p hp
  have nch:p.1∉ch:=λz=>(hch p.1 z).2.2.2 p hp rfl
  exact⟨keep p.1 p.2 ne nf nch e n,free p.1 p.2 nch e n,ne,nf,d⟩
theorem Inv.un {t':Nat}(I:Inv X pins σ H s)(u:Un X.fs [] H H' s.heap h')(hok:HOk X.prog X.w H' h'):Inv X pins σ H' {s with heap:=h',toks:=t'}:=by
 obtain⟨m,⟨o,es,ep,ho,r⟩,_⟩:=id I.loc
 obtain⟨sl,hL⟩:=u.any ho I.free (by simp)
 exact I.step (g':=s.gens) (d':=s.drawn) (ch:=[]) (λ_ z=>nomatch z) (λb o _ hb _ e n=>u.keep b o e n hb (by simp)) (λb o _ hb _ e n=>u.slot b o e n hb (by simp)) (λb o _ e n=>u.free b o e n (by simp)) (λb o _ e=>u.there b o e (by simp)) u.tups u.frzs u.tbls (λm' hm=>by
  obtain⟨o',es',ep',ho',r'⟩:=hm
  rw[ho] at ho';cases ho'
  exact⟨_,es',ep',hL,r'⟩) hok I.bare
theorem Inv.call {g':Array GenState}{t':Nat}{d':Drawn}{ch:List Addr}(I:Inv X pins σ H s)(u:Un (frs X.stack) ch H H' s.heap h')(hok:HOk X.prog X.w H' h')(hg:AllBare g')
  (hch:∀ b∈ch,(b∈X.ex\/X.s₀.heap.objs.size<=b)/\b≠X.env.locals/\(∀ x c,X.env.cells.lookup x=some c->c≠b)/\∀ p∈X.pn++pins,p.1≠b) :
  Inv X pins σ H' {s with heap:=h',gens:=g',drawn:=d',toks:=t'}:=by
 obtain⟨m,⟨o,es,ep,ho,r⟩,_⟩:=id I.loc
 obtain⟨sl,hL⟩:=u.any ho I.free λz=>(hch _ z).2.1 rfl
 exact I.step (ch:=ch) hch (λb o hL hb hc e n=>u.keep b o e n (λz=>(List.mem_cons.mp (I.stkSub b z)).elim hL hb) hc) (λb o _ _ hc e n=>u.any e n hc) (λb o hc e n=>u.free b o e n hc) (λb o hc e=>u.there b o e hc) u.tups u.frzs u.tbls (λm' hm=>by
  obtain⟨o',es',ep',ho',r'⟩:=hm
  rw[ho] at ho';cases ho'
  exact⟨_,es',ep',hL,r'⟩) hok hg
theorem Inv.turned {t':Nat}{it:Addr}(I:Inv X pins σ H s)(k:∀ b o,b≠it->s.heap.get? b=some o->h'.get? b=some o)(hn:H it=none)(hL:it≠X.env.locals)
  (h1:it∈X.ex\/X.s₀.heap.objs.size<=it) (h2:∀ x c,X.env.cells.lookup x=some c->c≠it) (h3:∀ p∈X.pn++pins,p.1≠it):Inv X pins σ H {s with heap:=h',toks:=t'}:=by
 have nit:∀ b u,H b=some u->b≠it:=λb u e z=>by rw[z,hn] at e;cases e
 refine I.step (g':=s.gens) (d':=s.drawn) (ch:=[it]) (λb hb=>?_) (λb o _ _ hc e _=>k b o (λz=>hc (by simp[z])) e) (λb o _ _ hc e _=>⟨o.slots,k b o (λz=>hc (by simp[z])) e⟩) (λ_ _ _ _ n=>n)
  (λb o hc e=>⟨o,k b o (λz=>hc (by simp[z])) e⟩) (λ_ _ e=>e) (λ_ _ _ e=>e) (λb ps e=>⟨#[],by rw[e];simp⟩) (λm hm=>?_) (λb u e=>?_) I.bare
 ·have e:b=it:=by simpa using hb
  subst e
  exact⟨h1,hL,h2,h3⟩
 ·obtain⟨o,es,ep,ho,r⟩:=hm
  exact⟨o,es,ep,k _ o (Ne.symm hL) ho,r⟩
 ·refine (I.hok b u e).stay (λc v hc q=>k c v ?_ q) (λ_ q=>q) λ_ _ q=>q
  rcases hc with z | z
  ·rw[z];exact nit b u e
  ·exact nit c _ z
theorem Inv.tok (I:Inv X pins σ H s)(t:Nat):Inv X pins σ H {s with toks:=t}:=I.un (h':=s.heap) (t':=t) Un.refl I.hok
theorem Inv.kept {t':Nat}(I:Inv X pins σ H s)(k:∀ b u,s.heap.get? b=some u->h'.get? b=some u):Inv X pins σ H {s with heap:=h',toks:=t'}:=I.un (Un.kept k) (I.hok.kept k)
theorem Inv.laid {a:Addr}{o:HO}{t':Nat}(I:Inv X pins σ H s)(k:∀ b u,s.heap.get? b=some u->h'.get? b=some u)(hp:s.heap.objs.size<=a)(new:zbv X.prog X.w (upd H a o) h' a o) :
  Inv X pins σ (upd H a o) {s with heap:=h',toks:=t'}:=I.un (Un.laid k hp (I.hok.fresh hp)) (I.hok.laid k hp new)
theorem Inv.write {x e:Addr}{o:HO}{t':Nat}(I:Inv X pins σ H s)(mu:Mut (H x))(he:e=x\/H e=some (.own x))(k:∀ b u,b≠e->s.heap.get? b=some u->h'.get? b=some u)(heo:∃ u,h'.get? e=some u)
  (new:zbv X.prog X.w (upd H x o) h' x o):Inv X pins σ (upd H x o) {s with heap:=h',toks:=t'}:=I.un (Un.write mu he k heo) (I.hok.write mu he k heo new)
theorem Inv.pins_of {pins':List (Addr × Obj)}(I:Inv X pins σ H s)(h:∀ p∈pins',s.heap.get? p.1=some p.2/\H p.1=none/\p.1≠X.env.locals/\p.1∉X.fs/\∀ v,p.2.data≠.cell v):Inv X pins' σ H s:=
 ⟨I.ok,I.os,I.bare,I.base,I.loc,I.cell,I.free,I.freeC,λp hp=>(zma.mp hp).elim (λz=>I.pin p (List.mem_append_left _ z)) (h p),I.hok,I.len⟩
theorem ziY {N:List Str}(hN:N.Nodup){i j:Nat}{x:Str}(a:N[i]?=some x)(b:N[j]?=some x):i=j:=by
 obtain⟨h1,e1⟩:=zge.mp a
 obtain⟨h2,e2⟩:=zge.mp b
 exact (List.getElem_inj hN).mp (e1.trans e2.symm)
theorem zhv {M:Model}{A:Around}{E:Value->Shared->Prop}{i:Nat}{x:Str}{v:V}{u:Value}{Q:Unit->Shared->Prop}(I:Inv X pins σ H s)(hN:X.N.Nodup)(hi:X.N[i]?=some x)(hx:Loc X.env.scope x)(r:RelV v u)
  (h:∀ s',Inv X pins (σ.set i (some v)) H s'->(∃ a,Heap.SameBut a s.heap s'.heap/\(a=X.env.locals\/X.env.cells.lookup x=some a))->Q () s') (hf:X.fn x=true\/X.env.scope.names.lookup x=some .local:=by first | exact .inl rfl | exact .inr rfl | assumption):wpAny M A (storeName X.env x u) Q E s:=by
 obtain⟨m,hn,hl⟩:=id I.loc
 have hcls:(X.env.scope.kind == .class || (X.env.scope.kind == .module && X.env.locals != X.env.globals))=false:=by rw[I.ok.kind];rfl
 have hiσ:i<σ.length:=by rw[I.len];exact (zge.mp hi).1
 have cne:=I.cne
 have tracked:∀ {a:Addr}{h':Heap},(∃ o,s.heap.get? a=some o/\H a=none)->Heap.SameBut a s.heap h'->HOk X.prog X.w H h':=λ{a h'} ha hs b ob e=>by
  obtain⟨_,_,hfree⟩:=ha
  refine (I.hok b ob e).stay (λc w' hc q=>(hs.2 c ?_).trans q) (λ_ q=>q) λ_ _ q=>q
  rintro rfl
  rcases hc with rfl | hc
  ·rw[hfree] at e;cases e
  ·rw[hfree] at hc;cases hc
 rcases hx with hk | hk
 ·refine wpAny_storeName_local hk hn (λh' hn' hs=>?_) hcls
  obtain⟨oL,_,_,hoL,_⟩:=id hn
  refine h _ ⟨I.ok,I.os,I.bare,⟨λb o e n hb hx=>?_,λb o e n hb hx=>?_,I.base.free,λb o e hx=>?_,I.base.tups,I.base.frzs,I.base.tbls⟩,⟨_,hn',λj y v' e1 e2 e3=>?_⟩,λy c e=>?_,I.free,I.freeC,λp hp=>?_,tracked ⟨oL,hoL,I.free⟩ hs,by simpa using I.len⟩ ⟨_,hs,.inl rfl⟩
  ·exact (hs.2 b (Nat.ne_of_lt (Nat.lt_of_lt_of_le (Heap.lt_size e) I.ok.above))).trans (I.base.keep b o e n hb hx)
  ·obtain⟨sl,e1⟩:=I.base.slot b o e n hb hx
   exact⟨sl,(hs.2 b (Nat.ne_of_lt (Nat.lt_of_lt_of_le (Heap.lt_size e) I.ok.above))).trans e1⟩
  ·obtain⟨o',e1⟩:=I.base.there b o e hx
   exact⟨o',(hs.2 b (Nat.ne_of_lt (Nat.lt_of_lt_of_le (Heap.lt_size e) I.ok.above))).trans e1⟩
  ·by_cases hj:j=i
   ·subst hj
    rw[hi] at e1;cases e1
    rw[List.getElem?_set_self hiσ] at e2
    cases e2
    exact⟨u,r,.inl ⟨hk,by simp⟩⟩
   ·rw[List.getElem?_set_ne (Ne.symm hj)] at e2
    obtain⟨u',r',q⟩:=hl j y v' e1 e2 e3
    refine⟨u',r',?_⟩
    rcases q with ⟨k,e⟩ | ⟨k,c,e,z⟩
    ·refine .inl ⟨k,?_⟩
     have:y≠x:=λe=>hj (ziY hN e1 (e ▸ hi))
     simp[this,e]
    ·exact .inr ⟨k,c,e,z.sameBut hs (cne y c e)⟩
  ·obtain⟨w',z⟩:=I.cell y c e
   exact⟨w',z.sameBut hs (cne y c e)⟩
  ·obtain⟨e,n,ne,nf,d⟩:=I.pin p hp
   exact⟨(hs.2 p.1 ne).trans e,n,ne,nf,d⟩
 ·have hfn:X.fn x=true:=by
   rcases hf with z | z
   ·exact z
   ·rw[z] at hk;cases hk
  obtain⟨c,hc⟩:=I.ok.has x (.inl hk)
  obtain⟨w',z⟩:=I.cell x c hc
  refine wpAny_storeName_cell I.ok.kind hk hc z (λh' hc' hs=>?_)
  obtain⟨oc,hoc,hocd⟩:=id z
  refine h {s with heap:=h'} ⟨I.ok,I.os,I.bare,⟨λb o e n hb hx=>?_,λb o e n hb hx=>?_,I.base.free,λb o e hx=>?_,I.base.tups,I.base.frzs,I.base.tbls⟩,⟨m,hn.sameBut hs (Ne.symm (cne x c hc)),λj y v' e1 e2 e3=>?_⟩,λy c' e=>?_,I.free,I.freeC,λp hp=>?_,tracked ⟨oc,hoc,I.freeC x c hc⟩ hs,by simpa using I.len⟩ ⟨c,hs,.inr hc⟩
  ·exact (hs.2 b (Nat.ne_of_lt (Nat.lt_of_lt_of_le (Heap.lt_size e) (I.ok.cab x c hfn hc)))).trans (I.base.keep b o e n hb hx)
  ·obtain⟨sl,e1⟩:=I.base.slot b o e n hb hx
   exact⟨sl,(hs.2 b (Nat.ne_of_lt (Nat.lt_of_lt_of_le (Heap.lt_size e) (I.ok.cab x c hfn hc)))).trans e1⟩
  ·obtain⟨o',e1⟩:=I.base.there b o e hx
   exact⟨o',(hs.2 b (Nat.ne_of_lt (Nat.lt_of_lt_of_le (Heap.lt_size e) (I.ok.cab x c hfn hc)))).trans e1⟩
  ·by_cases hj:j=i
   ·subst hj
    rw[hi] at e1;cases e1
    rw[List.getElem?_set_self hiσ] at e2
    cases e2
    exact⟨u,r,.inr ⟨.inl hk,c,hc,hc'⟩⟩
   ·rw[List.getElem?_set_ne (Ne.symm hj)] at e2
    obtain⟨u',r',q⟩:=hl j y v' e1 e2 e3
    refine⟨u',r',?_⟩
    rcases q with q | ⟨k,c',e,z'⟩
    ·exact .inl q
    ·refine .inr ⟨k,c',e,z'.sameBut hs ?_⟩
     rintro rfl
     exact hj (ziY hN e1 (I.ok.inj _ _ _ e hc ▸ hi))
  ·by_cases hcc:c'=c
   ·subst hcc;exact⟨_,hc'⟩
   ·obtain⟨w2,z2⟩:=I.cell y c' e
    exact⟨w2,z2.sameBut hs hcc⟩
  ·obtain⟨e,n,ne,nf,d⟩:=I.pin p hp
   refine⟨(hs.2 p.1 ?_).trans e,n,ne,nf,d⟩
   intro q
   rw[q,hoc] at e
   have q':oc=p.2:=Option.some.inj e
   exact d w' (by rw[<-q'];exact hocd)
theorem ziZ {M:Model}{A:Around}{E:Value->Shared->Prop}{i:Nat}{x:Str}{v:V}{u:Value}{Q:Unit->Shared->Prop}(I:Inv X pins σ H s)(hN:X.N.Nodup)(hi:X.N[i]?=some x)(hx:Loc X.env.scope x)(r:RelV v u)
  (h:∀ s',Inv X pins (σ.set i (some v)) H s'->Q () s') (hf:X.fn x=true\/X.env.scope.names.lookup x=some .local:=by first | exact .inl rfl | exact .inr rfl | assumption):wpAny M A (storeName X.env x u) Q E s:=
 zhv I hN hi hx r (λs' I' _=>h s' I') hf
theorem Inv.call' {s':Shared}{ch:List Addr}(I:Inv X pins σ H s)(ho:s'.os=s.os)(u:Un (frs X.stack) ch H H' s.heap s'.heap)(hok:HOk X.prog X.w H' s'.heap)(hg:AllBare s'.gens)
  (hch:∀ b∈ch,(b∈X.ex\/X.s₀.heap.objs.size<=b)/\b≠X.env.locals/\(∀ x c,X.env.cells.lookup x=some c->c≠b)/\∀ p∈X.pn++pins,p.1≠b):Inv X pins σ H' s':=by
 obtain⟨h',g',d',t',o'⟩:=s'
 have e:o'=s.os:=ho
 subst e
 exact I.call (g':=g') (t':=t') (d':=d') u hok hg hch
end

abbrev XK:=Value->Option Addr->Hp->Prop
abbrev St:=List (Option V)
abbrev VK:=V->Hp->Prop
abbrev TE:=St->Hp->VK->Prop
abbrev TT:=St->Hp->(Bool->Hp->Prop)->Prop
abbrev TA:=St->Hp->(List V->Hp->Prop)->Prop
structure Ends where
 nx:St->Hp->Prop
 rt:VK
 bk:St->Hp->Prop:=λ_ _=>False
 ct:St->Hp->Prop:=λ_ _=>False
abbrev TS:=Ends->St->Hp->Prop
def EP (X:Cx)(pins:List (Addr × Obj))(σ:St)(Q:VK)(u:Value)(s':Shared):Prop:=∃ v H',Inv X pins σ H' s'/\RelV v u/\Q v H'
def TP (X:Cx)(pins:List (Addr × Obj))(σ:St)(Q:Bool->Hp->Prop)(b:Bool)(s':Shared):Prop:=∃ H',Inv X pins σ H' s'/\Q b H'
def AP (X:Cx)(pins:List (Addr × Obj))(σ:St)(Q:List V->Hp->Prop)(us:List Value)(s':Shared):Prop:=∃ vs H',Inv X pins σ H' s'/\Vals vs us/\Q vs H'
def SP (X:Cx)(pins:List (Addr × Obj))(D:Ends)(f:Flow)(s':Shared):Prop:=
 match f with
 | .next=>∃ σ' H',Inv X pins σ' H' s'/\D.nx σ' H'
 | .brk=>∃ σ' H',Inv X pins σ' H' s'/\D.bk σ' H'
 | .cont=>∃ σ' H',Inv X pins σ' H' s'/\D.ct σ' H'
 | .ret u=>∃ v σ' H',Inv X pins σ' H' s'/\RelV v u/\D.rt v H'
def PE (X:Cx)(e:Expr)(t:TE):Prop:=
 ∀ (pins:List (Addr × Obj)) (s:Shared) (σ:St) (H:Hp) (Q:VK),Inv X pins σ H s->t σ H Q->wpAny (model X.prog X.w) X.A (eval e X.env) (EP X pins σ Q) X.xe s
def PT (X:Cx)(e:Expr)(t:TT):Prop:=
 ∀ (pins:List (Addr × Obj)) (s:Shared) (σ:St) (H:Hp) (Q:Bool->Hp->Prop),Inv X pins σ H s->t σ H Q->wpAny (model X.prog X.w) X.A (isTrue e X.env (eval e X.env)) (TP X pins σ Q) X.xe s
def PW (X:Cx)(e:Expr)(t:TT):Prop:=
 ∀ (whole:Sem Value) (pins:List (Addr × Obj)) (s:Shared) (σ:St) (H:Hp) (Q:Bool->Hp->Prop),Inv X pins σ H s->t σ H Q->wpAny (model X.prog X.w) X.A (isTrue e X.env whole) (TP X pins σ Q) X.xe s
theorem PW.pt {X:Cx}{e:Expr}{t:TT}(h:PW X e t):PT X e t:=h _
def PA (X:Cx)(es:List Expr)(t:TA):Prop:=
 ∀ (pos:Pos) (pins:List (Addr × Obj)) (s:Shared) (σ:St) (H:Hp) (Q:List V->Hp->Prop),Inv X pins σ H s->t σ H Q->wpAny (model X.prog X.w) X.A (spliced (backTo pos (starEach es X.env))) (AP X pins σ Q) X.xe s
def PS (X:Cx)(st:Stmt)(t:TS):Prop:=
 ∀ (pins:List (Addr × Obj)) (s:Shared) (σ:St) (H:Hp) (D:Ends),Inv X pins σ H s->t D σ H->wpAny (model X.prog X.w) X.A (exec st X.env) (SP X pins D) X.xe s
def PSs (X:Cx)(st:List Stmt)(t:TS):Prop:=
 ∀ (pins:List (Addr × Obj)) (s:Shared) (σ:St) (H:Hp) (D:Ends),Inv X pins σ H s->t D σ H->wpAny (model X.prog X.w) X.A (execs st X.env) (SP X pins D) X.xe s
theorem thn {α:Type}{t:Sem α}{Q Q':α->Shared->Prop}{M:Model}{A:Around}{E:Value->Shared->Prop}{s:Shared}(h:wpAny M A t Q E s)(hQ:∀ a s,Q a s->Q' a s):wpAny M A t Q' E s:=wpAny_mono h hQ λ_ _ x=>x
end L2

namespace L2
open PySem PySem.Spec PyProof.Rows
section
variable {X:Cx}

theorem bin {a b:Expr}{ta tb:TE}(ha:PE X a ta)(hb:PE X b tb){pins:List (Addr × Obj)}{s:Shared}{σ:St}{H:Hp}{R:V->V->Hp->Prop}(I:Inv X pins σ H s)(h:ta σ H λx H1=>tb σ H1 λy H2=>R x y H2)
  {α:Type}{Q:α->Shared->Prop}{f:Value->Value->Sem α}
  (hf:∀ v u s2 x y H2,Inv X pins σ H2 s2->RelV x v->RelV y u->R x y H2->wpAny (model X.prog X.w) X.A (f v u) Q X.xe s2) :
  wpAny (model X.prog X.w) X.A (eval a X.env) (λv s₁=>wpAny (model X.prog X.w) X.A (eval b X.env) (λu s₂=>wpAny (model X.prog X.w) X.A (f v u) Q X.xe s₂) X.xe s₁) X.xe s:=by
 refine thn (ha pins s σ H _ I h) λv s1 ⟨x,H1,I1,r1,q1⟩=>?_
 refine thn (hb pins s1 σ H1 _ I1 q1) λu s2 ⟨y,H2,I2,r2,q2⟩=>?_
 exact hf v u s2 x y H2 I2 r1 r2 q2
def tVar (i:Nat):TE:=λσ H Q=>∃ v,σ[i]?=some (some v)/\Q v H
def tC (v:V):TE:=λ_ H Q=>Q v H
theorem zn0 {i:Nat}{x:Str}{pos:Pos}(hN:X.N[i]?=some x)(hv:Vis X.env.scope x)(hd:(x == ("__debug__" : Str))=false:=by decide)(hcd:(x == ("__classdict__" : Str))=false:=by decide):PE X (.Name x pos) (tVar i):=by
 intro pins s σ H Q I h
 obtain⟨v,e,h⟩:=h
 obtain⟨m,hn,hl⟩:=I.loc
 obtain⟨u,r,l⟩:=hl i x v hN e hv
 have fin:EP X pins σ Q u s:=⟨v,H,I,r,h⟩
 rcases l with ⟨hk,hm⟩ | ⟨hk,c,hc,hcell⟩
 ·exact wpAny_Name (wpAny_loadName_local I.ok.kind hk hn hm fin) hd
 ·rcases hk with hk | hk
  ·exact wpAny_Name (wpAny_loadName_cell I.ok.kind hk hc hcell fin) hd
  ·exact wpAny_Name (wpAny_loadName_free I.ok.kind hk hc hcell fin hcd) hd
theorem zag {i j pos} : PE X (.Constant (.int i) j pos) (tC (.int i)):=λ_ _ _ H _ I h=>wpAny_Constant_int ⟨.int i,H,I.tok _,⟨_,rfl⟩,h⟩
theorem zfn {b j pos} : PE X (.Constant (.bool b) j pos) (tC (.bl b)):=λ_ _ _ H _ I h=>Constant_bool ⟨.bl b,H,I,rfl,h⟩
theorem zfo {j pos} : PE X (.Constant .none j pos) (tC .non):=λ_ _ _ H _ I h=>Constant_none ⟨.non,H,I,rfl,h⟩
theorem zb3 {x j pos} : PE X (.Constant (.str x) j pos) (tC (.str x)):=λ_ _ _ H _ I h=>Calls.Constant_str ⟨.str x,H,I.tok _,⟨_,rfl⟩,h⟩
def Gl (X:Cx)(x:Str):Prop:=X.env.kindOf x=some .globalImplicit
theorem zd1 {E:Value->Shared->Prop}{pins:List (Addr × Obj)}{s:Shared}{σ:St}{H:Hp}{x:Str}{u:Value}{pos:Pos}{Q:Value->Shared->Prop}(I:Inv X pins σ H s)(hg:Gl X x)(hm:X.mg x=some u)(h:Q u s)
  (hd:(x == ("__debug__" : Str))=false:=by decide):wpAny (model X.prog X.w) X.A (eval (.Name x pos) X.env) Q E s:=
 Calls.Name_function_global I.ok.kind hg (Calls.loadGlobal_global (by rw[I.ok.glob];exact I.mod.glob.keeps I.bk) hm h) hd
theorem zgy {E:Value->Shared->Prop}{pins:List (Addr × Obj)}{s:Shared}{σ:St}{H:Hp}{x:Str}{u:Value}{pos:Pos}{Q:Value->Shared->Prop}(I:Inv X pins σ H s)(hg:Gl X x)(hm:X.mg x=none)(hv:bootBuiltins x=some u)(h:Q u s)
  (hn:x≠ "__name__":=by decide) (hd:(x == ("__debug__" : Str))=false:=by decide):wpAny (model X.prog X.w) X.A (eval (.Name x pos) X.env) Q E s:=by
 obtain⟨mb,h1,h2⟩:=I.mod.blt
 exact Calls.Name_function_global I.ok.kind hg (Calls.loadGlobal_builtin (by rw[I.ok.glob];exact I.mod.glob.keeps I.bk) hm (by rw[I.ok.blt];exact h1.keeps I.bk) ((h2 x hn).trans hv) h) hd
theorem zj9 {x:Str}{v:V}{u:Value}{pos:Pos}(hg:Gl X x)(hm:X.mg x=some u)(r:RelV v u)(hd:(x == ("__debug__" : Str))=false:=by decide):PE X (.Name x pos) (tC v):=
 λ_ _ _ H _ I h=>zd1 I hg hm ⟨v,H,I,r,h⟩ hd
theorem ziq {x:Str}{v:V}{u:Value}{pos:Pos}(hg:Gl X x)(hm:X.mg x=none)(hv:bootBuiltins x=some u)(r:RelV v u)(hn:x≠ "__name__":=by decide)(hd:(x == ("__debug__" : Str))=false:=by decide):PE X (.Name x pos) (tC v):=
 λ_ _ _ H _ I h=>zgy I hg hm hv ⟨v,H,I,r,h⟩ hn hd
variable {a b:Expr}{ta tb:TE}{pos:Pos}
def PC (X:Cx)(op:CmpOp)(a b:Expr)(t:TE):Prop:=
 ∀ (pins:List (Addr × Obj)) (s:Shared) (σ:St) (H:Hp) (Q:VK),Inv X pins σ H s->t σ H Q->
  wpAny (model X.prog X.w) X.A (eval a X.env) (λv s₁=>wpAny (model X.prog X.w) X.A (eval b X.env) (λu s₂=>wpAny (model X.prog X.w) X.A (compareOp op v u) (EP X pins σ Q) X.xe s₂) X.xe s₁) X.xe s
def tB (t:TE):TT:=λσ H Q=>t σ H λx H1=>∃ c,x=.bl c/\Q c H1
theorem zi0 {op:CmpOp}{t:TE}(h:PC X op a b t)(h1:behindInMarks op b=false:=by first | exact nobehind _ (by decide) (by decide) | rfl):PE X (.Compare a [op] [b] pos) t:=λpins s σ H Q I hw=>wpAny_Compare1 (h pins s σ H Q I hw) h1
theorem zhw {op:CmpOp}{t:TE}(h:PC X op a b t)(h1:behindInMarks op b=false:=by first | exact nobehind _ (by decide) (by decide) | rfl):PT X (.Compare a [op] [b] pos) (tB t):=by
 intro pins s σ H Q I hw
 refine wpAny_isTrue_Compare1 (thn (h pins s σ H _ I hw) λv s1 h1=>thn h1 λu s2 h2=>thn h2 λc s3 ⟨x,H1,I1,r1,q1⟩=>?_) h1
 obtain⟨d,rfl,q⟩:=q1
 cases r1
 exact wpAny_truthy_bool ⟨H1,I1,q⟩
theorem zcZ {e:Expr}{t:TE}(h:PE X e t)(he:∀ whole,isTrue e X.env whole=(do let v <-whole;standAt e.pos;holding [v] (truthy v)):=by intro _;rfl):PT X e (tB t):=by
 intro pins s σ H Q I hw
 refine isTrue_plain (thn (h pins s σ H _ I hw) λv s1 ⟨x,H1,I1,r1,q1⟩=>?_) (he _)
 obtain⟨d,rfl,q⟩:=q1
 cases r1
 exact wpAny_truthy_bool ⟨H1,I1,q⟩
variable {tA tB':TT}{rest:List Expr}
def tAnd (t u:TT):TT:=λσ H Q=>t σ H λc H1=>if c=true then u σ H1 Q else Q false H1
def tOr (t u:TT):TT:=λσ H Q=>t σ H λc H1=>if c=true then Q true H1 else u σ H1 Q
def tNot (t:TT):TT:=λσ H Q=>t σ H λc H1=>Q (!c) H1
theorem zka (ha:PT X a tA):PW X (.BoolOp .And [a] pos) tA:=by
 intro wh pins s σ H Q I h
 refine isTrue_and (thn (ha pins s σ H Q I h) λc s1 e=>?_)
 cases c with
 | true=>exact isTrue_and_nil e
 | false=>exact e
theorem zkb (ha:PT X a tA):PW X (.BoolOp .Or [a] pos) tA:=by
 intro wh pins s σ H Q I h
 refine isTrue_or (thn (ha pins s σ H Q I h) λc s1 e=>?_)
 cases c with
 | false=>exact isTrue_or_nil e
 | true=>exact e
theorem zkc (ha:PT X a tA)(hb:PW X (.BoolOp .And (b::rest) pos) tB'):PW X (.BoolOp .And (a::b::rest) pos) (tAnd tA tB'):=by
 intro wh pins s σ H Q I h
 refine isTrue_and (thn (ha pins s σ H _ I h) λc s1 ⟨H1,I1,q1⟩=>?_)
 cases c with
 | true=>exact hb wh pins s1 σ H1 Q I1 q1
 | false=>exact⟨H1,I1,q1⟩
theorem zkd (ha:PT X a tA)(hb:PW X (.BoolOp .Or (b::rest) pos) tB'):PW X (.BoolOp .Or (a::b::rest) pos) (tOr tA tB'):=by
 intro wh pins s σ H Q I h
 refine isTrue_or (thn (ha pins s σ H _ I h) λc s1 ⟨H1,I1,q1⟩=>?_)
 cases c with
 | true=>exact⟨H1,I1,q1⟩
 | false=>exact hb wh pins s1 σ H1 Q I1 q1
theorem zhx (ha:PT X a tA):PT X (.UnaryOp .Not a pos) (tNot tA):=by
 intro pins s σ H Q I h
 exact isTrue_not (ha pins s σ H (λc H1=>Q (!c) H1) I h)
def zn1 (ta tb:TE):TE:=λσ H Q=>ta σ H λx H1=>∃ c,x=.bl c/\if c=true then tb σ H1 Q else Q (.bl false) H1
def tOrV (ta tb:TE):TE:=λσ H Q=>ta σ H λx H1=>∃ c,x=.bl c/\if c=true then Q (.bl true) H1 else tb σ H1 Q
def zmT (ta:TE):TE:=λσ H Q=>ta σ H λx H1=>∃ c,x=.bl c/\Q (.bl (!c)) H1
theorem zbD {op}{t:TE}(h:PE X a t):PE X (.BoolOp op [a] pos) t:=λpins s σ H Q I hw=>BoolOp_one (h pins s σ H Q I hw)
theorem zbq (ha:PE X a ta)(hb:PE X (.BoolOp .And (b::rest) pos) tb):PE X (.BoolOp .And (a::b::rest) pos) (zn1 ta tb):=by
 intro pins s σ H Q I h
 refine BoolOp_and (thn (ha pins s σ H _ I h) λv s1 ⟨x,H1,I1,r1,q1⟩=>?_)
 obtain⟨c,rfl,q1⟩:=q1
 cases r1
 refine wpAny_truthy_bool ?_
 cases c with
 | true=>exact hb pins s1 σ H1 Q I1 q1
 | false=>exact⟨.bl false,H1,I1,rfl,q1⟩
theorem zn2 (ha:PE X a ta)(hb:PE X (.BoolOp .Or (b::rest) pos) tb):PE X (.BoolOp .Or (a::b::rest) pos) (tOrV ta tb):=by
 intro pins s σ H Q I h
 refine BoolOp_or (thn (ha pins s σ H _ I h) λv s1 ⟨x,H1,I1,r1,q1⟩=>?_)
 obtain⟨c,rfl,q1⟩:=q1
 cases r1
 refine wpAny_truthy_bool ?_
 cases c with
 | false=>exact hb pins s1 σ H1 Q I1 q1
 | true=>exact⟨.bl true,H1,I1,rfl,q1⟩
theorem zn3 (ha:PE X a ta):PE X (.UnaryOp .Not a pos) (zmT ta):=by
 intro pins s σ H Q I h
 refine UnaryOp_ (thn (ha pins s σ H _ I h) λv s1 ⟨x,H1,I1,r1,q1⟩=>?_)
 obtain⟨c,rfl,q1⟩:=q1
 cases r1
 exact not_of (wpAny_truthy_bool ⟨.bl (!c),H1,I1,rfl,q1⟩)
def tIf (t:TT)(ta tb:TE):TE:=λσ H Q=>t σ H λc H1=>if c=true then ta σ H1 Q else tb σ H1 Q
theorem zi1 {c:Expr}(hc:PT X c tA)(ha:PE X a ta)(hb:PE X b tb):PE X (.IfExp c a b pos) (tIf tA ta tb):=by
 intro pins s σ H Q I h
 refine wpAny_IfExp (thn (hc pins s σ H _ I h) λd s1 ⟨H1,I1,q1⟩=>?_)
 cases d with
 | true=>exact ha pins s1 σ H1 Q I1 q1
 | false=>exact hb pins s1 σ H1 Q I1 q1
end
end L2

namespace L2
open PySem PySem.Spec PyProof.Rows

def SqL (K:Fg)(H:Hp)(a:Addr)(xs:List V):Prop:=
 Rd H a (.lst xs)\/
  ∃ (o:Obj) (its:Array Value) (n:Nat),K.lookup a=some o/\o.cls=.type "list" /\o.dict=none/\o.data=.seq its n/\its.size<=sizeLine/\Vals xs its.toList
def SqT (K:Fg)(H:Hp)(a:Addr)(xs:List V):Prop:=
 Rd H a (.tup xs)\/
  ∃ (o:Obj) (its:Array Value) (n:Nat),K.lookup a=some o/\o.cls=.type "tuple" /\o.data=.seq its n/\its.size<=sizeLine/\Vals xs its.toList
def absV:Value->Option V
 | .none=>some .non
 | .bool b=>some (.bl b)
 | .int i _=>some (.int i)
 | .str x _=>some (.str x)
 | .bytes b _=>some (.byt b)
 | .float b _=>some (.flt b)
 | .ref a=>some (.ref a)
 | .type n=>some (.ty n)
 | _=>none
theorem RelV.abs {x:V}{u:Value}(r:RelV x u):absV u=some x:=by
 cases x with
 | non=>cases r;rfl
 | bl _=>cases r;rfl
 | int _=>obtain⟨t,rfl⟩:=r;rfl
 | str _=>obtain⟨t,rfl⟩:=r;rfl
 | byt _=>obtain⟨t,rfl⟩:=r;rfl
 | flt _=>obtain⟨t,rfl⟩:=r;rfl
 | ref _=>cases r;rfl
 | ty _=>cases r;rfl
theorem RelV.inj {x y:V}{u:Value}(r:RelV x u)(q:RelV y u):x=y:=Option.some.inj (r.abs.symm.trans q.abs)
theorem Vals.inj:∀ {xs ys:List V}{us:List Value},Vals xs us->Vals ys us->xs=ys
 | _,_,_,.nil,.nil=>rfl
 | _,_,_,.cons r t,.cons r' t'=>by rw[r.inj r',Vals.inj t t']
section
variable {X:Cx}{pins:List (Addr × Obj)}{σ:St}{H:Hp}{s:Shared}{a:Addr}{xs ys:List V}
theorem SqL.of {K:Fg}(h:H a=some (.lst xs)):SqL K H a xs:=.inl (.inl h)
theorem SqT.of {K:Fg}(h:H a=some (.tup xs)):SqT K H a xs:=.inl (.inl h)
theorem Inv.list (I:Inv X pins σ H s)(h:SqL X.K H a xs):∃ its:List Value,Vals xs its/\PlainL s.heap a its.toArray/\xs.length<=sizeLine:=by
 rcases h with h | ⟨o,its,n,hk,hc,hd,hs,hz,r⟩
 ·obtain⟨z,its,n,r,e⟩:=h.ok I.hok
  exact⟨its,r,⟨_,n,e,rfl,rfl,rfl⟩,z⟩
 ·refine⟨its.toList,r,⟨o,n,I.kIn a o hk,hc,hd,by simpa using hs⟩,?_⟩
  have e:=r.length
  simp only[Array.length_toList] at e
  omega
theorem Inv.tuple (I:Inv X pins σ H s)(h:SqT X.K H a xs):∃ its:List Value,Vals xs its/\IsTup s.heap a its.toArray/\xs.length<=sizeLine:=by
 rcases h with h | ⟨o,its,n,hk,hc,hs,hz,r⟩
 ·obtain⟨z,its,r,p⟩:=h.ok I.hok
  exact⟨its,r,p,z⟩
 ·refine⟨its.toList,r,⟨o,I.kIn a o hk,hc,n,by simpa using hs⟩,?_⟩
  have e:=r.length
  simp only[Array.length_toList] at e
  omega
theorem Inv.list_inj (I:Inv X pins σ H s)(h:SqL X.K H a xs)(h':SqL X.K H a ys):xs=ys:=by
 obtain⟨its,r,⟨o,n,e,_,_,d⟩,_⟩:=I.list h
 obtain⟨its',r',⟨o',n',e',_,_,d'⟩,_⟩:=I.list h'
 rw[e] at e';cases e'
 rw[d] at d'
 injection d' with d1 _
 have:its=its':=by simpa using congrArg Array.toList d1
 subst this
 exact r.inj r'
theorem Inv.tuple_inj (I:Inv X pins σ H s)(h:SqT X.K H a xs)(h':SqT X.K H a ys):xs=ys:=by
 obtain⟨its,r,⟨o,e,_,n,d⟩,_⟩:=I.tuple h
 obtain⟨its',r',⟨o',e',_,n',d'⟩,_⟩:=I.tuple h'
 rw[e] at e';cases e'
 rw[d] at d'
 injection d' with d1 _
 have:its=its':=by simpa using congrArg Array.toList d1
 subst this
 exact r.inj r'
end

abbrev Cx.wish (X:Cx)(E:Value->Shared->Prop):Cx:={X with xe:=E}
abbrev Cx.nox (X:Cx):Cx:=X.wish λ_ _=>False
theorem Cx.Ok.wish {X:Cx}(ok:X.Ok)(E:Value->Shared->Prop):(X.wish E).Ok:=
 ⟨ok.mod,ok.kind,ok.glob,ok.blt,ok.above,ok.inj,ok.has,ok.cab,ok.hd,ok.frames,ok.stk,ok.exf,ok.bs,ok.bsz,ok.noex,ok.exfs,ok.funs,ok.frf⟩
theorem Cx.Ok.unwish {X:Cx}{E:Value->Shared->Prop}(ok:(X.wish E).Ok):X.Ok:=
 ⟨ok.mod,ok.kind,ok.glob,ok.blt,ok.above,ok.inj,ok.has,ok.cab,ok.hd,ok.frames,ok.stk,ok.exf,ok.bs,ok.bsz,ok.noex,ok.exfs,ok.funs,ok.frf⟩
section
variable {X:Cx}{pins:List (Addr × Obj)}{σ:St}{H:Hp}{s:Shared}{E:Value->Shared->Prop}
theorem Inv.wish (I:Inv X pins σ H s)(E:Value->Shared->Prop):Inv (X.wish E) pins σ H s:=⟨I.ok.wish E,I.os,I.bare,I.base,I.loc,I.cell,I.free,I.freeC,I.pin,I.hok,I.len⟩
theorem Inv.unwish (I:Inv (X.wish E) pins σ H s):Inv X pins σ H s:=⟨I.ok.unwish,I.os,I.bare,I.base,I.loc,I.cell,I.free,I.freeC,I.pin,I.hok,I.len⟩
theorem SP.unwish {D:Ends}{f:Flow}{s':Shared}(h:SP (X.wish E) pins D f s'):SP X pins D f s':=by
 cases f with
 | next=>obtain⟨σ',H',I,q⟩:=h;exact⟨σ',H',I.unwish,q⟩
 | brk=>obtain⟨σ',H',I,q⟩:=h;exact⟨σ',H',I.unwish,q⟩
 | cont=>obtain⟨σ',H',I,q⟩:=h;exact⟨σ',H',I.unwish,q⟩
 | ret u=>obtain⟨v,σ',H',I,r,q⟩:=h;exact⟨v,σ',H',I.unwish,r,q⟩
theorem PSs.nox {st:List Stmt}{t:TS}(h:PSs X.nox st t):PSs X st t:=λpins s σ H D I hw=>
 wpAny_mono (h pins s σ H D (I.wish _) hw) (λ_ _ q=>q.unwish) λ_ _ z=>False.elim z
end

section
variable {X:Cx}{st:Stmt}{rest:List Stmt}{t u:TS}{e:Expr}{te:TE}{pos:Pos}
def zmU:TS:=λD σ H=>D.nx σ H
def tSeq (t u:TS):TS:=λD σ H=>t {D with nx:=u D} σ H
theorem zaB:PSs X [] zmU:=λ_ _ σ H _ I h=>wpAny_execs_nil ⟨σ,H,I,h⟩
theorem zae (h1:PS X st t)(h2:PSs X rest u):PSs X (st::rest) (tSeq t u):=by
 intro pins s σ H D I h
 refine wpAny_execs_cons (thn (h1 pins s σ H {D with nx:=u D} I h) λf s1 q=>?_)
 cases f with
 | next=>
  obtain⟨σ',H',I',q⟩:=q
  exact h2 pins s1 σ' H' D I' q
 | ret v=>exact q
 | brk=>exact q
 | cont=>exact q
theorem zah (h1:PS X st t):PSs X [st] t:=by
 intro pins s σ H D I h
 refine wpAny_execs_cons (thn (h1 pins s σ H D I h) λf s1 q=>?_)
 cases f with
 | next=>exact wpAny_execs_nil q
 | ret v=>exact q
 | brk=>exact q
 | cont=>exact q
theorem Inv.quiet {pins:List (Addr × Obj)}{σ:St}{H:Hp}{s:Shared}(I:Inv X pins σ H s):interactive X.env=false:=by simp[interactive,I.ok.kind]
def zmV (te:TE):TS:=λD σ H=>te σ H λ_ H1=>D.nx σ H1
theorem za9 (he:PE X e te)(hs:swapsWith e none pos.line X.env=pure false:=by rfl):PS X (.Expr e pos) (zmV te):=by
 intro pins s σ H D I h
 exact wpAny_Expr_any (thn (he pins s σ H _ I h) λv s1 ⟨x,H1,I1,r1,q1⟩=>⟨σ,H1,I1,q1⟩) I.quiet hs
def tRet (te:TE):TS:=λD σ H=>te σ H D.rt
theorem zap (he:PE X e te):PS X (.Return (some e) pos) (tRet te):=by
 intro pins s σ H D I h
 exact wpAny_Return_some (thn (he pins s σ H _ I h) λv s1 ⟨x,H1,I1,r1,q1⟩=>⟨x,σ,H1,I1,r1,q1⟩)
def tIfS (c:TT)(t u:TS):TS:=λD σ H=>c σ H λb H1=>if b=true then t D σ H1 else u D σ H1
theorem zbj {c:Expr}{a b:List Stmt}{tc:TT}(hc:PT X c tc)(ha:PSs X a t)(hb:PSs X b u):PS X (.If c a b pos) (tIfS tc t u):=by
 intro pins s σ H D I h
 refine wpAny_If (thn (hc pins s σ H _ I h) λd s1 ⟨H1,I1,q1⟩=>?_)
 cases d with
 | true=>exact ha pins s1 σ H1 D I1 q1
 | false=>exact hb pins s1 σ H1 D I1 q1
def zn4:TS:=λ_ _ _=>False
end

abbrev TG:=V->St->Hp->(St->Hp->Prop)->Prop
abbrev TGs:=List V->St->Hp->(St->Hp->Prop)->Prop
def PG (X:Cx)(target:Expr)(t:TG):Prop:=
 ∀ (pins:List (Addr × Obj)) (s:Shared) (σ:St) (H:Hp) (v:V) (u:Value) (Q:St->Hp->Prop),Inv X pins σ H s->RelV v u->t v σ H Q->
  wpAny (model X.prog X.w) X.A (assign target X.env u) (λ_ s'=>∃ σ' H',Inv X pins σ' H' s'/\Q σ' H') X.xe s
def PGs (X:Cx)(ts:List Expr)(t:TGs):Prop:=
 ∀ (pins:List (Addr × Obj)) (s:Shared) (σ:St) (H:Hp) (vs:List V) (us:List Value) (Q:St->Hp->Prop),Inv X pins σ H s->Vals vs us->t vs σ H Q->
  wpAny (model X.prog X.w) X.A (assignInOrder ((assignEach ts X.env).map (·.2)) us) (λ_ s'=>∃ σ' H',Inv X pins σ' H' s'/\Q σ' H') X.xe s
abbrev TSet:=V->V->V->Hp->(Hp->Prop)->Prop
def PSet (X:Cx)(t:TSet):Prop:=
 ∀ (pins:List (Addr × Obj)) (s:Shared) (σ:St) (H:Hp) (o i v:V) (ov iv u:Value) (Q:Hp->Prop),Inv X pins σ H s->RelV o ov->RelV i iv->RelV v u->t o i v H Q->
  wpAny (model X.prog X.w) X.A (setItem ov iv u) (λ_ s'=>∃ H',Inv X pins σ H' s'/\Q H') X.xe s
section
variable {X:Cx}{pos:Pos}
def zlp (i:Nat):TG:=λv σ H Q=>Q (σ.set i (some v)) H
theorem zas {i:Nat}{x:Str}(hN:X.N.Nodup)(hi:X.N[i]?=some x)(hx:Loc X.env.scope x)(hf:X.fn x=true\/X.env.scope.names.lookup x=some .local:=by first | exact .inl rfl | exact .inr rfl | assumption):PG X (.Name x pos) (zlp i):=by
 intro pins s σ H v u Q I r h
 exact wpAny_assign_Name (ziZ I hN hi hx r (λs' I'=>⟨_,H,I',h⟩) hf)
def gNil:TGs:=λvs σ H Q=>vs=[]/\Q σ H
inductive ConsI (vs:List V)(P:V->List V->Prop):Prop
 | mk (v:V) (r:List V) (e:vs=v::r) (q:P v r):ConsI vs P
def gCons (t:TG)(u:TGs):TGs:=λvs σ H Q=>ConsI vs λv r=>t v σ H λσ' H'=>u r σ' H' Q
theorem zir:PGs X [] gNil:=by
 intro pins s σ H vs us Q I r h
 obtain⟨e,h⟩:=h
 subst e
 cases r
 exact assignInOrder_nil ⟨σ,H,I,h⟩
theorem zdI {e:Expr}{es:List Expr}{t:TG}{u:TGs}(h1:PG X e t)(h2:PGs X es u)
  (hs:(assignEach (e::es) X.env).map (·.2)=assign e X.env::(assignEach es X.env).map (·.2):=by rfl):PGs X (e::es) (gCons t u):=by
 intro pins s σ H vs us Q I r h
 obtain⟨v,vr,e1,h⟩:=h
 subst e1
 cases r with
 | cons r rr=>
  rw[hs]
  refine assignInOrder_cons (thn (h1 pins s σ H _ _ _ I r h) λ_ s1 ⟨σ1,H1,I1,q1⟩=>?_)
  exact h2 pins s1 σ1 H1 _ _ Q I1 rr q1
inductive TupI (K:Fg)(n:Nat)(v:V)(H:Hp)(P:List V->Prop):Prop
 | mk (a:Addr) (xs:List V) (e:v=.ref a) (h:SqT K H a xs) (l:xs.length=n) (q:P xs):TupI K n v H P
def gTup (K:Fg)(n:Nat)(t:TGs):TG:=λv σ H Q=>TupI K n v H λxs=>t xs σ H Q
theorem zn5 {es:List Expr}{k:Nat}{t:TGs}{n:Nat}(hc:X.calm=true)(h:PGs X es t)
  (hn:(assignEach es X.env).length=n:=by rfl) (hst:(assignEach es X.env).findIdx? (·.1)=none:=by rfl):PG X (.Tuple es k pos) (gTup X.K n t):=by
 intro pins s σ H v u Q I r hw
 obtain⟨a,xs,e1,hq,hl,hw⟩:=hw
 subst e1
 cases r
 obtain⟨its,rv,ht,hz⟩:=I.tuple hq
 refine assign_Tuple_tuple (I.ok.hd hc) ht (by simp[hn,<-hl,rv.length]) hst λh' hx=>?_
 have I1:Inv X pins σ H {s with heap:=h'}:=I.kept (t':=s.toks) λb o e=>hx b o (Nat.ne_of_lt (Heap.lt_size e)) e
 exact h pins _ σ H xs _ Q I1 (by simpa using rv) hw
def gSub (to ti:TE)(t:TSet):TG:=λv σ H Q=>to σ H λo H1=>ti σ H1 λi H2=>t o i v H2 λH3=>Q σ H3
theorem zn6 {o i:Expr}{to ti:TE}{t:TSet}(ho:PE X o to)(hi:PE X i ti)(hs:PSet X t)
  (ha:∀ v,assign (.Subscript o i pos) X.env v=(do
   let ov <-holding [v] (eval o X.env)
   let iv <-holding [v,ov] (eval i X.env)
   standAt pos
   holding [v,ov,iv] (setItem ov iv v)
   release [v,ov,iv] []):=by intro _;rfl):PG X (.Subscript o i pos) (gSub to ti t):=by
 intro pins s σ H v u Q I r h
 rw[ha]
 refine wpAny_bind (wpAny_holding (thn (ho pins s σ H _ I h) λov s1 ⟨x,H1,I1,r1,q1⟩=>?_))
 refine wpAny_bind (wpAny_holding (thn (hi pins s1 σ H1 _ I1 q1) λiv s2 ⟨y,H2,I2,r2,q2⟩=>?_))
 refine wpAny_bind (wpAny_standAt (wpAny_bind (wpAny_holding (thn (hs pins s2 σ H2 x y v ov iv u _ I2 r1 r2 r q2) λ_ s3 ⟨H3,I3,q3⟩=>?_))))
 exact wpAny_release ⟨σ,H3,I3,q3⟩
def tAsg (te:TE)(g:TG):TS:=λD σ H=>te σ H λx H1=>g x σ H1 D.nx
theorem zn7 {tg e:Expr}{te:TE}{g:TG}(he:PE X e te)(hg:PG X tg g)(hs:swapsWithSole [tg] e pos.line X.env=pure false:=by rfl)(hw:swappedStores [tg] e X.env=pure none:=by rfl)
  (h1:(assignEach [tg] X.env).map (·.2)=[assign tg X.env]:=by rfl):PS X (.Assign [tg] e pos) (tAsg te g):=by
 intro pins s σ H D I h
 refine wpAny_Assign_stores (thn (he pins s σ H _ I h) λv s1 ⟨x,H1,I1,r1,q1⟩=>?_) hs hw
 rw[h1]
 exact thn (hg pins s1 σ H1 x v _ I1 r1 q1) λ_ s2 q=>q
theorem zat {i:Nat}{x:Str}{e:Expr}{te:TE}{pos':Pos}(hN:X.N.Nodup)(hi:X.N[i]?=some x)(hx:Loc X.env.scope x)(he:PE X e te)(hs:swapsWith e (some (.Name x pos')) pos.line X.env=pure false:=by rfl)(hf:X.fn x=true\/X.env.scope.names.lookup x=some .local:=by first | exact .inl rfl | exact .inr rfl | assumption) :
  PS X (.Assign [.Name x pos'] e pos) (tAsg te (zlp i)):=by
 intro pins s σ H D I h
 refine wpAny_Assign_Name (thn (he pins s σ H _ I h) λv s1 ⟨y,H1,I1,r1,q1⟩=>?_) hs
 exact ziZ I1 hN hi hx r1 (λs2 I2=>⟨_,H1,I2,q1⟩) hf
end

section
variable {X:Cx}{pos:Pos}
def zn8 (c:TT)(tb:TS):TS:=λD σ H=>∃ W:Nat->St->Hp->Prop,(∃ m,W m σ H)/\∀ m σ H,W m σ H->
 c σ H λb H1=>if b=true then ∃ N:St->Hp->Prop,(∀ σ' H',N σ' H'->∃ m',m'<m/\W m' σ' H')/\tb {D with nx:=N,ct:=N,bk:=D.nx} σ H1 else D.nx σ H1
theorem zlq {c:Expr}{body:List Stmt}{tc:TT}{tb:TS}(hp:PassesOwn (model X.prog X.w) X.A X.env X.xe)(hc:PT X c tc)(hb:PSs X body tb):PS X (.While c body [] pos) (zn8 tc tb):=by
 intro pins s σ H D I h
 obtain⟨W,⟨m0,w0⟩,turn⟩:=h
 refine wpAny_While (codeAny_whileLoop (λn s'=>∃ σ' H',Inv X pins σ' H' s'/\W n σ' H') ?_ m0 ⟨σ,H,I,w0⟩)
 rintro n s1 ⟨σ1,H1,I1,w1⟩
 refine wpAny_passesOwn hp (thn (hc pins s1 σ1 H1 _ I1 (turn n σ1 H1 w1)) λb s2 ⟨H2,I2,q2⟩=>?_)
 cases b with
 | true=>
  obtain⟨N,hN,q2⟩:=q2
  rw[if_pos rfl]
  refine wpAny_passesOwn hp (thn (hb pins s2 σ1 H2 _ I2 q2) λf s3 q3=>?_)
  cases f with
  | next=>
   obtain⟨σ3,H3,I3,n3⟩:=q3
   obtain⟨m',hm,w3⟩:=hN σ3 H3 n3
   exact⟨m',hm,σ3,H3,I3,w3⟩
  | cont=>
   obtain⟨σ3,H3,I3,n3⟩:=q3
   obtain⟨m',hm,w3⟩:=hN σ3 H3 n3
   exact⟨m',hm,σ3,H3,I3,w3⟩
  | brk=>exact q3
  | ret v=>exact q3
 | false=>
  rw[if_neg Bool.false_ne_true]
  exact wpAny_execs_nil ⟨σ1,H2,I2,q2⟩
end

structure It where
 go:Nat->Hp->Prop
 yld:Nat->Hp->V->Hp->Prop
 stop:Nat->Hp->Prop
def FpOk (X:Cx)(pins:List (Addr × Obj))(H:Hp)(b:Addr):Prop:=
 H b=none/\b≠X.env.locals/\b∉X.fs/\(b∈X.ex\/X.s₀.heap.objs.size<=b)/\(∀ x c,X.env.cells.lookup x=some c->c≠b)/\∀ p∈X.pn++pins,p.1≠b
theorem Inv.fpOk {X:Cx}{pins:List (Addr × Obj)}{σ:St}{H H':Hp}{s:Shared}{b:Addr}(I:Inv X pins σ H s)(hb:s.heap.objs.size<=b)(hn:H' b=none):FpOk X pins H' b:=by
 refine⟨hn,Nat.ne_of_gt (Nat.lt_of_lt_of_le I.lt hb),I.nofs hb,.inr (Nat.le_trans I.sz hb),λx c e z=>?_,λp hp z=>?_⟩
 ·obtain⟨v,q⟩:=I.cell x c e
  exact absurd (Nat.lt_of_lt_of_le q.lt (by rw[z];exact hb)) (Nat.lt_irrefl _)
 ·exact absurd (Nat.lt_of_lt_of_le (Heap.lt_size (I.pin p hp).1) (by rw[z];exact hb)) (Nat.lt_irrefl _)
structure Turn (P:Program)(w:World)(K:Fg)(tg:Expr)(J:It)(fp:List Addr)(it:Addr)(tn:Nat->Heap->Prop):Prop where
 mem:it∈fp
 obj:∀ i h,tn i h->∀ b∈fp,∃ o,h.get? b=some o/\∀ v,o.data≠.cell v
 keep:∀ i h h',tn i h->(∀ b∈fp,∀ o,h.get? b=some o->h'.get? b=some o)->tn i h'
 item:∀ (X:Cx),X.prog=P->X.w=w->X.K=K->X.calm=true->∀ (i:Nat) (pins:List (Addr × Obj)) (s:Shared) (σ:St) (H:Hp) (E:Value->Shared->Prop),Inv X pins σ H s->(∀ b∈fp,FpOk X pins H b)->tn i s.heap->J.go i H->
  wpAny (model P w) X.A (pyNext (.ref it)) (λr s1=>∃ u,r=some u/\
   wpAny (model P w) X.A (letOwnedTupleGo tg (.ref it) u) (λ_ s2=>∃ x H',Inv X pins σ H' s2/\RelV x u/\J.yld i H x H'/\tn (i+1) s2.heap/\∀ b∈fp,H' b=none) E s1) E s
 done:∀ (X:Cx),X.prog=P->X.w=w->X.K=K->X.calm=true->∀ (i:Nat) (pins:List (Addr × Obj)) (s:Shared) (σ:St) (H:Hp) (E:Value->Shared->Prop),Inv X pins σ H s->(∀ b∈fp,FpOk X pins H b)->tn i s.heap->J.stop i H->
  wpAny (model P w) X.A (pyNext (.ref it)) (λr s1=>r=none/\Inv X pins σ H s1) E s
 self:∀ (A:Around) (i:Nat) (s:Shared) (Q:Value->Shared->Prop) (E:Value->Shared->Prop),tn i s.heap->Q (.ref it) s->wpAny (model P w) A (pyIter (.ref it)) Q E s
abbrev TI:=St->Hp->(It->Hp->Prop)->Prop
def PIE (X:Cx)(pins:List (Addr × Obj))(σ:St)(tg:Expr)(R:It->Hp->Prop)(itv:Value)(s2:Shared):Prop:=
 ∃ (it:Addr) (fp:List Addr) (tn:Nat->Heap->Prop) (J:It) (H':Hp),itv=.ref it/\Inv X pins σ H' s2/\Turn X.prog X.w X.K tg J fp it tn/\tn 0 s2.heap/\(∀ b∈fp,FpOk X pins H' b)/\R J H'
def PI (X:Cx)(tg iter:Expr)(wi:TI):Prop:=
 ∀ (pins:List (Addr × Obj)) (s:Shared) (σ:St) (H:Hp) (R:It->Hp->Prop),Inv X pins σ H s->wi σ H R->
  wpAny (model X.prog X.w) X.A (eval iter X.env) (λv s1=>wpAny (model X.prog X.w) X.A (pyIter v) (PIE X pins σ tg R) X.xe s1) X.xe s
theorem zlr {M:Model}{A:Around}{E:Value->Shared->Prop}{s:Shared}{tg:Expr}{it:Addr}{u:Value}{o:Obj}{n:String}{vs:Array Value}{Q:Unit->Shared->Prop}(ho:s.heap.get? it=some o)(hc:o.cls=.type n)(hd:o.data=.fields vs)
    (hn:["enumerate","zip","dict_itemiterator","dict_reverseitemiterator","odict_iterator","itertools.zip_longest","itertools.pairwise"].contains n=false) (hQ:Q () s):wpAny M A (letOwnedTupleGo tg (.ref it) u) Q E s:=by
  unfold letOwnedTupleGo
  cases tg <;> first
    | exact wpAny_pure hQ
    | (cases u <;> first
        | exact wpAny_pure hQ
        | (refine wpAny_bind (wpAny_load ho ?_)
           rw[hc,hd]
           show wpAny M A (if (["enumerate","zip","dict_itemiterator","dict_reverseitemiterator","odict_iterator","itertools.zip_longest","itertools.pairwise"].contains n && vs[0]? == some (rawInt _))=true then _ else _) Q E s
           rw[if_neg (by intro h;rw[hn,Bool.false_and] at h;cases h)]
           exact wpAny_pure hQ))
def Itl (K:Fg)(a:Addr):It:=
 ⟨λi H=>∃ xs x,SqL K H a xs/\xs[i]?=some x,λi H x H'=>H'=H/\∀ xs,SqL K H a xs->xs[i]?=some x,λi H=>∃ xs,SqL K H a xs/\xs.length<=i⟩
def Itt (K:Fg)(a:Addr):It:=
 ⟨λi H=>∃ xs x,SqT K H a xs/\xs[i]?=some x,λi H x H'=>H'=H/\∀ xs,SqT K H a xs->xs[i]?=some x,λi H=>∃ xs,SqT K H a xs/\xs.length<=i⟩
def Itr (lo:Int)(n:Nat):It:=⟨λi _=>i<n,λi H x H'=>H'=H/\x=.int (lo+i),λi _=>n<=i⟩
theorem zhy {P:Program}{w:World}{K:Fg}{tg:Expr}(a it:Addr):Turn P w K tg (Itl K a) [it] it (λi h=>h.IsListIter it a i) where
 mem:=by simp
 obj:=λi h st b hb=>by
  have e:b=it:=by simpa using hb
  subst e
  obtain⟨o,e,c,d⟩:=st
  exact⟨o,e,λv z=>by rw[d] at z;cases z⟩
 keep:=λi h h' st k=>st.at λo e=>k it (by simp) o e
 item:=by
  intro X hP hw hK hc i pins s σ H E I hf st hg
  subst hP hw hK
  obtain⟨xs,x,hq,hx⟩:=hg
  obtain⟨its,rv,p,hz⟩:=I.list hq
  obtain⟨u,hu,ru⟩:=rv.get hx
  obtain⟨f0,f1,f2,f3,f4,f5⟩:=hf it (by simp)
  refine wpAny_pyNext_list_item st p.isList (x:=u) (by simpa using hu) λh' st' sb=>?_
  have I1:Inv X pins σ H {s with heap:=h'}:=I.turned (t':=s.toks) (λb o hb e=>(sb.2 b hb).trans e) f0 f1 f3 f4 f5
  obtain⟨o,e,c,d⟩:=id st'
  exact⟨u,rfl,zlr (s:={s with heap:=h'}) e c d (by decide) ⟨x,H,I1,ru,⟨rfl,λys hy=>by rw[I.list_inj hy hq];exact hx⟩,st',λb hb=>(hf b hb).1⟩⟩
 done:=by
  intro X hP hw hK hc i pins s σ H E I hf st hg
  subst hP hw hK
  obtain⟨xs,hq,hx⟩:=hg
  obtain⟨its,rv,p,hz⟩:=I.list hq
  obtain⟨f0,f1,f2,f3,f4,f5⟩:=hf it (by simp)
  have hl:=rv.length
  exact wpAny_pyNext_list_end (I.ok.hd hc) st p.isList (by simp;omega) λh' eb=>⟨rfl,I.turned (t':=s.toks) (λb o hb e=>eb b o hb e) f0 f1 f3 f4 f5⟩
 self:=λ_ _ _ _ _ st h=>wpAny_pyIter_listiter st h
theorem zju {P:Program}{w:World}{K:Fg}{tg:Expr}(a it:Addr):Turn P w K tg (Itt K a) [it] it (λi h=>h.IsTupleIter it a i) where
 mem:=by simp
 obj:=λi h st b hb=>by
  have e:b=it:=by simpa using hb
  subst e
  obtain⟨o,e,c,d⟩:=st
  exact⟨o,e,λv z=>by rw[d] at z;cases z⟩
 keep:=λi h h' st k=>st.at λo e=>k it (by simp) o e
 item:=by
  intro X hP hw hK hc i pins s σ H E I hf st hg
  subst hP hw hK
  obtain⟨xs,x,hq,hx⟩:=hg
  obtain⟨its,rv,p,hz⟩:=I.tuple hq
  obtain⟨u,hu,ru⟩:=rv.get hx
  obtain⟨f0,f1,f2,f3,f4,f5⟩:=hf it (by simp)
  refine wpAny_pyNext_tuple_item st (show s.heap.IsTuple a its.toArray from p) (x:=u) (by simpa using hu) λh' st' sb=>?_
  have I1:Inv X pins σ H {s with heap:=h'}:=I.turned (t':=s.toks) (λb o hb e=>(sb.2 b hb).trans e) f0 f1 f3 f4 f5
  obtain⟨o,e,c,d⟩:=id st'
  exact⟨u,rfl,zlr (s:={s with heap:=h'}) e c d (by decide) ⟨x,H,I1,ru,⟨rfl,λys hy=>by rw[I.tuple_inj hy hq];exact hx⟩,st',λb hb=>(hf b hb).1⟩⟩
 done:=by
  intro X hP hw hK hc i pins s σ H E I hf st hg
  subst hP hw hK
  obtain⟨xs,hq,hx⟩:=hg
  obtain⟨its,rv,p,hz⟩:=I.tuple hq
  obtain⟨f0,f1,f2,f3,f4,f5⟩:=hf it (by simp)
  have hl:=rv.length
  exact wpAny_pyNext_tuple_end (I.ok.hd hc) st (show s.heap.IsTuple a its.toArray from p) (by simp;omega) λh' eb=>⟨rfl,I.turned (t':=s.toks) (λb o hb e=>eb b o hb e) f0 f1 f3 f4 f5⟩
 self:=λ_ _ _ _ _ st h=>wpAny_pyIter_tupleiter st h
theorem zjv {P:Program}{w:World}{K:Fg}{tg:Expr}(it:Addr)(lo:Int)(n:Nat):Turn P w K tg (Itr lo n) [it] it (λi h=>IsRangeIter h it (lo+(i:Nat) * 1) ((n:Int) - (i:Nat)) 1) where
 mem:=by simp
 obj:=λi h st b hb=>by
  have e:b=it:=by simpa using hb
  subst e
  exact⟨_,st,λv z=>by
   have z':Data.fields _=Data.cell v:=z
   cases z'⟩
 keep:=λi h h' st k=>k it (by simp) _ st
 item:=by
  intro X hP hw hK hc i pins s σ H E I hf st hg
  subst hP hw hK
  obtain⟨f0,f1,f2,f3,f4,f5⟩:=hf it (by simp)
  have W:=Walks.range (prog:=X.prog) (w:=X.w) (I.ok.hd hc) it lo 1 n
  refine W.item i s _ _ hg st λv h' tk hv st' kk=>?_
  obtain⟨t,rfl⟩:=hv
  have I1:Inv X pins σ H {s with heap:=h',toks:=tk}:=I.turned (λb o hb e=>kk b o (by simpa using hb) e) f0 f1 f3 f4 f5
  refine⟨_,rfl,zlr (s:={s with heap:=h',toks:=tk}) (n:="range_iterator") st' rfl rfl (by decide) ⟨.int (lo+i),H,I1,⟨t,?_⟩,⟨rfl,rfl⟩,st',λb hb=>(hf b hb).1⟩⟩
  rw[Int.mul_one]
 done:=by
  intro X hP hw hK hc i pins s σ H E I hf st hg
  subst hP hw hK
  obtain⟨f0,f1,f2,f3,f4,f5⟩:=hf it (by simp)
  exact wpAny_pyNext_range_end (I.ok.hd hc) st (by have:n<=i:=hg;omega) λh' eb=>⟨rfl,I.turned (t':=s.toks) (λb o hb e=>eb b o hb e) f0 f1 f3 f4 f5⟩
 self:=λ_ _ _ _ _ st h=>wpAny_pyIter_rangeiter st h
end L2

namespace L2
open PySem PySem.Spec PyProof.Rows
section
variable {X:Cx}{tg:Expr}
def zke (K:Fg)(tl:TE):TI:=λσ H R=>tl σ H λx H1=>∃ a,x=.ref a/\(∃ xs,SqL K H1 a xs)/\R (Itl K a) H1
def iTup (K:Fg)(tl:TE):TI:=λσ H R=>tl σ H λx H1=>∃ a,x=.ref a/\(∃ xs,SqT K H1 a xs)/\R (Itt K a) H1
theorem zmW {l:Expr}{tl:TE}(hl:PE X l tl):PI X tg l (zke X.K tl):=by
 intro pins s σ H R I h
 refine thn (hl pins s σ H _ I h) λv s1 ⟨x,H1,I1,r1,q1⟩=>?_
 obtain⟨a,e,⟨xs,hq⟩,q⟩:=q1
 subst e
 cases r1
 obtain⟨its,rv,p,hz⟩:=I1.list hq
 refine wpAny_pyIter_list p.isList ?_
 refine⟨s1.heap.objs.size,[s1.heap.objs.size],_,_,H1,rfl,I1.kept (t':=s1.toks) λb o e=>Heap.get?_push_of_some _ e,zhy a _,⟨_,Heap.get?_push_size _ rfl,rfl,rfl⟩,λb hb=>?_,q⟩
 have e:b=s1.heap.objs.size:=by simpa using hb
 subst e
 exact I1.fpOk (Nat.le_refl _) (I1.hok.fresh (Nat.le_refl _))
theorem zn9 {l:Expr}{tl:TE}(hl:PE X l tl):PI X tg l (iTup X.K tl):=by
 intro pins s σ H R I h
 refine thn (hl pins s σ H _ I h) λv s1 ⟨x,H1,I1,r1,q1⟩=>?_
 obtain⟨a,e,⟨xs,hq⟩,q⟩:=q1
 subst e
 cases r1
 obtain⟨its,rv,p,hz⟩:=I1.tuple hq
 refine wpAny_pyIter_tuple (show s1.heap.IsTuple a its.toArray from p) ?_
 refine⟨s1.heap.objs.size,[s1.heap.objs.size],_,_,H1,rfl,I1.kept (t':=s1.toks) λb o e=>Heap.get?_push_of_some _ e,zju a _,⟨_,Heap.get?_push_size _ rfl,rfl,rfl⟩,λb hb=>?_,q⟩
 have e:b=s1.heap.objs.size:=by simpa using hb
 subst e
 exact I1.fpOk (Nat.le_refl _) (I1.hok.fresh (Nat.le_refl _))
theorem zls {pins:List (Addr × Obj)}{σ:St}{H:Hp}{s:Shared}{R:It->Hp->Prop}{E:Value->Shared->Prop}{lo hi:Int}{t u v:Tok}{tk:Nat}(I:Inv X pins σ H s)(h1:-(2 ^ 62)<=lo)(h2:lo<2 ^ 62)(h3:-(2 ^ 62)<=hi)(h4:hi<2 ^ 62)
  (q:R (Itr lo (hi - lo).toNat) H):wpAny (model X.prog X.w) X.A (pyIter (.ref s.heap.objs.size)) (PIE X pins σ tg R) E {s with heap:=s.heap.push {cls:=.type "range",data:=.fields #[.int lo t,.int hi u,.int 1 v]},toks:=tk}:=by
 refine wpAny_pyIter_range (IsRange.new ..) (small_one h1 h2 h3 h4) ?_
 have I1:Inv X pins σ H {s with heap:=s.heap.push {cls:=.type "range",data:=.fields #[.int lo t,.int hi u,.int 1 v]},toks:=tk}:=I.kept λb o e=>Heap.get?_push_of_some _ e
 refine⟨(s.heap.push {cls:=.type "range",data:=.fields #[.int lo t,.int hi u,.int 1 v]}).objs.size,[(s.heap.push {cls:=.type "range",data:=.fields #[.int lo t,.int hi u,.int 1 v]}).objs.size],_,_,H,rfl,
  I1.kept (t':=tk) λb o e=>Heap.get?_push_of_some _ e,zjv _ lo (hi - lo).toNat,?_,λb hb=>?_,q⟩
 ·have e1:lo+((0:Nat):Int) * 1=lo:=by simp
  have e2:(((hi - lo).toNat:Nat):Int) - ((0:Nat):Int)=Builtin.Range.rangeSize lo hi 1:=by rw[rangeSize_one];split <;> omega
  show IsRangeIter _ _ (lo+((0:Nat):Int) * 1) ((((hi - lo).toNat:Nat):Int) - ((0:Nat):Int)) 1
  rw[e1,e2]
  exact Heap.get?_push_size _ rfl
 ·have e:b=(s.heap.push {cls:=.type "range",data:=.fields #[.int lo t,.int hi u,.int 1 v]}).objs.size:=by simpa using hb
  subst e
  exact I1.fpOk (Nat.le_refl _) (I1.hok.fresh (Nat.le_refl _))
def zoa (ta:TA):TI:=λσ H R=>ta σ H λvs H1=>∃ j:Int,vs=[.int j]/\-(2 ^ 62)<=j/\j<2 ^ 62/\R (Itr 0 j.toNat) H1
theorem zcx {a:Expr}{ta:TA}{p pos:Pos}(hg:Gl X "range")(hm:X.mg "range"=none)(ha:PA X [a] ta)(hs:starEach [a] X.env=[(false,eval a X.env)]:=by rfl):PI X tg (.Call (.Name "range" p) [a] [] pos) (zoa ta):=by
 intro pins s σ H R I h
 refine Call_ (zgy I hg hm boot_range (PyProof.Rows.callWith_type1 (thn (ha pos pins s σ H _ I h) λus s1 ⟨vs,H1,I1,r1,q1⟩=>?_) hs rfl))
 obtain⟨j,e,q1,q2,q⟩:=q1
 subst e
 cases r1 with
 | cons r rr=>
  cases rr
  obtain⟨t,rfl⟩:=r
  exact call_range_1 (zls I1 (by omega) (by omega) q1 q2 (by simpa using q))
def tFor (wi:TI)(g:TG)(tb:TS):TS:=λD σ H=>wi σ H λJ H1=>∃ W:Nat->Nat->St->Hp->Prop,(∃ m,W 0 m σ H1)/\∀ i m σ H,W i m σ H->
 (J.stop i H/\D.nx σ H)\/(J.go i H/\∃ N:St->Hp->Prop,(∀ σ' H',N σ' H'->∃ m',m'<m/\W (i+1) m' σ' H')/\∀ x H',J.yld i H x H'->g x σ H' λσ2 H2=>tb {D with nx:=N,ct:=N,bk:=D.nx} σ2 H2)
def zgz (fp:List Addr)(h:Heap):List (Addr × Obj):=fp.filterMap λb=>(h.get? b).map λo=>(b,o)
theorem zcu {fp:List Addr}{h:Heap}{b:Addr}{o:Obj}(hb:b∈fp)(e:h.get? b=some o):(b,o)∈zgz fp h:=List.mem_filterMap.mpr ⟨b,hb,by rw[e];rfl⟩
theorem zkf {fp:List Addr}{h:Heap}{p:Addr × Obj}(hp:p∈zgz fp h):p.1∈fp/\h.get? p.1=some p.2:=by
 obtain⟨b,hb,e⟩:=List.mem_filterMap.mp hp
 cases q:h.get? b with
 | none=>rw[q] at e;cases e
 | some o=>
  rw[q] at e
  have e':(b,o)=p:=Option.some.inj e
  subst e'
  exact⟨hb,q⟩
theorem Inv.pinned {pins:List (Addr × Obj)}{σ:St}{H:Hp}{s:Shared}{fp:List Addr}(I:Inv X pins σ H s)(hf:∀ b∈fp,FpOk X pins H b)(ho:∀ b∈fp,∃ o,s.heap.get? b=some o/\∀ v,o.data≠.cell v):Inv X (pins++zgz fp s.heap) σ H s:=
 I.pins_of λp hp=>(zma.mp hp).elim (λz=>I.pin p (List.mem_append_right _ z)) λz=>by
  obtain⟨hb,e⟩:=zkf z
  obtain⟨f0,f1,f2,_⟩:=hf p.1 hb
  obtain⟨o,e',d⟩:=ho p.1 hb
  rw[e] at e';cases e'
  exact⟨e,f0,f1,f2,d⟩
theorem Inv.unpinned {pins pl:List (Addr × Obj)}{σ:St}{H:Hp}{s:Shared}(I:Inv X (pins++pl) σ H s):Inv X pins σ H s:=I.pins_of λp hp=>I.pin p (List.mem_append_right _ (List.mem_append_left _ hp))
theorem zcM {iter:Expr}{body:List Stmt}{wi:TI}{g:TG}{tb:TS}{pos:Pos}(hp:PassesOwn (model X.prog X.w) X.A X.env X.xe)(hc:X.calm=true)(hi:PI X tg iter wi)(hg:PG X tg g)(hb:PSs X body tb)
  (hs:∀ x,foldedSetIterable iter X.env x=pure x:=by intro _;rfl):PS X (.For tg iter body [] pos) (tFor wi g tb):=by
 intro pins s σ H D I h
 refine wpAny_For (thn (hi pins s σ H _ I h) λv s1 h1=>thn h1 λitv s2 h2=>?_) hs
 obtain⟨it,fp,tn,J,H2,e,I2,T,st2,f2,W,⟨m0,w0⟩,turn⟩:=h2
 subst e
 -- what stays true of the iterator's objects through the loop
 have stat:∀ {H':Hp},(∀ b∈fp,H' b=none)->∀ b∈fp,FpOk X pins H' b:=λhn b hb=>⟨hn b hb,(f2 b hb).2⟩
 refine codeAny_forLoop_any (λn s'=>∃ i σ' H',Inv X pins σ' H' s'/\tn i s'.heap/\(∀ b∈fp,H' b=none)/\W i n σ' H') ?_ m0 ⟨0,σ,H2,I2,st2,λb hb=>(f2 b hb).1,w0⟩
 rintro n s3 ⟨i,σ3,H3,I3,st3,fr3,w3⟩
 rcases turn i n σ3 H3 w3 with ⟨stop,qn⟩ | ⟨go,N,hN,step⟩
 ·refine wpAny_passesOwn hp (thn (T.done X rfl rfl rfl hc i pins s3 σ3 H3 X.xe I3 (stat fr3) st3 stop) λr s4 ⟨hr,I4⟩=>?_)
  subst hr
  exact wpAny_execs_nil ⟨σ3,H3,I4,qn⟩
 ·refine wpAny_passesOwn hp (thn (T.item X rfl rfl rfl hc i pins s3 σ3 H3 X.xe I3 (stat fr3) st3 go) λr s4 ⟨u,hr,h4⟩=>?_)
  subst hr
  refine wpAny_passesOwn hp (thn h4 λ_ s5 ⟨x,H5,I5,r5,y5,st5,fr5⟩=>?_)
  have I5':=I5.pinned (stat fr5) (T.obj _ _ st5)
  refine wpAny_passesOwn hp (thn (hg _ s5 σ3 H5 x u _ I5' r5 (step x H5 y5)) λ_ s6 ⟨σ6,H6,I6,q6⟩=>?_)
  refine wpAny_passesOwn hp (thn (hb _ s6 σ6 H6 _ I6 q6) λf s7 q7=>?_)
  have again:∀ {σ7:St}{H7:Hp},Inv X (pins++zgz fp s5.heap) σ7 H7 s7->N σ7 H7->∃ m,m<n/\∃ i σ' H',Inv X pins σ' H' s7/\tn i s7.heap/\(∀ b∈fp,H' b=none)/\W i m σ' H':=λ{σ7 H7} I7 n7=>by
   obtain⟨m',hm,w7⟩:=hN σ7 H7 n7
   refine⟨m',hm,i+1,σ7,H7,I7.unpinned,T.keep _ _ _ st5 λb hb o e=>(I7.pin (b,o) (List.mem_append_right _ (List.mem_append_right _ (zcu hb e)))).1,λb hb=>?_,w7⟩
   obtain⟨o,e,d⟩:=T.obj _ _ st5 b hb
   exact (I7.pin (b,o) (List.mem_append_right _ (List.mem_append_right _ (zcu hb e)))).2.1
  cases f with
  | next=>obtain⟨σ7,H7,I7,n7⟩:=q7;exact again I7 n7
  | cont=>obtain⟨σ7,H7,I7,n7⟩:=q7;exact again I7 n7
  | brk=>obtain⟨σ7,H7,I7,q7⟩:=q7;exact⟨σ7,H7,I7.unpinned,q7⟩
  | ret v=>obtain⟨x7,σ7,H7,I7,r7,q7⟩:=q7;exact⟨x7,σ7,H7,I7.unpinned,r7,q7⟩
end

theorem zlt {K:Fg}{a:Addr}{xs:List V}{g:TG}{tb:TS}{D:Ends}{σ:St}{H:Hp}(Pv:Nat->St->Hp->Prop)(h0:Pv 0 σ H)(hl:∀ i σ H,i<=xs.length->Pv i σ H->SqL K H a xs)
  (hs:∀ i x σ H,xs[i]?=some x->Pv i σ H->g x σ H λσ2 H2=>tb {D with nx:=Pv (i+1),ct:=Pv (i+1),bk:=D.nx} σ2 H2) (hd:∀ σ H,Pv xs.length σ H->D.nx σ H) :
  ∃ W:Nat->Nat->St->Hp->Prop,(∃ m,W 0 m σ H)/\∀ i m σ H,W i m σ H->
   ((Itl K a).stop i H/\D.nx σ H)\/((Itl K a).go i H/\∃ N:St->Hp->Prop,(∀ σ' H',N σ' H'->∃ m',m'<m/\W (i+1) m' σ' H')/\∀ x H',(Itl K a).yld i H x H'->g x σ H' λσ2 H2=>tb {D with nx:=N,ct:=N,bk:=D.nx} σ2 H2):=by
 refine⟨λi m σ H=>m=xs.length - i/\i<=xs.length/\Pv i σ H,⟨xs.length,by simp,Nat.zero_le _,h0⟩,?_⟩
 rintro i m σ H ⟨rfl,hi,p⟩
 have q:=hl i σ H hi p
 by_cases hlt:i<xs.length
 ·refine .inr ⟨⟨xs,xs[i],q,by simp[hlt]⟩,Pv (i+1),λσ' H' p'=>⟨xs.length - (i+1),by omega,rfl,hlt,p'⟩,λx H' y=>?_⟩
  obtain⟨e,y⟩:=y
  subst e
  exact hs i x σ _ (y xs q) p
 ·have e:i=xs.length:=by omega
  subst e
  exact .inl ⟨⟨xs,q,Nat.le_refl _⟩,hd σ H p⟩
theorem zkg {lo:Int}{n:Nat}{g:TG}{tb:TS}{D:Ends}{σ:St}{H:Hp}(Pv:Nat->St->Hp->Prop)(h0:Pv 0 σ H)
  (hs:∀ i σ H,i<n->Pv i σ H->g (.int (lo+i)) σ H λσ2 H2=>tb {D with nx:=Pv (i+1),ct:=Pv (i+1),bk:=D.nx} σ2 H2) (hd:∀ σ H,Pv n σ H->D.nx σ H) :
  ∃ W:Nat->Nat->St->Hp->Prop,(∃ m,W 0 m σ H)/\∀ i m σ H,W i m σ H->
   ((Itr lo n).stop i H/\D.nx σ H)\/((Itr lo n).go i H/\∃ N:St->Hp->Prop,(∀ σ' H',N σ' H'->∃ m',m'<m/\W (i+1) m' σ' H')/\∀ x H',(Itr lo n).yld i H x H'->g x σ H' λσ2 H2=>tb {D with nx:=N,ct:=N,bk:=D.nx} σ2 H2):=by
 refine⟨λi m σ H=>m=n - i/\i<=n/\Pv i σ H,⟨n,by simp,Nat.zero_le _,h0⟩,?_⟩
 rintro i m σ H ⟨rfl,hi,p⟩
 by_cases hlt:i<n
 ·refine .inr ⟨hlt,Pv (i+1),λσ' H' p'=>⟨n - (i+1),by omega,rfl,hlt,p'⟩,λx H' y=>?_⟩
  obtain⟨e,y⟩:=y
  subst e y
  exact hs i σ _ hlt p
 ·have e:i=n:=by omega
  subst e
  exact .inl ⟨Nat.le_refl _,hd σ H p⟩
end L2

namespace L2
open PySem PySem.Spec PyProof.Rows

abbrev R2:=V->V->Hp->VK->Prop
def OpR (X:Cx)(f:Value->Value->Sem Value)(r:R2):Prop:=
 ∀ (pins:List (Addr × Obj)) (s:Shared) (σ:St) (H:Hp) (x y:V) (v u:Value) (Q:VK),Inv X pins σ H s->RelV x v->RelV y u->r x y H Q->
  wpAny (model X.prog X.w) X.A (f v u) (EP X pins σ Q) X.xe s
def UnR (X:Cx)(f:Value->Sem Value)(r:V->Hp->VK->Prop):Prop:=
 ∀ (pins:List (Addr × Obj)) (s:Shared) (σ:St) (H:Hp) (x:V) (v:Value) (Q:VK),Inv X pins σ H s->RelV x v->r x H Q->
  wpAny (model X.prog X.w) X.A (f v) (EP X pins σ Q) X.xe s
def zb2 (X:Cx)(f:Value)(r:List V->Hp->VK->Prop):Prop:=
 ∀ (pins:List (Addr × Obj)) (s:Shared) (σ:St) (H:Hp) (xs:List V) (us:List Value) (Q:VK),Inv X pins σ H s->Vals xs us->r xs H Q->
  wpAny (model X.prog X.w) X.A (call f us) (EP X pins σ Q) X.xe s
def TruR (X:Cx)(r:V->Hp->(Bool->Hp->Prop)->Prop):Prop:=
 ∀ (pins:List (Addr × Obj)) (s:Shared) (σ:St) (H:Hp) (x:V) (v:Value) (Q:Bool->Hp->Prop),Inv X pins σ H s->RelV x v->r x H Q->
  wpAny (model X.prog X.w) X.A (truthy v) (TP X pins σ Q) X.xe s
def tOp (r:R2)(ta tb:TE):TE:=λσ H Q=>ta σ H λx H1=>tb σ H1 λy H2=>r x y H2 Q
def tUn (r:V->Hp->VK->Prop)(ta:TE):TE:=λσ H Q=>ta σ H λx H1=>r x H1 Q
def rI (C:Int->Int->Prop)(g:Int->Int->V):R2:=λx y H Q=>∃ i j,x=.int i/\y=.int j/\C i j/\Q (g i j) H
def rI0 (g:Int->Int->V):R2:=λx y H Q=>∃ i j,x=.int i/\y=.int j/\Q (g i j) H
def rU (g:Int->V):V->Hp->VK->Prop:=λx H Q=>∃ i,x=.int i/\Q (g i) H
section
variable {X:Cx}{a b c:Expr}{ta tb tc:TE}{pos:Pos}

theorem binT (ha:PE X a ta)(hb:PE X b tb){pins:List (Addr × Obj)}{s:Shared}{σ:St}{H:Hp}{R:V->V->Hp->Prop}(I:Inv X pins σ H s)
  (h:ta σ H λx H1=>tb σ H1 λy H2=>R x y H2) {Q:Value->Shared->Prop}{f:Value->Value->Sem Value}
  (hf:∀ v u s2 x y H2,Inv X pins σ H2 s2->RelV x v->RelV y u->R x y H2->wpAny (model X.prog X.w) X.A (f v u) Q X.xe s2) :
  wpAny (model X.prog X.w) X.A (eval a X.env) (λv s₁=>wpAny (model X.prog X.w) X.A (eval b X.env) (λu s₂=>wpAny (model X.prog X.w) X.A (f v u) Q X.xe s₂) X.xe s₁) X.xe s:=by
 refine thn (ha pins s σ H _ I h) λv s1 ⟨x,H1,I1,r1,q1⟩=>?_
 refine thn (hb pins s1 σ H1 _ I1 q1) λu s2 ⟨y,H2,I2,r2,q2⟩=>?_
 exact hf v u s2 x y H2 I2 r1 r2 q2
theorem zaS {op:Operator}{r:R2}(ho:OpR X (binaryOp op) r)(ha:PE X a ta)(hb:PE X b tb):PE X (.BinOp a op b pos) (tOp r ta tb):=by
 intro pins s σ H Q I h
 exact wpAny_BinOp (binT ha hb I h λv u s2 x y H2 I2 rx ry q=>ho pins s2 σ H2 x y v u Q I2 rx ry q)
theorem zfp {op:UnaryOp}{r:V->Hp->VK->Prop}(ho:UnR X (unaryOp op) r)(ha:PE X a ta):PE X (.UnaryOp op a pos) (tUn r ta):=by
 intro pins s σ H Q I h
 exact UnaryOp_ (thn (ha pins s σ H _ I h) λv s1 ⟨x,H1,I1,r1,q1⟩=>ho pins s1 σ H1 x v Q I1 r1 q1)
theorem opI {f:Value->Value->Sem Value}{C:Int->Int->Prop}{g:Int->Int->Int}
  (rule:∀ (i j:Int) (t u:Tok) (s:Shared) (Q:Value->Shared->Prop) (E:Value->Shared->Prop),C i j->Q (.int (g i j) s.toks) {s with toks:=s.toks+1}->wpAny (model X.prog X.w) X.A (f (.int i t) (.int j u)) Q E s) :
  OpR X f (rI C λi j=>.int (g i j)):=by
 intro pins s σ H x y v u Q I rx ry h
 obtain⟨i,j,rfl,rfl,hc,q⟩:=h
 obtain⟨t,rfl⟩:=rx
 obtain⟨t',rfl⟩:=ry
 exact rule i j t t' s _ _ hc ⟨.int (g i j),H,I.tok _,⟨_,rfl⟩,q⟩
theorem opI0 {f:Value->Value->Sem Value}{g:Int->Int->Int}
  (rule:∀ (i j:Int) (t u:Tok) (s:Shared) (Q:Value->Shared->Prop) (E:Value->Shared->Prop),Q (.int (g i j) s.toks) {s with toks:=s.toks+1}->wpAny (model X.prog X.w) X.A (f (.int i t) (.int j u)) Q E s) :
  OpR X f (rI0 λi j=>.int (g i j)):=by
 intro pins s σ H x y v u Q I rx ry h
 obtain⟨i,j,rfl,rfl,q⟩:=h
 obtain⟨t,rfl⟩:=rx
 obtain⟨t',rfl⟩:=ry
 exact rule i j t t' s _ _ ⟨.int (g i j),H,I.tok _,⟨_,rfl⟩,q⟩
theorem opB0 {f:Value->Value->Sem Value}{g:Int->Int->Bool}
  (rule:∀ (i j:Int) (t u:Tok) (s:Shared) (Q:Value->Shared->Prop) (E:Value->Shared->Prop),Q (.bool (g i j)) s->wpAny (model X.prog X.w) X.A (f (.int i t) (.int j u)) Q E s) :
  OpR X f (rI0 λi j=>.bl (g i j)):=by
 intro pins s σ H x y v u Q I rx ry h
 obtain⟨i,j,rfl,rfl,q⟩:=h
 obtain⟨t,rfl⟩:=rx
 obtain⟨t',rfl⟩:=ry
 exact rule i j t t' s _ _ ⟨.bl (g i j),H,I,rfl,q⟩
def CDiv (i j:Int):Prop:=0<j/\j<1073741824
def CMul (i j:Int):Prop:=(-(2 ^ 64)<i/\i<2 ^ 64)\/(-(2 ^ 64)<j/\j<2 ^ 64)
theorem CMul.ok {i j:Int}(h:CMul i j):IntMulOk i j:=by
 rcases h with ⟨h1,h2⟩ | ⟨h1,h2⟩
 ·exact .of_left (intBits_le_64 h1 h2)
 ·exact .of_right (intBits_le_64 h1 h2)
theorem zob:OpR X (binaryOp .Add) (rI0 λi j=>.int (i+j)):=opI0 λ_ _ _ _ _ _ _ q=>add_int q
theorem zmo:OpR X (binaryOp .Sub) (rI0 λi j=>.int (i - j)):=opI0 λ_ _ _ _ _ _ _ q=>sub_int q
theorem zoc:OpR X (binaryOp .Mult) (rI CMul λi j=>.int (i * j)):=opI λ_ _ _ _ _ _ _ hc q=>mul_int q hc.ok
theorem zis:OpR X (binaryOp .FloorDiv) (rI CDiv λi j=>.int (i / j)):=opI λi j _ _ _ _ _ hc q=>by
 have h1:(0:Int)<j:=hc.1
 have h2:j<1073741824:=hc.2
 exact floordiv_int (by omega) (by rw[Int.fdiv_eq_ediv_of_nonneg i (by omega)];exact q) (.inl (PyProof.noPylong_small (by omega)))
theorem zej:OpR X (binaryOp .Mod) (rI (λ_ j=>0<j) λi j=>.int (i % j)):=opI λi j _ _ _ _ _ hc q=>by
 have h1:(0:Int)<j:=hc
 exact mod_int' (by omega) (by rw[Int.fmod_eq_emod_of_nonneg i (by omega)];exact q)
theorem unI {f:Value->Sem Value}{g:Int->Int}
  (rule:∀ (i:Int) (t:Tok) (s:Shared) (Q:Value->Shared->Prop) (E:Value->Shared->Prop),Q (.int (g i) s.toks) {s with toks:=s.toks+1}->wpAny (model X.prog X.w) X.A (f (.int i t)) Q E s) :
  UnR X f (rU λi=>.int (g i)):=by
 intro pins s σ H x v Q I rx h
 obtain⟨i,rfl,q⟩:=h
 obtain⟨t,rfl⟩:=rx
 exact rule i t s _ _ ⟨.int (g i),H,I.tok _,⟨_,rfl⟩,q⟩
theorem zdq:UnR X (unaryOp .USub) (rU λi=>.int (-i)):=unI λ_ _ _ _ _ q=>neg_int q
end

def scal:V->V->Bool
 | .non,.non=>true | .non,.int _=>true | .int _,.non=>true | .non,.bl _=>true | .bl _,.non=>true | .non,.str _=>true | .str _,.non=>true
 | .int _,.int _=>true | .bl _,.bl _=>true | .str _,.str _=>true | .byt _,.byt _=>true
 | .int _,.str _=>true | .str _,.int _=>true | .bl _,.str _=>true | .str _,.bl _=>true
 | _,_=>false
def rEq:R2:=λx y H Q=>scal x y=true/\Q (.bl (decide (x=y))) H
def rNe:R2:=λx y H Q=>scal x y=true/\Q (.bl (!decide (x=y))) H
theorem zkh {i j:Int} : decide (V.int i=V.int j)=(i == j):=by
 rw[Bool.eq_iff_iff]
 simp
theorem zmp {i j:Bool} : decide (V.bl i=V.bl j)=(i == j):=by
 rw[Bool.eq_iff_iff]
 simp
theorem zki {i j:Str} : decide (V.str i=V.str j)=(i == j):=by
 rw[Bool.eq_iff_iff]
 simp
theorem zkj {i j:Array UInt8} : decide (V.byt i=V.byt j)=(i.toList == j.toList):=by
 rw[Bool.eq_iff_iff]
 cases i
 cases j
 simp
section
variable {X:Cx}{a b c:Expr}{ta tb tc:TE}{pos:Pos}
theorem zaZ {pins:List (Addr × Obj)}{σ:St}{H:Hp}{s:Shared}{Q:VK}{k k':Bool}(I:Inv X pins σ H s)(q:Q (.bl k) H)(e:k=k'):EP X pins σ Q (.bool k') s:=by
 subst e
 exact⟨.bl k,H,I,rfl,q⟩
theorem zod:OpR X (compareOp .Eq) rEq:=by
 intro pins s σ H x y v u Q I rx ry h
 obtain⟨hs,q⟩:=h
 cases x with
 | non=>
  cases rx
  cases y with
  | non=>cases ry;exact PySem.EqNone.eq_none_none (zaZ I q (by simp))
  | bl j=>cases ry;exact PySem.EqNone.eq_none_bool (zaZ I q (by simp))
  | int j=>obtain⟨t',rfl⟩:=ry;exact PySem.EqNone.eq_none_int (zaZ I q (by simp))
  | str j=>obtain⟨t',rfl⟩:=ry;exact PySem.EqNone.eq_none_str (zaZ I q (by simp))
  | _=>exact absurd (show false=true from hs) Bool.false_ne_true
 | bl i=>
  cases rx
  cases y with
  | non=>cases ry;exact PySem.EqNone.eq_bool_none (zaZ I q (by simp))
  | bl j=>cases ry;exact eq_bool (zaZ I q zmp)
  | str j=>obtain⟨t',rfl⟩:=ry;exact PySem.EqMixed.eq_bool_str (zaZ I q (by simp))
  | _=>exact absurd (show false=true from hs) Bool.false_ne_true
 | int i=>
  obtain⟨t,rfl⟩:=rx
  cases y with
  | non=>cases ry;exact PySem.EqNone.eq_int_none (zaZ I q (by simp))
  | int j=>obtain⟨t',rfl⟩:=ry;exact eq_int (zaZ I q zkh)
  | str j=>obtain⟨t',rfl⟩:=ry;exact PySem.EqMixed.eq_int_str (zaZ I q (by simp))
  | _=>exact absurd (show false=true from hs) Bool.false_ne_true
 | str i=>
  obtain⟨t,rfl⟩:=rx
  cases y with
  | non=>cases ry;exact PySem.EqNone.eq_str_none (zaZ I q (by simp))
  | bl j=>cases ry;exact PySem.EqMixed.eq_str_bool (zaZ I q (by simp))
  | int j=>obtain⟨t',rfl⟩:=ry;exact PySem.EqMixed.eq_str_int (zaZ I q (by simp))
  | str j=>obtain⟨t',rfl⟩:=ry;exact eq_str (zaZ I q zki)
  | _=>exact absurd (show false=true from hs) Bool.false_ne_true
 | byt i=>
  obtain⟨t,rfl⟩:=rx
  cases y with
  | byt j=>obtain⟨t',rfl⟩:=ry;exact PySem.W.eq_bytes (zaZ I q zkj)
  | _=>exact absurd (show false=true from hs) Bool.false_ne_true
 | _=>cases y <;> exact absurd (show false=true from hs) Bool.false_ne_true
theorem op_ne:OpR X (compareOp .NotEq) rNe:=by
 intro pins s σ H x y v u Q I rx ry h
 obtain⟨hs,q⟩:=h
 cases x with
 | non=>
  cases rx
  cases y with
  | non=>cases ry;exact PySem.EqNone.ne_none_none (zaZ I q (by simp))
  | bl j=>cases ry;exact PySem.EqNone.ne_none_bool (zaZ I q (by simp))
  | int j=>obtain⟨t',rfl⟩:=ry;exact PySem.EqNone.ne_none_int (zaZ I q (by simp))
  | str j=>obtain⟨t',rfl⟩:=ry;exact PySem.EqNone.ne_none_str (zaZ I q (by simp))
  | _=>exact absurd (show false=true from hs) Bool.false_ne_true
 | bl i=>
  cases rx
  cases y with
  | non=>cases ry;exact PySem.EqNone.ne_bool_none (zaZ I q (by simp))
  | bl j=>cases ry;exact ne_bool (zaZ I q (congrArg not zmp))
  | str j=>obtain⟨t',rfl⟩:=ry;exact PySem.EqMixed.ne_bool_str (zaZ I q (by simp))
  | _=>exact absurd (show false=true from hs) Bool.false_ne_true
 | int i=>
  obtain⟨t,rfl⟩:=rx
  cases y with
  | non=>cases ry;exact PySem.EqNone.ne_int_none (zaZ I q (by simp))
  | int j=>obtain⟨t',rfl⟩:=ry;exact ne_int (zaZ I q (congrArg not zkh))
  | str j=>obtain⟨t',rfl⟩:=ry;exact PySem.EqMixed.ne_int_str (zaZ I q (by simp))
  | _=>exact absurd (show false=true from hs) Bool.false_ne_true
 | str i=>
  obtain⟨t,rfl⟩:=rx
  cases y with
  | non=>cases ry;exact PySem.EqNone.ne_str_none (zaZ I q (by simp))
  | bl j=>cases ry;exact PySem.EqMixed.ne_str_bool (zaZ I q (by simp))
  | int j=>obtain⟨t',rfl⟩:=ry;exact PySem.EqMixed.ne_str_int (zaZ I q (by simp))
  | str j=>obtain⟨t',rfl⟩:=ry;exact ne_str (zaZ I q (congrArg not zki))
  | _=>exact absurd (show false=true from hs) Bool.false_ne_true
 | byt i=>
  obtain⟨t,rfl⟩:=rx
  cases y with
  | byt j=>obtain⟨t',rfl⟩:=ry;exact PySem.W.ne_bytes (zaZ I q (congrArg not zkj))
  | _=>exact absurd (show false=true from hs) Bool.false_ne_true
 | _=>cases y <;> exact absurd (show false=true from hs) Bool.false_ne_true
theorem zkk:OpR X (compareOp .Lt) (rI0 λi j=>.bl (decide (i<j))):=opB0 λ_ _ _ _ _ _ _ q=>lt_int q
theorem zlu:OpR X (compareOp .LtE) (rI0 λi j=>.bl (decide (i<=j))):=opB0 λ_ _ _ _ _ _ _ q=>le_int q
theorem zmX:OpR X (compareOp .Gt) (rI0 λi j=>.bl (decide (j<i))):=opB0 λ_ _ _ _ _ _ _ q=>gt_int q
theorem zmq:OpR X (compareOp .Is) (λx y H Q=>y=.non/\Q (.bl (decide (x=.non))) H):=by
 intro pins s σ H x y v u Q I rx ry h
 obtain⟨rfl,q⟩:=h
 cases ry
 refine is_none_gen (zaZ I q ?_)
 cases x <;> first
  | (cases rx;rfl)
  | (obtain⟨t,rfl⟩:=rx;rfl)
theorem zmY:OpR X (compareOp .IsNot) (λx y H Q=>y=.non/\Q (.bl (!decide (x=.non))) H):=by
 intro pins s σ H x y v u Q I rx ry h
 obtain⟨rfl,q⟩:=h
 cases ry
 refine isnot_none_gen (zaZ I q ?_)
 cases x <;> first
  | (cases rx;rfl)
  | (obtain⟨t,rfl⟩:=rx;rfl)
theorem OpR.or {f:Value->Value->Sem Value}{r r':R2}(h:OpR X f r)(h':OpR X f r'):OpR X f (λx y H Q=>r x y H Q\/r' x y H Q):=by
 intro pins s σ H x y v u Q I rx ry q
 rcases q with q | q
 ·exact h pins s σ H x y v u Q I rx ry q
 ·exact h' pins s σ H x y v u Q I rx ry q
theorem zaD (b:Expr){op:CmpOp}(h:op≠.In:=by decide)(h2:op≠.NotIn:=by decide):behindInMarks op b=false:=by
 have e1:(op == CmpOp.In)=false:=by cases op <;> first | rfl | exact absurd rfl h
 have e2:(op == CmpOp.NotIn)=false:=by cases op <;> first | rfl | exact absurd rfl h2
 cases b <;> simp[behindInMarks,e1,e2]
theorem zba {op:CmpOp}{r:R2}(ho:OpR X (compareOp op) r)(ha:PE X a ta)(hb:PE X b tb)(hm:behindInMarks op b=false):PE X (.Compare a [op] [b] pos) (tOp r ta tb):=by
 intro pins s σ H Q I h
 exact wpAny_Compare1 (binT ha hb I h λv u s2 x y H2 I2 rx ry q=>ho pins s2 σ H2 x y v u Q I2 rx ry q) hm
def zoe (t:TE):TT:=λσ H Q=>t σ H λx H'=>∃ k,x=.bl k/\Q k H'
theorem zaM {op:CmpOp}{r:R2}(ho:OpR X (compareOp op) r)(ha:PE X a ta)(hb:PE X b tb)(hm:behindInMarks op b=false):PT X (.Compare a [op] [b] pos) (zoe (tOp r ta tb)):=by
 intro pins s σ H Q I h
 refine wpAny_isTrue_Compare1 (thn (ha pins s σ H _ I h) λv s1 ⟨x,H1,I1,r1,q1⟩=>thn (hb pins s1 σ H1 _ I1 q1) λu s2 ⟨y,H2,I2,r2,q2⟩=>
  thn (ho pins s2 σ H2 x y v u _ I2 r1 r2 q2) λc s3 ⟨z,H3,I3,r3,k,e,q3⟩=>?_) hm
 subst e
 cases r3
 exact wpAny_truthy_bool ⟨H3,I3,q3⟩
def zmr (r r':R2)(ta tb tc:TE):TE:=λσ H Q=>ta σ H λx H1=>tb σ H1 λy H2=>r x y H2 λz H3=>∃ k,z=.bl k/\
 (if k=true then tc σ H3 λw' H4=>r' y w' H4 Q else Q (.bl false) H3)
theorem zlv {op op':CmpOp}{r r':R2}(ho:OpR X (compareOp op) r)(ho':OpR X (compareOp op') r')(ha:PE X a ta)(hb:PE X b tb)(hc:PE X c tc)
  (hm:lastMarks [op,op'] [b,c]=false:=by with_unfolding_all rfl):PE X (.Compare a [op,op'] [b,c] pos) (zmr r r' ta tb tc):=by
 intro pins s σ H Q I h
 refine Compare_chain (thn (ha pins s σ H _ I h) λv s1 ⟨x,H1,I1,r1,q1⟩=>chain_link (thn (hb pins s1 σ H1 _ I1 q1) λu s2 ⟨y,H2,I2,r2,q2⟩=>
  thn (ho pins s2 σ H2 x y v u _ I2 r1 r2 q2) λd s3 ⟨z,H3,I3,r3,k,e,q3⟩=>?_)) hm
 subst e
 cases r3
 refine wpAny_truthy_bool ?_
 cases k with
 | false=>exact ite_ff ⟨.bl false,H3,I3,rfl,q3⟩
 | true=>exact ite_tt (chain_last (thn (hc pins s3 σ H3 _ I3 q3) λw' s4 ⟨z',H4,I4,r4,q4⟩=>ho' pins s4 σ H4 y z' u w' Q I4 r2 r4 q4))
def TruV (K:Fg)(x:V)(H:Hp)(k:Bool):Prop:=
 match x with
 | .non=>k=false
 | .bl b=>k=b
 | .int i=>k=(i != 0)
 | .str y=>y.length<=sizeLine/\k=((y.length:Int) != 0)
 | .byt y=>y.size<=sizeLine/\k=((y.size:Int) != 0)
 | .ref p=>(∃ xs,SqL K H p xs/\k=!xs.isEmpty)\/(∃ xs,SqT K H p xs/\k=!xs.isEmpty)\/∃ kvs,H p=some (.dK kvs)/\k=!kvs.isEmpty
 | _=>False
theorem zjw {κ:Type}{kvs:List (κ × V)}{vs:List (κ × Value)}(r:KV kvs vs):(!vs.isEmpty)=!kvs.isEmpty:=by
 cases r <;> rfl
theorem zgA {xs:List V}{its:List Value}(r:Vals xs its):(!its.toArray.isEmpty)=!xs.isEmpty:=by
 cases r <;> simp
theorem zgB:(sizeLine:Nat)<2 ^ 63:=by rw[sizeLine_eq];decide
theorem zof:TruR X (λx H Q=>∃ k,TruV X.K x H k/\Q k H):=by
 intro pins s σ H x v Q I rx h
 obtain⟨k,e,q⟩:=h
 have hl:=zgB
 have hs:sizeLine=16777216:=sizeLine_eq
 cases x with
 | non=>
  cases rx
  have e':k=false:=e
  subst e'
  exact truthy_none ⟨H,I,q⟩
 | bl b=>
  cases rx
  have e':k=b:=e
  subst e'
  exact wpAny_truthy_bool ⟨H,I,q⟩
 | int i=>
  obtain⟨t,rfl⟩:=rx
  have e':k=(i != 0):=e
  subst e'
  exact PySem.P.truthy_int ⟨H,I,q⟩
 | str y=>
  obtain⟨t,rfl⟩:=rx
  obtain⟨hy,e'⟩:y.length<=sizeLine/\k=((y.length:Int) != 0):=e
  subst e'
  exact PySem.P.truthy_str (by omega) ⟨H,I.tok _,q⟩
 | byt y=>
  obtain⟨t,rfl⟩:=rx
  obtain⟨hy,e'⟩:y.size<=sizeLine/\k=((y.size:Int) != 0):=e
  subst e'
  exact PySem.W.truthy_bytes (by omega) ⟨H,I.tok _,q⟩
 | ref p=>
  cases rx
  have e':(∃ xs,SqL X.K H p xs/\k=!xs.isEmpty)\/(∃ xs,SqT X.K H p xs/\k=!xs.isEmpty)\/∃ kvs,H p=some (.dK kvs)/\k=!kvs.isEmpty:=e
  rcases e' with ⟨xs,hx,e'⟩ | ⟨xs,hx,e'⟩ | ⟨kvs,hx,e'⟩
  ·subst e'
   obtain⟨its,r,pl,hz⟩:=I.list hx
   have hlen:=r.length
   exact wpAny_truthy_list pl.isList (by simp only[zst];omega) ⟨H,I.tok _,by rw[zgA r];exact q⟩
  ·subst e'
   obtain⟨its,r,pl,hz⟩:=I.tuple hx
   have hlen:=r.length
   exact truthy_tuple pl (by simp only[zst];omega) ⟨H,I.tok _,by rw[zgA r];exact q⟩
  ·subst e'
   obtain⟨hz,hS,vs,r,m⟩:kvs.length<=sizeLine/\(p == sysModules)=false/\∃ vs,KV kvs vs/\s.heap.DictOf (za2 X.prog X.w) p vs:=I.hok p _ hx
   have hlen:kvs.length=vs.length:=Paired.length r
   exact wpAny_truthy_dict hS m (by omega) ⟨H,I.tok _,by rw[zjw r];exact q⟩
 | _=>exact (show False from e).elim
theorem zlw (ha:PE X a ta)(he:∀ whole,isTrue a X.env whole=(do let v <-whole;standAt a.pos;holding [v] (truthy v))) :
  PT X a (λσ H Q=>ta σ H λx H'=>∃ k,TruV X.K x H' k/\Q k H'):=by
 intro pins s σ H Q I h
 exact isTrue_plain (thn (ha pins s σ H _ I h) λv s1 ⟨x,H1,I1,r1,q1⟩=>zof pins s1 σ H1 x v Q I1 r1 q1) (he _)
theorem zfq {x:V}{us:List Value}(r:Vals [x] us):∃ u,us=[u]/\RelV x u:=by
 cases r with
 | cons r1 r2=>cases r2;exact⟨_,rfl,r1⟩
theorem zog {x y:V}{us:List Value}(r:Vals [x,y] us):∃ u w',us=[u,w']/\RelV x u/\RelV y w':=by
 cases r with
 | cons r1 r2=>
  cases r2 with
  | cons r3 r4=>cases r4;exact⟨_,_,rfl,r1,r3⟩
theorem zkl (hc:X.calm=true):zb2 X (.builtin "min") (λxs H Q=>∃ i j,xs=[.int i,.int j]/\Q (.int (if j<i then j else i)) H):=by
 intro pins s σ H xs us Q I r h
 obtain⟨i,j,rfl,q⟩:=h
 obtain⟨u,w',rfl,⟨t,rfl⟩,⟨t',rfl⟩⟩:=zog r
 refine min_two_ints (I.ok.hd hc) λh' tk k=>⟨_,H,I.kept k,?_,q⟩
 by_cases hj:j<i
 ·rw[if_pos hj,if_pos hj];exact⟨_,rfl⟩
 ·rw[if_neg hj,if_neg hj];exact⟨_,rfl⟩
end
end L2

namespace L2
open PySem PySem.Spec PyProof.Rows

structure ObjM (h:Heap)(x dx C:Addr)(mA:Str->Option Value):Prop where
 obj:h.get? x=some (PySem.W.instObj C dx)
 ns:h.Ns1 dx mA
 ne:dx≠x
theorem zkm {h:Heap}{dx:Addr}{mA:Str->Option Value}(n:h.Ns1 dx mA):∃ od,h.get? dx=some od/\∀ name,PySem.W.lookIn name od=some (mA name):=by
 obtain⟨o,es,ep,ho,hd,hk,_,hm⟩:=n
 refine⟨o,ho,λname=>?_⟩
 have e:=hm name
 unfold nsFind findBy at e
 rw[<-Array.find?_toList] at e
 unfold PySem.W.lookIn
 rw[hd]
 dsimp only
 split
 ·rename_i y q
  rw[q] at e
  exact congrArg some e
 ·rename_i q
  rw[q] at e
  have a:es.toList.any (·.refKey)=false:=by
   rw[List.any_eq_false]
   intro y hy
   obtain⟨z,t,hkey⟩:=hk y (Array.mem_toList_iff.mp hy)
   simp[DictEntry.refKey,hkey]
  have a':¬ es.toList.any (·.refKey)=true:=by rw[a];exact Bool.false_ne_true
  rw[if_neg a']
  exact congrArg some e
theorem ObjM.look {h:Heap}{x dx C:Addr}{mA:Str->Option Value}(I:ObjM h x dx C mA):∃ od,PySem.W.InstAt h x (PySem.W.instObj C dx) C (some od)/\∀ name,PySem.W.lookIn name od=some (mA name):=
 let ⟨od,ho,hl⟩:=zkm I.ns
 ⟨od,⟨I.obj,rfl,rfl,ho⟩,hl⟩
section
variable {prog:Program}{w:World}{A:Around}{E:Value->Shared->Prop}{s:Shared}{K:Fg}{x dx C f:Addr}{mA:Str->Option Value}{name:Str}{v:Value}

theorem zmZ {expr:Bool}{Q:Value->Shared->Prop}(X:K.In s.heap)(I:ObjM s.heap x dx C mA)(hg:PySem.W.plainGet K C name=true)(hh:PySem.W.hasDictIn K C=true)
  (ha:PySem.W.findIn K (.ref C) name=some none) (hv:mA name=some v) (hv':PySem.W.handedIn v=true) (h:Q v {s with toks:=s.toks+1}) :
  wpAny (model prog w) A (getAttr (.ref x) name expr) Q E s:=by
 obtain⟨od,J,hl⟩:=I.look
 exact PySem.W.get_value X J (PySem.W.plainGet_of hg).1 (PySem.W.findObj_own hh ha rfl (by rw[hl,hv])) hv' h
theorem zlx {pl:Sem Bool}{Q:Value × List Value->Shared->Prop}(X:K.In s.heap)(I:ObjM s.heap x dx C mA)(hg:PySem.W.plainGet K C name=true)
  (hf:PySem.W.findIn K (.ref C) name=some (some (.ref f))) (ht:PySem.W.isFn K (.ref f)=true) (hv:mA name=none) (h:Q (.ref f,[.ref x]) s) :
  wpAny (model prog w) A (getMethod (.ref x) name pl) Q E s:=by
 obtain⟨od,J,hl⟩:=I.look
 exact PySem.W.method_fn X J (PySem.W.plainGet_of hg).1 (PySem.W.plainGet_of hg).2 hf (beq_iff_eq.mp ht) (by show (PySem.W.lookIn name od).map (·.isSome)=some false;rw[hl,hv];rfl) h
theorem zm0 {ns:List Str}{Q:Unit->Shared->Prop}(X:K.In s.heap)(I:ObjM s.heap x dx C mA)
  (hs:PySem.W.findIn K (.ref C) "__setattr__"=some (some (.builtin "object.__setattr__"))) (hp:PySem.W.plainOver K C=true) (ht:PySem.W.takerIn K C name=some none) (hh:PySem.W.hasDictIn K C=true)
  (hw:PySem.Within mA ns) (hsz:ns.length<=sizeLine)
  (h:∀ h',ObjM h' x dx C (λy=>if y=name then some v else mA y)->Heap.SameBut dx s.heap h'->Q () {s with heap:=h',toks:=s.toks+2}) :
  wpAny (model prog w) A (setAttr (.ref x) name v) Q E s:=by
 obtain⟨od,J,hl⟩:=I.look
 refine PySem.W.set_plain X J hs (PySem.W.osa_open (s:={s with toks:=s.toks+1}) (r:=none) X J hp ht λb=>?_)
 obtain⟨cd,hc,hd'⟩:=PySem.W.any_some hh
 have hx:s.heap.get? x=some ⟨.ref C,some dx,.plain,#[]⟩:=I.obj
 refine wpAny_bind (wpAny_pure (wpAny_bind (wpAny_bind (wpAny_loadPart hx (wpAny_bind (PySem.W.Looks.here (s:={s with toks:=s.toks+1}) (PySem.W.looks_clsIn X hc) ?_))))))
 rw[hd']
 refine wpAny_pure (a:=some dx) (wpAny_bind (wpAny_pure (wpAny_bind ?_)))
 refine wpAny_nsSet1 (s:={s with toks:=s.toks+1}) I.ns λh' hn2 hs2=>?_
 obtain⟨oD,esD,epD,hoD,hdD,hcD⟩:=hn2.count (PySem.Within.cons name v hw)
 refine wpAny_bind (wpAny_lookBehind hoD (by rw[hdD];exact pastItsLine_dict (Nat.le_trans hcD (by rw[List.length_cons];omega))) ?_)
 exact wpAny_pure (h _ ⟨(hs2.2 _ (Ne.symm I.ne)).trans I.obj,hn2,I.ne⟩ hs2)
theorem zly {R:Result->Shared->Prop}{vs:List Value}{kw:List (Str × Value)}(X:K.In s.heap)(hm:PySem.W.makesIn K C=true)
  (hi:PySem.W.findIn K (.ref C) "__init__"=some (some (.ref f))) (hf:PySem.W.typeIn K (.ref f)=some (.type "function"))
  (h:codeAny (model prog w) (A.under (.builtin "type.__call__" ⟨.ref C::vs,kw⟩)) (.call (.ref f) ⟨.ref (s.heap.objs.size+1)::vs,kw⟩) (PySem.W.InitBack (s.heap.objs.size+1) R)
   {s with heap:=(s.heap.push PySem.W.emptyDict).push (PySem.W.instObj C s.heap.objs.size)}) :
  codeAny (model prog w) A (.call (.ref C) ⟨vs,kw⟩) R s:=by
 obtain⟨hh,g,d,t,os⟩:=s
 exact PySem.W.make_core (PySem.W.makes_of X hm) (PySem.W.looks_findIn X hi) (λself=>PySem.W.bind_fn X self hf) (.inl rfl) h
end

def putF (f:Str)(v:V):List (Str × V)->List (Str × V)
 | []=>[(f,v)]
 | (g,x)::r=>if g=f then (g,v)::r else (g,x)::putF f v r
theorem zaE (f g:Str)(v:V):∀ fs:List (Str × V),(putF f v fs).lookup g=if g=f then some v else fs.lookup g
 | []=>by
  show List.lookup g [(f,v)]=_
  by_cases h:g=f
  ·have hb:(g == f)=true:=beq_iff_eq.mpr h
   simp only[List.lookup,hb,if_pos h]
  ·have hb:(g == f)=false:=beq_eq_false_iff_ne.mpr h
   simp only[List.lookup,hb,if_neg h]
 | (k,x)::r=>by
  have ih:=zaE f g v r
  rw[show putF f v ((k,x)::r)=(if k=f then (k,v)::r else (k,x)::putF f v r) from rfl]
  by_cases hk:k=f
  ·rw[if_pos hk]
   by_cases h:g=k
   ·have hb:(g == k)=true:=beq_iff_eq.mpr h
    simp only[List.lookup,hb,if_pos (h.trans hk)]
   ·have hb:(g == k)=false:=beq_eq_false_iff_ne.mpr h
    simp only[List.lookup,hb,if_neg (λe:g=f=>h (e.trans hk.symm))]
  ·rw[if_neg hk]
   by_cases h:g=k
   ·have hb:(g == k)=true:=beq_iff_eq.mpr h
    simp only[List.lookup,hb,if_neg (λe:g=f=>hk (h.symm.trans e))]
   ·have hb:(g == k)=false:=beq_eq_false_iff_ne.mpr h
    simp only[List.lookup,hb]
    exact ih
theorem zfr (f:Str)(v:V):∀ fs:List (Str × V),f∈(putF f v fs).map (·.1)/\∀ g,g∈fs.map (·.1)->g∈(putF f v fs).map (·.1)
 | []=>⟨by simp[putF],λg h=>by simp at h⟩
 | (k,x)::r=>by
  obtain⟨i1,i2⟩:=zfr f v r
  rw[show putF f v ((k,x)::r)=(if k=f then (k,v)::r else (k,x)::putF f v r) from rfl]
  by_cases hk:k=f
  ·rw[if_pos hk]
   subst hk
   exact⟨by simp,λg h=>by simpa using h⟩
  ·rw[if_neg hk]
   refine⟨?_,λg h=>?_⟩
   ·rw[zmc]
    exact List.mem_cons_of_mem _ i1
   ·rw[zmc] at h ⊢
    rcases List.mem_cons.mp h with e | e
    ·exact List.mem_cons.mpr (.inl e)
    ·exact List.mem_cons_of_mem _ (i2 g e)
theorem zd2 (f:Str)(v:V):∀ fs:List (Str × V),(putF f v fs).length<=fs.length+1
 | []=>by simp[putF]
 | (k,x)::r=>by
  have ih:=zd2 f v r
  rw[show putF f v ((k,x)::r)=(if k=f then (k,v)::r else (k,x)::putF f v r) from rfl]
  by_cases hk:k=f
  ·rw[if_pos hk,List.length_cons,List.length_cons];omega
  ·rw[if_neg hk,List.length_cons,List.length_cons];omega
theorem RelO.some_of {v:V}{o:Option Value}(r:RelO (some v) o):∃ u,o=some u/\RelV v u:=by
 cases o with
 | none=>exact (show False from r).elim
 | some u=>exact⟨u,rfl,r⟩
theorem RelO.none_of {o:Option Value}(r:RelO none o):o=none:=by
 cases o with
 | none=>rfl
 | some u=>exact (show False from r).elim
theorem zkn {v:V}{u:Value}(r:RelV v u):PySem.W.handedIn u=true:=by
 cases v with
 | non=>cases (show u=Value.none from r);rfl
 | bl b=>cases (show u=Value.bool b from r);rfl
 | int i=>obtain⟨t,e⟩:=(show ∃ t,u=Value.int i t from r);cases e;rfl
 | str x=>obtain⟨t,e⟩:=(show ∃ t,u=Value.str x t from r);cases e;rfl
 | byt b=>obtain⟨t,e⟩:=(show ∃ t,u=Value.bytes b t from r);cases e;rfl
 | flt b=>obtain⟨t,e⟩:=(show ∃ t,u=Value.float b t from r);cases e;rfl
 | ref a=>cases (show u=Value.ref a from r);rfl
 | ty n=>cases (show u=Value.type n from r);rfl
section
variable {P:Program}{w:World}{H H':Hp}{h h':Heap}{a C dx:Addr}{fs fs':List (Str × V)}
theorem zgU (hok:HOk P w H h)(e:H a=some (.ins C dx fs)):∃ mA,ObjM h a dx C mA/\(∀ f,RelO (fs.lookup f) (mA f))/\PySem.Within mA (fs.map (·.1))/\fs.length<=1000/\H dx=some (.own a):=by
 obtain⟨d,z,ne,ob,mA,n,r,q⟩:=(show zbv P w H h a (.ins C dx fs) from hok a _ e)
 exact⟨mA,⟨ob,n,ne⟩,r,q,z,d⟩
end

structure Cls (K:Fg)(C:Addr):Prop where
 pg:PySem.W.plainGet K C Str.empty=true
 hd:PySem.W.hasDictIn K C=true
 po:PySem.W.plainOver K C=true
 sa:PySem.W.findIn K (.ref C) "__setattr__"=some (some (.builtin "object.__setattr__"))
theorem Cls.get {K:Fg}{C:Addr}(c:Cls K C)(f:Str):PySem.W.plainGet K C f=true:=c.pg
def zdk (K:Fg)(C:Addr)(f:Str):Prop:=PySem.W.findIn K (.ref C) f=some none
theorem zdk.taker {K:Fg}{C:Addr}{f:Str}(n:zdk K C f):PySem.W.takerIn K C f=some none:=by
 unfold PySem.W.takerIn
 rw[show PySem.W.findIn K (.ref C) f=some none from n]
 rfl
structure Meth (K:Fg)(C:Addr)(m:Str)(f:Addr):Prop where
 at_:PySem.W.findIn K (.ref C) m=some (some (.ref f))
 fn:PySem.W.isFn K (.ref f)=true
 kp:PySem.W.keepIn K (.ref f)=true
section
variable {X:Cx}{pins:List (Addr × Obj)}{σ:St}{H:Hp}{s:Shared}{a C dx:Addr}{fs:List (Str × V)}{f:Str}{v:V}{A:Around}{E:Value->Shared->Prop}

theorem zjx {b:Bool}{Q:Value->Shared->Prop}(I:Inv X pins σ H s)(e:H a=some (.ins C dx fs))(c:Cls X.K C)(n:zdk X.K C f)(l:fs.lookup f=some v)
  (h:∀ u s',Inv X pins σ H s'->RelV v u->Q u s'):wpAny (model X.prog X.w) A (getAttr (.ref a) f b) Q E s:=by
 obtain⟨mA,O,r,_,_,_⟩:=zgU I.hok e
 obtain⟨u,hu,ru⟩:=RelO.some_of (v:=v) (o:=mA f) (by rw[<-l];exact r f)
 exact zmZ I.kIn O (c.get f) c.hd n hu (zkn ru) (h u _ (I.tok _) ru)
theorem zeJ {m:Str}{g:Addr}{pl:Sem Bool}{Q:Value × List Value->Shared->Prop}(I:Inv X pins σ H s)(e:H a=some (.ins C dx fs))(c:Cls X.K C)(k:Meth X.K C m g)(l:fs.lookup m=none)
  (h:Q (.ref g,[.ref a]) s):wpAny (model X.prog X.w) A (getMethod (.ref a) m pl) Q E s:=by
 obtain⟨mA,O,r,_,_,_⟩:=zgU I.hok e
 have hn:mA m=none:=RelO.none_of (by rw[<-l];exact r m)
 exact zlx I.kIn O (c.get m) k.at_ k.fn hn h
theorem zjy {y:V}{u:Value}{Q:Unit->Shared->Prop}(I:Inv X pins σ H s)(e:H a=some (.ins C dx fs))(c:Cls X.K C)(n:zdk X.K C f)(hl:fs.length<1000)(ry:RelV y u)
  (h:∀ s',Inv X pins σ (upd H a (.ins C dx (putF f y fs))) s'->Q () s'):wpAny (model X.prog X.w) A (setAttr (.ref a) f u) Q E s:=by
 obtain⟨mA,O,r,wi,_,ho⟩:=zgU I.hok e
 have hz:(fs.map (·.1)).length<=sizeLine:=by rw[zlm,sizeLine_eq];omega
 refine zm0 I.kIn O c.sa c.po n.taker c.hd wi hz λh' O' sb=>h _ ?_
 have hd:∃ o,h'.get? dx=some o:=let ⟨o,_,_,e',_⟩:=O'.ns;⟨o,e'⟩
 refine I.write (x:=a) (e:=dx) (by rw[e];exact True.intro) (.inr ho) (λb q hb z=>(sb.2 b hb).trans z) hd ?_
 refine⟨by rw[zam O.ne];exact ho,?_,O.ne,O'.obj,_,O'.ns,λg=>?_,λg hg=>?_⟩
 ·have:=zd2 f y fs;omega
 ·show RelO ((putF f y fs).lookup g) (if g=f then some u else mA g)
  rw[zaE]
  by_cases q:g=f
  ·rw[if_pos q,if_pos q];exact ry
  ·rw[if_neg q,if_neg q];exact r g
 ·by_cases q:g=f
  ·rw[q];exact (zfr f y fs).1
  ·refine (zfr f y fs).2 g (wi g λz=>hg ?_)
   show (if g=f then some u else mA g)=none
   rw[if_neg q];exact z
theorem Inv.made (I:Inv X pins σ H s):Inv X pins σ (upd (upd H s.heap.objs.size (.own (s.heap.objs.size+1))) (s.heap.objs.size+1) (.ins C s.heap.objs.size []))
  {s with heap:=(s.heap.push PySem.W.emptyDict).push (PySem.W.instObj C s.heap.objs.size)}:=by
 have e1:(s.heap.push PySem.W.emptyDict).get? s.heap.objs.size=some PySem.W.emptyDict:=Heap.get?_push_size s.heap rfl
 have e2:((s.heap.push PySem.W.emptyDict).push (PySem.W.instObj C s.heap.objs.size)).get? (s.heap.objs.size+1)=some (PySem.W.instObj C s.heap.objs.size):=by
  have:=Heap.get?_push_size (s.heap.push PySem.W.emptyDict) (o:=PySem.W.instObj C s.heap.objs.size) rfl
  rwa [Heap.size_push] at this
 have e3:(s.heap.push PySem.W.emptyDict).Ns s.heap.objs.size (λ_=>none):=⟨PySem.W.emptyDict,#[],_,e1,rfl,(λe he=>absurd he (by simp)),λ_=>rfl⟩
 have I1:=I.laid (a:=s.heap.objs.size) (o:=.own (s.heap.objs.size+1)) (h':=s.heap.push PySem.W.emptyDict) (t':=s.toks) (λb u q=>Heap.get?_push_of_some _ q) (Nat.le_refl _) ⟨_,e1⟩
 refine I1.laid (a:=s.heap.objs.size+1) (o:=.ins C s.heap.objs.size []) (t':=s.toks) (λb u q=>Heap.get?_push_of_some _ q) (Nat.le_of_eq (Heap.size_push _ _)) ?_
 have ne:s.heap.objs.size≠s.heap.objs.size+1:=Nat.ne_of_lt (Nat.lt_succ_self _)
 refine⟨by rw[zam ne,zac],Nat.zero_le _,ne,e2,λ_=>none,(Heap.Ns1.of_empty e3).at λo q=>Heap.get?_push_of_some _ q,λ_=>True.intro,λy hy=>absurd rfl hy⟩
theorem zm1 {prog:Program}{w:World}{env:Env}{e:Expr}{f:Str}{pos:Pos}{s:Shared}{Q:Value->Shared->Prop}(hb:attributeBase e f env (eval e env)=eval e env)
  (h:wpAny (model prog w) A (eval e env) (λo s₁=>wpAny (model prog w) A (getAttr o f true) Q E s₁) E s):wpAny (model prog w) A (eval (.Attribute e f pos) env) Q E s:=
 Attribute_any_ h (by rw[arm_eval_Attribute,hb])
end

inductive FldI (K:Fg)(f:Str)(x:V)(H:Hp)(Q:VK):Prop
 | mk (a C dx:Addr) (fs:List (Str × V)) (v:V) (e:x=.ref a) (ea:H a=some (.ins C dx fs)) (c:Cls K C) (n:zdk K C f) (l:fs.lookup f=some v) (q:Q v H):FldI K f x H Q
inductive FldS (K:Fg)(f:Str)(y x:V)(H:Hp)(P:Hp->Prop):Prop
 | mk (a C dx:Addr) (fs:List (Str × V)) (e:x=.ref a) (ea:H a=some (.ins C dx fs)) (c:Cls K C) (n:zdk K C f) (l:fs.length<1000) (q:P (upd H a (.ins C dx (putF f y fs)))):FldS K f y x H P
def tFld (K:Fg)(ta:TE)(f:Str):TE:=λσ H Q=>ta σ H λx H1=>FldI K f x H1 Q
def sFld (K:Fg)(ta tv:TE)(f:Str):TS:=λD σ H=>tv σ H λy H1=>ta σ H1 λx H2=>FldS K f y x H2 (D.nx σ)
section
variable {X:Cx}{o e value:Expr}{f:Str}{pos pos' tpos:Pos}{ta tv:TE}
theorem zoh (he:PE X e ta)(hb:attributeBase e f X.env (eval e X.env)=eval e X.env):PE X (.Attribute e f pos) (tFld X.K ta f):=by
 intro pins s σ H Q I h
 refine zm1 hb (thn (he pins s σ H _ I h) λu s1 ⟨x,H1,I1,rx,a,C,dx,fs,v,ex,ea,c,n,l,q⟩=>?_)
 subst ex
 obtain rfl:u=Value.ref a:=rx
 exact zjx I1 ea c n l λu' s2 I2 ru=>⟨v,H1,I2,ru,q⟩
theorem zgC (ha:PE X o ta)(hv:PE X value tv)(hs:swapsWith value (some (.Attribute o f pos')) pos.line X.env=pure false):PS X (.Assign [.Attribute o f pos'] value pos) (sFld X.K ta tv f):=by
 intro pins s σ H D I h
 refine plainObj_wpAny_Assign_Attribute (thn (hv pins s σ H _ I h) λu s1 ⟨y,H1,I1,ry,q⟩=>thn (ha pins s1 σ H1 _ I1 q) λov s2 ⟨x,H2,I2,rx,a,C,dx,fs,ex,ea,c,n,l,q2⟩=>?_) hs
 subst ex
 obtain rfl:ov=Value.ref a:=rx
 exact zjy I2 ea c n l ry λs3 I3=>⟨σ,_,I3,q2⟩
theorem zm2 {pl:Sem Bool}{m:Str}{apos:Pos}{args:List Expr}{pins:List (Addr × Obj)}{s:Shared}{σ:St}{H:Hp}{Q:Value->Shared->Prop}{te:TE}(he:PE X e te)(I:Inv X pins σ H s)
  (h:te σ H λx H1=>∃ a C dx fs g,x=.ref a/\H1 a=some (.ins C dx fs)/\Cls X.K C/\Meth X.K C m g/\fs.lookup m=none/\
   ∀ s1,Inv X pins σ H1 s1->wpAny (model X.prog X.w) X.A (callWith pos (.ref g) [.ref a] (backTo pos (starEach args X.env)) (backToKw pos (keywordEach [] X.env))) Q X.xe s1)
  (ht:eval (.Call (.Attribute e m apos) args [] pos) X.env=(do
   let ov <-eval e X.env
   standAt apos.atName
   let (f,first) <-holding [ov] (getMethod ov m pl)
   callWith pos f first (backTo pos (starEach args X.env)) (backToKw pos (keywordEach [] X.env)))) :
  wpAny (model X.prog X.w) X.A (eval (.Call (.Attribute e m apos) args [] pos) X.env) Q X.xe s:=by
 refine PySem.W.methodCall_KW (pl:=pl) (thn (he pins s σ H _ I h) λu s1 ⟨x,H1,I1,rx,a,C,dx,fs,g,ex,ea,c,k,l,q⟩=>?_) ht
 subst ex
 obtain rfl:u=Value.ref a:=rx
 exact zeJ I1 ea c k l (q s1 I1)
end

section
variable {X:Cx}{pins:List (Addr × Obj)}{σ:St}{H:Hp}{s:Shared}{A:Around}{E:Value->Shared->Prop}{Q:Value->Shared->Prop}{c:Value}{b:Bool}
inductive TyOf (K:Fg)(H:Hp):V->Value->Prop where
 | non:TyOf K H .non (.type "NoneType")
 | bl (x:Bool):TyOf K H (.bl x) (.type "bool")
 | int (i:Int):TyOf K H (.int i) (.type "int")
 | str (x:Str):TyOf K H (.str x) (.type "str")
 | flt (x:UInt64):TyOf K H (.flt x) (.type "float")
 | lst {a:Addr}{xs:List V}(e:H a=some (.lst xs)):TyOf K H (.ref a) (.type "list")
 | frz {a:Addr}{o:Obj}{xs:List V}(e:H a=some (.frz o (.lst xs))):TyOf K H (.ref a) (.type "list")
 | tup {a:Addr}{xs:List V}(e:H a=some (.tup xs)):TyOf K H (.ref a) (.type "tuple")
 | dK {a:Addr}{kvs:List (Key × V)}(e:H a=some (.dK kvs)):TyOf K H (.ref a) (.type "dict")
 | dT {a:Addr}{kvs:List (List Key × V)}(e:H a=some (.dT kvs)):TyOf K H (.ref a) (.type "dict")
 | ins {a C dx:Addr}{fs:List (Str × V)}(e:H a=some (.ins C dx fs)) (cl:Cls K C) (ha:PySem.W.findIn K (.ref C) "__class__"=some (some (.builtin "object.__class__")))
   (hn:PySem.W.specialIn K (.builtin "object.__class__") "__get__"=some (some (.builtin "getset_descriptor.__get__"))) (htk:PySem.W.takesIn K (.builtin "object.__class__")=some true)
   (hm:PySem.W.mroIn K C (.type "object")=some true):TyOf K H (.ref a) (.ref C)
theorem zko {x:V}{u t:Value}(I:Inv X pins σ H s)(rx:RelV x u)(ty:TyOf X.K H x t)(e:PySem.W.kitOne X.K t c=some b)(h:∀ tk,Q (.bool b) {s with toks:=tk}) :
  wpAny (model X.prog X.w) A (call (.builtin "isinstance") [u,c]) Q E s:=by
 cases ty with
 | non=>cases (show u=Value.none from rx);exact PySem.W.kia_one PySem.W.kitx_none I.kIn True.intro e (λz=>nomatch z) h
 | bl y=>cases (show u=Value.bool y from rx);exact PySem.W.kia_one PySem.W.kitx_bool I.kIn True.intro e (λz=>nomatch z) h
 | int i=>obtain⟨t,q⟩:=(show ∃ t,u=Value.int i t from rx);cases q;exact PySem.W.kia_one PySem.W.kitx_int I.kIn True.intro e (λz=>nomatch z) h
 | str y=>obtain⟨t,q⟩:=(show ∃ t,u=Value.str y t from rx);cases q;exact PySem.W.kia_one PySem.W.kitx_str I.kIn True.intro e (λz=>nomatch z) h
 | flt y=>obtain⟨t,q⟩:=(show ∃ t,u=Value.float y t from rx);cases q;exact PySem.W.kia_one PySem.W.kitx_float I.kIn True.intro e (λz=>nomatch z) h
 | @lst a xs ea=>
  cases (show u=Value.ref a from rx)
  obtain⟨_,_,n,_,h1⟩:=(show zbv X.prog X.w H s.heap a (.lst xs) from I.hok a _ ea)
  exact PySem.W.kia_one PySem.W.kitx_list I.kIn ⟨_,h1,rfl⟩ e (λz=>nomatch z) h
 | @frz a ob xs ea=>
  cases (show u=Value.ref a from rx)
  obtain⟨_,_,_,n,_,h1⟩:=(show zbv X.prog X.w H s.heap a (.frz ob (.lst xs)) from I.hok a _ ea)
  exact PySem.W.kia_one PySem.W.kitx_list I.kIn ⟨_,h1,rfl⟩ e (λz=>nomatch z) h
 | @tup a xs ea=>
  cases (show u=Value.ref a from rx)
  obtain⟨_,_,_,p⟩:=(show zbv X.prog X.w H s.heap a (.tup xs) from I.hok a _ ea)
  obtain⟨o,h1,h2,_⟩:=p
  exact PySem.W.kia_one PySem.W.kitx_tuple I.kIn ⟨o,h1,h2⟩ e (λz=>nomatch z) h
 | @dK a kvs ea=>
  cases (show u=Value.ref a from rx)
  obtain⟨_,_,vs,_,p⟩:=(show zbv X.prog X.w H s.heap a (.dK kvs) from I.hok a _ ea)
  obtain⟨o,es,ep,h1,h2,_⟩:=p
  exact PySem.W.kia_one PySem.W.kitx_dict I.kIn ⟨o,h1,h2.1⟩ e (λz=>nomatch z) h
 | @dT a kvs ea=>
  cases (show u=Value.ref a from rx)
  obtain⟨_,_,xs,_,o,es,ep,h1,h2,_⟩:=(show zbv X.prog X.w H s.heap a (.dT kvs) from I.hok a _ ea)
  exact PySem.W.kia_one PySem.W.kitx_dict I.kIn ⟨o,h1,h2.1⟩ e (λz=>nomatch z) h
 | @ins a C dx fs ea cl ha hn htk hm=>
  cases (show u=Value.ref a from rx)
  obtain⟨mA,O,_⟩:=zgU I.hok ea
  obtain⟨od,J,_⟩:=O.look
  exact PySem.W.kia_one (PySem.W.kitx_own (cl.get _) cl.hd ha hn htk hm) I.kIn J e (λz=>nomatch z) h
end
end L2

namespace L2
open PySem PySem.Spec PyProof.Rows

structure Room (k:Nat)(A:Around):Prop where
 hd:A.handled=none
 dp:A.depth+3 * k+5<recursionLimit
 un:A.units+16 * k+200<cLine
 gd:A.guards=some []
theorem Room.mono {j k:Nat}{A:Around}(r:Room k A)(h:j<=k):Room j A:=⟨r.hd,by have:=r.dp;omega,by have:=r.un;omega,r.gd⟩
theorem Room.deeper {k:Nat}{A:Around}(r:Room (k+1) A)(env:Env):Room k (A.deeper env):=
 ⟨r.hd,by have:=r.dp;show A.depth+1+3 * k+5<_;omega,by have:=r.un;show A.units+3+16 * k+200<_;omega,r.gd⟩
theorem zjz {A:Around}{C:Addr}{us:List Value}{kw:List (Str × Value)} : (A.under (.builtin "type.__call__" ⟨.ref C::us,kw⟩)).depth=A.depth+1:=by
 first | rfl | simp[Around.under,Code.weight,Code.isCreation,Code.isGuard,Code.isCaller,Code.frames,Code.isFrame,guardIds]
theorem zjA {A:Around}{C:Addr}{us:List Value}{kw:List (Str × Value)} : (A.under (.builtin "type.__call__" ⟨.ref C::us,kw⟩)).units=A.units+1:=by
 first | rfl | simp[Around.under,Code.cUnits,Code.frames,Code.isFrame]
theorem zit {A:Around}{C:Addr}{us:List Value}{kw:List (Str × Value)}(h:A.guards=some []):(A.under (.builtin "type.__call__" ⟨.ref C::us,kw⟩)).guards=some []:=by
 simp[Around.under,Code.guards,Code.isGuard,guardIds,pushGuards,h]
theorem Room.make {k:Nat}{A:Around}(r:Room (k+1) A)(C:Addr)(us:List Value)(kw:List (Str × Value)):Room k (A.under (.builtin "type.__call__" ⟨.ref C::us,kw⟩)):=
 ⟨r.hd,by have:=r.dp;rw[zjz];omega,by have:=r.un;rw[zjA];omega,zit r.gd⟩
theorem Room.depth {k:Nat}{A:Around}(r:Room k A):A.depth<recursionLimit:=by have:=r.dp;omega
theorem Room.units {k:Nat}{A:Around}(r:Room k A):A.units+64<cLine:=by have:=r.un;omega
def tNil:TA:=λ_ H Q=>Q [] H
def zek (ta:TE)(tr:TA):TA:=λσ H Q=>ta σ H λx H1=>tr σ H1 λxs H2=>Q (x::xs) H2
section
variable {X:Cx}{e:Expr}{es:List Expr}{te:TE}{t:TA}{pos:Pos}
theorem zaa:PA X [] tNil:=λ_ _ _ _ H Q I h=>Calls.spliced_nil ⟨[],H,I,.nil,h⟩
theorem zbd (ha:PE X e te)(hr:PA X es t)(hs:starEach (e::es) X.env=(false,eval e X.env)::starEach es X.env:=by rfl):PA X (e::es) (zek te t):=by
 intro pos pins s σ H Q I h
 rw[hs]
 show wpAny _ _ (spliced ((false,eval e X.env)::backTo pos (starEach es X.env))) _ _ s
 refine Calls.spliced_cons (thn (ha pins s σ H _ I h) λu s1 ⟨x,H1,I1,r1,q1⟩=>?_)
 exact thn (hr pos pins s1 σ H1 _ I1 q1) λus s2 ⟨xs,H2,I2,r2,q2⟩=>⟨x::xs,H2,I2,.cons r1 r2,q2⟩
def tTup (t:TA):TE:=λσ H Q=>t σ H λxs H1=>xs.length<=sizeLine/\∀ p,H1 p=none->Q (.ref p) (upd H1 p (.tup xs))
def tLst (t:TA):TE:=λσ H Q=>t σ H λxs H1=>xs.length<=sizeLine/\∀ p,H1 p=none->Q (.ref p) (upd H1 p (.lst xs))
theorem zdT {x1}(h:PA X es t):PE X (.Tuple es x1 pos) (tTup t):=by
 intro pins s σ H Q I hq
 refine wpAny_Tuple_spliced (thn (h pos pins s σ H _ I hq) λus s1 ⟨xs,H1,I1,r,z,q⟩=>⟨by rw[<-r.length];exact z,?_⟩)
 have hf:H1 s1.heap.objs.size=none:=I1.hok.fresh (Nat.le_refl _)
 refine⟨.ref s1.heap.objs.size,upd H1 s1.heap.objs.size (.tup xs),I1.laid (t':=s1.toks) (λb u e=>Heap.get?_push_of_some _ e) (Nat.le_refl _) ?_,rfl,q _ hf⟩
 exact⟨z,us,r,⟨_,Heap.get?_push_size _ rfl,rfl,_,rfl⟩⟩
theorem zaL (h:PA X es t):PE X (.List es pos) (tLst t):=by
 intro pins s σ H Q I hq
 refine wpAny_List_spliced (thn (h pos pins s σ H _ I hq) λus s1 ⟨xs,H1,I1,r,z,q⟩=>⟨by rw[<-r.length];exact z,?_⟩)
 have hf:H1 s1.heap.objs.size=none:=I1.hok.fresh (Nat.le_refl _)
 refine⟨.ref s1.heap.objs.size,upd H1 s1.heap.objs.size (.lst xs),I1.laid (t':=s1.toks) (λb u e=>Heap.get?_push_of_some _ e) (Nat.le_refl _) ?_,rfl,q _ hf⟩
 exact⟨z,us,0,r,Heap.get?_push_size _ rfl⟩
end

abbrev Sp:=List V->Hp->VK->XK->Prop
abbrev CXT:=List Env->Hp->Shared->XK->Value->Shared->Prop
structure Env0 (P:Program)(w:World)(K:Fg)(mg:Str->Option Value)(base:Heap)(A:Around)(outer:List Env)(s:Shared)(H:Hp):Prop where
 frames:A.frames=some outer
 mod:Mod K mg base
 bs:∀ b o,base.get? b=some o->s.heap.get? b=some o/\H b=none
 bsz:base.objs.size<=s.heap.objs.size
 funs:s.heap.FunFrames base outer
 frf:∀ b∈frs outer,H b=none
 hok:HOk P w H s.heap
 bare:AllBare s.gens
def CE (outer:List Env)(P:Program)(w:World)(H:Hp)(s:Shared)(Q:VK)(u:Value)(s':Shared):Prop:=
 ∃ v H',s'.os=s.os/\AllBare s'.gens/\Un (frs outer) [] H H' s.heap s'.heap/\HOk P w H' s'.heap/\RelV v u/\Q v H'
def CR (CX:CXT)(outer:List Env)(P:Program)(w:World)(H:Hp)(s:Shared)(Q:VK)(E:XK)(r:Result)(s':Shared):Prop:=
 match r with
 | .ok (.ret u)=>CE outer P w H s Q u s'
 | .ok _=>False
 | .error e=>CX outer H s E e s'
structure FnOk (P:Program)(w:World)(K:Fg)(mg:Str->Option Value)(base:Heap)(CX:CXT)(k:Nat)(f:Addr)(fd:FuncData)(ps:List Str)(sp:Sp):Prop where
 len:∀ vs H Q E,sp vs H Q E->vs.length=ps.length
 run:∀ (A:Around) (outer:List Env) (s:Shared) (H:Hp) (args:Args) (us:List Value) (vs:List V) (Q:VK) (E:XK),Room k A->Env0 P w K mg base A outer s H->BindsTo s fd args (ps.zip us)->Vals vs us->sp vs H Q E->
  codeAny (model P w) A (.call (.ref f) args) (CR CX outer P w H s Q E) s
theorem FnOk.mono {P:Program}{w:World}{K:Fg}{mg:Str->Option Value}{base:Heap}{CX:CXT}{j k:Nat}{f:Addr}{fd:FuncData}{ps:List Str}{sp:Sp}(F:FnOk P w K mg base CX j f fd ps sp)(h:j<=k) :
  FnOk P w K mg base CX k f fd ps sp:=⟨F.len,λA outer s H args us vs Q E hr=>F.run A outer s H args us vs Q E (hr.mono h)⟩
theorem Env0.make {P:Program}{w:World}{K:Fg}{mg:Str->Option Value}{base:Heap}{A:Around}{outer:List Env}{s:Shared}{H:Hp}(e:Env0 P w K mg base A outer s H)(C:Addr)(us:List Value)(kw:List (Str × Value)) :
  Env0 P w K mg base (A.under (.builtin "type.__call__" ⟨.ref C::us,kw⟩)) outer s H:=⟨by first | exact e.frames | (simpa [Around.under,Code.envs,Code.isFrame,pushEnvs] using e.frames),e.mod,e.bs,e.bsz,e.funs,e.frf,e.hok,e.bare⟩
section
variable {X:Cx}{pins:List (Addr × Obj)}{σ:St}{H:Hp}{s s':Shared}
theorem Inv.env0 (I:Inv X pins σ H s):Env0 X.prog X.w X.K X.mg X.base X.A X.stack s H:=
 ⟨I.ok.frames,I.ok.mod,I.bs,Nat.le_trans I.ok.bsz I.sz,I.stack,I.stkFree,I.hok,I.bare⟩
theorem Inv.after {Q:VK}{u:Value}(I:Inv X pins σ H s)(h:CE X.stack X.prog X.w H s Q u s'):EP X pins σ Q u s':=by
 obtain⟨v,H',os,bare,un,hok,r,q⟩:=h
 obtain⟨hh,g,d,t,os'⟩:=s'
 obtain rfl:os'=s.os:=os
 exact⟨v,H',I.call (h':=hh) (g':=g) (d':=d) (t':=t) (ch:=[]) un hok bare (λb z=>absurd z (by simp)),r,q⟩
end

def zhz (sp:Sp)(dvs:List V)(E:XK)(t:TA):TE:=λσ H Q=>t σ H λvs H1=>sp (vs++dvs) H1 Q E
inductive MethI (C:Addr)(m:Str)(x:V)(H:Hp)(P:Prop):Prop
 | mk (a dx:Addr) (fs:List (Str × V)) (e:x=.ref a) (ea:H a=some (.ins C dx fs)) (l:fs.lookup m=none) (q:P):MethI C m x H P
def zlz (C:Addr)(m:Str)(sp:Sp)(dvs:List V)(E:XK)(ta:TE)(t:TA):TE:=λσ H Q=>ta σ H λx H1=>MethI C m x H1 (t σ H1 λvs H2=>sp (x::(vs++dvs)) H2 Q E)
def zkp (C:Addr)(sp:Sp)(dvs:List V)(E:XK)(t:TA):TE:=λσ H Q=>t σ H λvs H1=>∀ x dx,H1 x=none->H1 dx=none->dx≠x->
 sp (.ref x::(vs++dvs)) (upd (upd H1 dx (.own x)) x (.ins C dx [])) (λv H2=>v=.non/\Q (.ref x) H2) E
def zdP (K:Fg)(fd:FuncData)(ps:List Str)(ds:List Value):Prop:=
 ∀ (s:Shared) (us:List Value),K.In s.heap->(us++ds).length=ps.length->BindsTo s fd ⟨us,[]⟩ (ps.zip (us++ds))
theorem zdP.all {K:Fg}{fd:FuncData}{ps:List Str}(h:∀ us:List Value,us.length=ps.length->bindArgs fd ⟨us,[]⟩=pure (ps.zip us)):zdP K fd ps []:=λs us _ hl=>by
 rw[List.append_nil] at hl ⊢
 exact .of_eq (h us hl)
def zdl (CX:CXT)(X:Cx)(E:XK):Prop:=∀ (pins:List (Addr × Obj)) (σ:St) (H:Hp) (s:Shared) (e:Value) (s':Shared),Inv X pins σ H s->CX X.stack H s E e s'->X.xe e s'
section
variable {X:Cx}{CX:CXT}{k:Nat}{f C:Addr}{fd:FuncData}{ps:List Str}{sp:Sp}{dvs:List V}{ds:List Value}{E:XK}{x m:Str}{p pos apos:Pos}{e o:Expr}{es:List Expr}{ta:TE}{t:TA}

theorem zmt {pins:List (Addr × Obj)}{σ:St}{H:Hp}{s:Shared}{Q:VK}{us:List Value}{vs:List V}(F:FnOk X.prog X.w X.K X.mg X.base CX k f fd ps sp)(hr:Room k X.A)(hb:zdP X.K fd ps ds)(hd:Vals dvs ds)(hx:zdl CX X E)
  (I:Inv X pins σ H s) (r:Vals vs us) (h:sp (vs++dvs) H Q E):wpAny (model X.prog X.w) X.A (call (.ref f) us) (EP X pins σ Q) X.xe s:=by
 have r2:Vals (vs++dvs) (us++ds):=r.append hd
 have hl:(us++ds).length=ps.length:=by rw[<-r2.length];exact F.len _ _ _ _ h
 refine wpAny_call (codeAny_mono (F.run X.A X.stack s H ⟨us,[]⟩ (us++ds) (vs++dvs) Q E hr I.env0 (hb s us I.kIn hl) r2 h) λr s' hq=>?_)
 cases r with
 | error e=>exact hx pins σ H s e s' I hq
 | ok fl=>
  cases fl with
  | ret u=>exact I.after hq
  | next=>exact False.elim hq
  | brk=>exact False.elim hq
  | cont=>exact False.elim hq
theorem zkq (F:FnOk X.prog X.w X.K X.mg X.base CX k f fd ps sp)(hr:Room k X.A)(hg:Gl X x)(hm:X.mg x=some (.ref f))(hk:PySem.W.keepIn X.K (.ref f)=true)(hb:zdP X.K fd ps ds)(hd:Vals dvs ds)(hx:zdl CX X E)
  (ha:PA X (e::es) t) (hdb:(x == ("__debug__" : Str))=false:=by decide) (he:starEach (e::es) X.env=(false,eval e X.env)::starEach es X.env:=by rfl) (hpl:(backTo pos (starEach es X.env)).any (·.1)=false:=by rfl) :
  PE X (.Call (.Name x p) (e::es) [] pos) (zhz sp dvs E t):=by
 intro pins s σ H Q I h
 refine wpAny_Call_Name_kw (zd1 I hg hm ?_ hdb)
 refine PySem.W.callWith_K (h₀:=X.base) I.ok.mod.kin hk (thn (ha pos pins s σ H _ I h) λus s1 ⟨vs,H1,I1,r,q⟩=>⟨I1.kIn,?_⟩) he hpl
 exact zmt F hr hb hd hx I1 r q
theorem zm3 {pl:Sem Bool}(he:PE X o ta)(c:Cls X.K C)(hm:Meth X.K C m f)(F:FnOk X.prog X.w X.K X.mg X.base CX k f fd ps sp)(hr:Room k X.A)(hb:zdP X.K fd ps ds)(hd:Vals dvs ds)(hx:zdl CX X E)(ha:PA X (e::es) t)
  (hst:starEach (e::es) X.env=(false,eval e X.env)::starEach es X.env:=by rfl) (hpl:(backTo pos (starEach es X.env)).any (·.1)=false:=by rfl)
  (ht:eval (.Call (.Attribute o m apos) (e::es) [] pos) X.env=(do
   let ov <-eval o X.env
   standAt apos.atName
   let (f,first) <-holding [ov] (getMethod ov m pl)
   callWith pos f first (backTo pos (starEach (e::es) X.env)) (backToKw pos (keywordEach [] X.env))):=by rfl) :
  PE X (.Call (.Attribute o m apos) (e::es) [] pos) (zlz C m sp dvs E ta t):=by
 intro pins s σ H Q I h
 refine PySem.W.methodCall_KW (pl:=pl) (thn (he pins s σ H _ I h) λu s1 ⟨x,H1,I1,rx,a,dx,fs,ex,ea,l,q⟩=>?_) ht
 subst ex
 obtain rfl:u=Value.ref a:=rx
 refine zeJ I1 ea c hm l ?_
 refine PySem.W.callWith_K (first:=[.ref a]) (h₀:=X.base) I.ok.mod.kin hm.kp (thn (ha pos pins s1 σ H1 _ I1 q) λus s2 ⟨vs,H2,I2,r,q2⟩=>⟨I2.kIn,?_⟩) hst hpl
 exact zmt (us:=.ref a::us) (vs:=.ref a::vs) F hr hb hd hx I2 (.cons rfl r) q2
structure Mk (K:Fg)(C f:Addr):Prop where
 makes:PySem.W.makesIn K C=true
 init:PySem.W.findIn K (.ref C) "__init__"=some (some (.ref f))
 fn:PySem.W.isFn K (.ref f)=true
 kp:PySem.W.keepIn K (.ref C)=true
theorem zi2 {pins:List (Addr × Obj)}{σ:St}{H:Hp}{s:Shared}{Q:VK}{us:List Value}{vs:List V}(M:Mk X.K C f)(F:FnOk X.prog X.w X.K X.mg X.base CX k f fd ps sp)(hr:Room (k+1) X.A)(hb:zdP X.K fd ps ds)(hd:Vals dvs ds)
  (hx:zdl CX X E) (I:Inv X pins σ H s) (r:Vals vs us)
  (h:∀ x dx,H x=none->H dx=none->dx≠x->sp (.ref x::(vs++dvs)) (upd (upd H dx (.own x)) x (.ins C dx [])) (λv H2=>v=.non/\Q (.ref x) H2) E) :
  wpAny (model X.prog X.w) X.A (call (.ref C) us) (EP X pins σ Q) X.xe s:=by
 have hq:=h (s.heap.objs.size+1) s.heap.objs.size (I.hok.fresh (Nat.le_succ _)) (I.hok.fresh (Nat.le_refl _)) (Nat.ne_of_lt (Nat.lt_succ_self _))
 have I2:=Inv.made (C:=C) I
 have r2:Vals (V.ref (s.heap.objs.size+1)::(vs++dvs)) (Value.ref (s.heap.objs.size+1)::(us++ds)):=.cons rfl (r.append hd)
 have hl:(Value.ref (s.heap.objs.size+1)::us++ds).length=ps.length:=by
  have e:=r2.length
  rw[F.len _ _ _ _ hq] at e
  exact e.symm
 refine wpAny_call (zly (f:=f) I.kIn M.makes M.init (beq_iff_eq.mp M.fn) (codeAny_mono (F.run _ X.stack _ _ ⟨Value.ref (s.heap.objs.size+1)::us,[]⟩ (Value.ref (s.heap.objs.size+1)::(us++ds)) _ _ E (hr.make C us [])
  (I2.env0.make C us []) (hb _ (Value.ref (s.heap.objs.size+1)::us) I2.kIn hl) r2 hq) λr s' hq'=>?_))
 cases r with
 | error e=>exact hx pins σ _ _ e s' I2 hq'
 | ok fl=>
  cases fl with
  | ret u=>
   obtain⟨v,H',I3,rv,ev,q3⟩:=I2.after hq'
   subst ev
   exact⟨rv,⟨V.ref (s.heap.objs.size+1),H',I3,rfl,q3⟩⟩
  | next=>exact False.elim hq'
  | brk=>exact False.elim hq'
  | cont=>exact False.elim hq'
theorem zm4 (M:Mk X.K C f)(F:FnOk X.prog X.w X.K X.mg X.base CX k f fd ps sp)(hr:Room (k+1) X.A)(hg:Gl X x)(hm:X.mg x=some (.ref C))(hb:zdP X.K fd ps ds)(hd:Vals dvs ds)(hx:zdl CX X E)
  (ha:PA X (e::es) t) (hdb:(x == ("__debug__" : Str))=false:=by decide) (he:starEach (e::es) X.env=(false,eval e X.env)::starEach es X.env:=by rfl) (hpl:(backTo pos (starEach es X.env)).any (·.1)=false:=by rfl) :
  PE X (.Call (.Name x p) (e::es) [] pos) (zkp C sp dvs E t):=by
 intro pins s σ H Q I h
 refine wpAny_Call_Name_kw (zd1 I hg hm ?_ hdb)
 refine PySem.W.callWith_K (h₀:=X.base) I.ok.mod.kin M.kp (thn (ha pos pins s σ H _ I h) λus s1 ⟨vs,H1,I1,r,q⟩=>⟨I1.kIn,?_⟩) he hpl
 exact zi2 M F hr hb hd hx I1 r q
theorem zlA (M:Mk X.K C f)(F:FnOk X.prog X.w X.K X.mg X.base CX k f fd ps sp)(hr:Room (k+1) X.A)(hg:Gl X x)(hm:X.mg x=some (.ref C))(hb:zdP X.K fd ps ds)(hd:Vals dvs ds)(hx:zdl CX X E)
  (hdb:(x == ("__debug__" : Str))=false:=by decide):PE X (.Call (.Name x p) [] [] pos) (zkp C sp dvs E tNil):=by
 intro pins s σ H Q I h
 refine wpAny_Call_Name_kw (zd1 I hg hm ?_ hdb)
 exact PySem.W.callWith_K0 I.kIn M.kp (zi2 (us:=[]) M F hr hb hd hx I .nil h)
end

section
variable {X:Cx}{CX:CXT}{k:Nat}{f C:Addr}{fd:FuncData}{ps ks:List Str}{sp:Sp}{E:XK}{x m:Str}{p pos apos kpos:Pos}{e o:Expr}{es:List Expr}{kws:List Keyword}{te ta:TE}{t tk:TA}{nm:Option Str}
variable {g:List Value->List Value->List Value}{gV:List V->List V->List V}
end

structure FSc (N P:List Str)(sc:Scope):Prop where
 kind:sc.kind=.function
 co:sc.isCoroutine=false
 gen:sc.isGenerator=false
 nd:N.Nodup
 pre:N.take P.length=P
 par:∀ x∈P,sc.names.lookup x=some .local\/sc.names.lookup x=some .cell
 nofree:∀ y∈sc.names,y.2≠.free
theorem zhA {kindOf:Str->Option NameKind}{x:Str} : ∀ {binds:List (Str × Value)}{m:Str->Option Value},(∀ v,(x,v)∉binds)->bindL kindOf binds m x=m x
 | [],_,_=>rfl
 | (n,v)::r,m,h=>by
  unfold bindL
  rw[zhA λw hw=>h w (List.mem_cons_of_mem _ hw)]
  split
  ·have:x≠n:=by rintro rfl;exact h v List.mem_cons_self
   simp[this]
  ·rfl
theorem zhB {kindOf:Str->Option NameKind}{x:Str} : ∀ {binds:List (Str × Value)}{m:Str->Option Value},(∀ v,(x,v)∉binds)->bindC kindOf binds m x=m x
 | [],_,_=>rfl
 | (n,v)::r,m,h=>by
  unfold bindC
  rw[zhB λw hw=>h w (List.mem_cons_of_mem _ hw)]
  split
  ·rfl
  ·have:x≠n:=by rintro rfl;exact h v List.mem_cons_self
   simp[this]
theorem zfs {kindOf:Str->Option NameKind}{x:Str}{v:Value} : ∀ {P:List Str}{vs:List Value}{i:Nat}{m:Str->Option Value},P.Nodup->P[i]?=some x->vs[i]?=some v->kindOf x=some .local->
  bindL kindOf (P.zip vs) m x=some v
 | [],_,_,_,_,h,_,_=>by simp at h
 | _::_,[],_,_,_,_,h,_=>by simp at h
 | p::P,w::vs,0,m,nd,h1,h2,hk=>by
  simp at h1 h2;subst h1;subst h2
  show bindL kindOf ((p,w)::P.zip vs) m p=_
  unfold bindL
  rw[zhA λv hv=>(List.nodup_cons.mp nd).1 (List.of_mem_zip hv).1,if_pos hk]
  simp
 | p::P,w::vs,i+1,m,nd,h1,h2,hk=>by
  show bindL kindOf ((p,w)::P.zip vs) m x=_
  unfold bindL
  exact zfs (i:=i) (List.nodup_cons.mp nd).2 (by simpa using h1) (by simpa using h2) hk
theorem zft {kindOf:Str->Option NameKind}{x:Str}{v:Value} : ∀ {P:List Str}{vs:List Value}{i:Nat}{m:Str->Option Value},P.Nodup->P[i]?=some x->vs[i]?=some v->kindOf x≠some .local->
  bindC kindOf (P.zip vs) m x=some v
 | [],_,_,_,_,h,_,_=>by simp at h
 | _::_,[],_,_,_,_,h,_=>by simp at h
 | p::P,w::vs,0,m,nd,h1,h2,hk=>by
  simp at h1 h2;subst h1;subst h2
  show bindC kindOf ((p,w)::P.zip vs) m p=_
  unfold bindC
  rw[zhB λv hv=>(List.nodup_cons.mp nd).1 (List.of_mem_zip hv).1,if_neg hk]
  simp
 | p::P,w::vs,i+1,m,nd,h1,h2,hk=>by
  show bindC kindOf ((p,w)::P.zip vs) m x=_
  unfold bindC
  exact zft (i:=i) (List.nodup_cons.mp nd).2 (by simpa using h1) (by simpa using h2) hk
def start (N:List Str)(vs:List V):St:=vs.map some++List.replicate (N.length - vs.length) none
def cxOf (CX:CXT)(P:Program)(w:World)(K:Fg)(mg:Str->Option Value)(base:Heap)(N:List Str)(qual:Str)(scope:Scope)(f:Addr)(cd:Value)(A:Around)(outer:List Env)(s:Shared)(H:Hp)(E:XK):Cx where
 prog:=P
 w:=w
 K:=K
 mg:=mg
 base:=base
 A:=A.deeper (envOfC qual scope s.heap.objs.size f cd)
 N:=N
 s₀:=s
 H₀:=H
 env:=envOfC qual scope s.heap.objs.size f cd
 outer:=outer
 stack:=envOfC qual scope s.heap.objs.size f cd::outer
 ex:=[]
 calm:=true
 fn:=λ_=>true
 pn:=[]
 xe:=λe s'=>wpAny (model P w) (A.deeper (envOfC qual scope s.heap.objs.size f cd)) (leaving (envOfC qual scope s.heap.objs.size f cd) e) (λ_ s''=>CX outer H s E e s'') (λe' s''=>CX outer H s E e' s'') s'
theorem zfg {sc:Scope}{n:Nat}{x:Str}(h:sc.names.lookup x=some .cell):∃ c,(cellsFrom n sc.names []).lookup x=some c:=by
 have q:=PySem.W.cellsFrom_some sc.names n [] (.inl h)
 exact Option.isSome_iff_exists.mp q
theorem zkr {CX:CXT}{P:Program}{w:World}{K:Fg}{mg:Str->Option Value}{base:Heap}{N ps:List Str}{qual:Str}{scope:Scope}{f:Addr}{cd:Value}{A:Around}{outer:List Env}{s s1:Shared}{H:Hp}{E:XK}{us:List Value}{vs:List V}
  (S:FSc N ps scope) (hd:A.handled=none) (e0:Env0 P w K mg base A outer s H) (hl:vs.length=ps.length) (r:Vals vs us)
  (x:InCallC s s.heap.objs.size (bindL (envOfC qual scope s.heap.objs.size f cd).kindOf (ps.zip us) λ_=>none) (cellsFrom (s.heap.objs.size+1) scope.names []) (bindC (envOfC qual scope s.heap.objs.size f cd).kindOf (ps.zip us) λ_=>none) s1) :
  Inv (cxOf CX P w K mg base N qual scope f cd A outer s H E) [] (start N vs) H s1:=by
 have hpl:ps.length<=N.length:=by have:=congrArg List.length S.pre;rw[List.length_take] at this;omega
 obtain⟨h1,tk,rfl,hk⟩:=x.done
 have noA:∀ b:Addr,b∉(cxOf CX P w K mg base N qual scope f cd A outer s H E).ex:=λb z=>absurd (show b∈([]:List Addr) from z) (by simp)
 refine⟨⟨e0.mod,S.kind,rfl,rfl,Nat.le_refl _,λy z c h1 h2=>?_,λy hy=>?_,λy c _ h=>?_,λ_=>hd,Around.frames_deeper e0.frames,.inr ⟨rfl,rfl⟩,λb z=>absurd z (noA b),e0.bs,e0.bsz,λb _ _=>noA b,λb z=>absurd z (noA b),e0.funs,e0.frf⟩,
  rfl,e0.bare,Un.kept hk,⟨_,x.toInCall.ns,λi y v h1 h2 h3=>?_⟩,λy c h=>⟨_,x.cell y c h⟩,e0.hok.fresh (Nat.le_refl _),λy c h=>?_,λp hp=>absurd (show p∈([]:List (Addr × Obj)) from hp) (by simp),e0.hok.kept hk,?_⟩
 ·exact name_of_addr x.apart (PySem.mem_of_lookup h1) (PySem.mem_of_lookup h2)
 ·have hy:scope.names.lookup y=some .cell\/scope.names.lookup y=some .free:=hy
  rcases hy with hy | hy
  ·exact zfg hy
  ·exact absurd rfl (S.nofree _ (PySem.mem_of_lookup hy))
 ·exact Nat.le_of_lt (x.above y c (PySem.mem_of_lookup h))
 ·have hi:i<vs.length:=by
   unfold start at h2
   by_cases hi:i<vs.length
   ·exact hi
   ·rw[List.getElem?_append_right (by simpa using hi)] at h2
    rw[List.getElem?_replicate] at h2
    split at h2 <;> cases h2
  have ha:vs[i]?=some v:=by
   unfold start at h2
   rw[List.getElem?_append_left (by simpa using hi),zgm] at h2
   cases e:vs[i]? with
   | none=>rw[e] at h2;cases h2
   | some a=>rw[e] at h2;cases h2;rfl
  obtain⟨u,hu,rv⟩:=r.get ha
  have hp:ps[i]?=some y:=by
   rw[<-S.pre,List.getElem?_take_of_lt (by omega)];exact h1
  have ndP:ps.Nodup:=by rw[<-S.pre];exact S.nd.sublist (List.take_sublist _ _)
  refine⟨u,rv,?_⟩
  rcases S.par y (zmg hp) with k | k
  ·exact .inl ⟨k,zfs ndP hp hu k⟩
  ·obtain⟨c,e⟩:=zfg (n:=s.heap.objs.size+1) k
   refine .inr ⟨.inl k,c,e,?_⟩
   have q:=x.cell y c e
   rw[zft ndP hp hu (by show scope.names.lookup y≠_;rw[k];decide)] at q
   exact q
 ·exact e0.hok.fresh (Nat.le_of_lt (x.above y c (PySem.mem_of_lookup h)))
 ·unfold start
  show _=N.length
  rw[List.length_append,zlm,List.length_replicate]
  omega
theorem zoi {CX:CXT}{P:Program}{w:World}{K:Fg}{mg:Str->Option Value}{base:Heap}{k:Nat}{f:Addr}{name qual:Str}{params:Arguments}{body:List Stmt}{scope:Scope}{dV kV doc pm cdv ct oc:Value}{an od:Option Addr}
  {osl:Array (Option Value)}{N ps:List Str}{sp:Sp}(lk:K.lookup f=some ⟨oc,od,.func (PySem.W.fnOf name qual params body scope dV kV doc pm an cdv ct),osl⟩) (hcd:PySem.W.codeIn K cdv qual=true) (S:FSc N ps scope)
  (len:∀ vs H Q E,sp vs H Q E->vs.length=ps.length)
  (hbody:∀ (A:Around) (outer:List Env) (s:Shared) (H:Hp) (vs:List V) (Q:VK) (E:XK),Room k (A.deeper (envOfC qual scope s.heap.objs.size f cdv))->sp vs H Q E->
   ∃ t,PSs (cxOf CX P w K mg base N qual scope f cdv A outer s H E) body t/\t {nx:=λ_ H'=>Q .non H',rt:=Q} (start N vs) H) :
  FnOk P w K mg base CX (k+1) f (PySem.W.fnOf name qual params body scope dV kV doc pm an cdv ct) ps sp:=by
 refine⟨len,λA outer s H args us vs Q E hr e0 hb r hsp=>?_⟩
 have hl:=len _ _ _ _ hsp
 have KX:K.In s.heap:=e0.mod.kin.keeps λb o e=>(e0.bs b o e).1
 have lim:s.heap.NoLimit:=e0.mod.nolimit.keeps λb o e=>(e0.bs b o e).1
 have hkind:∀ y∈ps.zip us,scope.names.lookup y.1=some .local\/(scope.names.lookup y.1=some .cell/\((cellsFrom (s.heap.objs.size+1) scope.names []).lookup y.1).isSome=true):=λ⟨n,v⟩ hy=>by
  rcases S.par n (List.of_mem_zip hy).1 with q | q
  ·exact .inl q
  ·exact .inr ⟨q,PySem.W.cellsFrom_some _ _ _ (.inl q)⟩
 refine codeAny_call_function hr.depth (KX _ _ lk) rfl S.co S.gen rfl (PySem.W.codeRec_of KX hcd) (hb _ _ _ _ ?_)
 refine wpAny_newFunctionEnv_cells S.kind hkind λenv he s1 x=>?_
 subst he
 refine⟨lim.keeps x.toInCall.keep,codeAny_func ?_⟩
 obtain⟨t,ht,hq⟩:=hbody A outer s H vs Q E (hr.deeper _) hsp
 have I:Inv (cxOf CX P w K mg base N qual scope f cdv A outer s H E) [] (start N vs) H s1:=zkr S hr.hd e0 hl r x
 refine wpAny_mono (ht [] s1 (start N vs) H _ I hq) (λfl s' hs=>?_) λe s' hs=>hs
 have fin:∀ {σ':St}{H':Hp}{v:V}{u:Value},Inv (cxOf CX P w K mg base N qual scope f cdv A outer s H E) [] σ' H' s'->RelV v u->Q v H'->CE outer P w H s Q u s':=
  λ{σ' H' v u} J rv q=>⟨v,H',J.os,J.bare,J.base,J.hok,rv,q⟩
 cases fl with
 | ret u=>
  obtain⟨v,σ',H',J,rv,q⟩:=hs
  exact fin J rv q
 | next=>
  obtain⟨σ',H',J,q⟩:=hs
  exact fin (v:=V.non) (u:=Value.none) J rfl q
 | brk=>
  obtain⟨_,_,_,q⟩:=hs
  exact False.elim q
 | cont=>
  obtain⟨_,_,_,q⟩:=hs
  exact False.elim q
end L2

namespace L2
open PySem PySem.Spec PyProof.Rows
section
variable {X:Cx}{x:Str}{p pos:Pos}{e:Expr}{es:List Expr}{t:TA}{id T:String}{r:List V->Hp->VK->Prop}

def tCB (r:List V->Hp->VK->Prop)(t:TA):TE:=λσ H Q=>t σ H λvs H1=>r vs H1 Q
theorem zaq (hc:zb2 X (.builtin id) r)(hg:Gl X x)(hm:X.mg x=none)(hv:bootBuiltins x=some (.builtin id))(ha:PA X (e::es) t)(hn:x≠ "__name__":=by decide)(hdb:(x == ("__debug__" : Str))=false:=by decide)
  (he:starEach (e::es) X.env=(false,eval e X.env)::starEach es X.env:=by rfl) (hpl:(backTo pos (starEach es X.env)).any (·.1)=false:=by rfl):PE X (.Call (.Name x p) (e::es) [] pos) (tCB r t):=by
 intro pins s σ H Q I h
 refine wpAny_Call_Name_kw (zgy I hg hm hv ?_ hn hdb)
 exact PyProof.Rows.callWith_builtin1 (thn (ha pos pins s σ H _ I h) λus s1 ⟨vs,H1,I1,r1,q1⟩=>hc pins s1 σ H1 vs us Q I1 r1 q1) he hpl
theorem zdr (hc:zb2 X (.type T) r)(hg:Gl X x)(hm:X.mg x=none)(hv:bootBuiltins x=some (.type T))(ha:PA X (e::es) t)(hn:x≠ "__name__":=by decide)(hdb:(x == ("__debug__" : Str))=false:=by decide)
  (he:starEach (e::es) X.env=(false,eval e X.env)::starEach es X.env:=by rfl) (hpl:(backTo pos (starEach es X.env)).any (·.1)=false:=by rfl):PE X (.Call (.Name x p) (e::es) [] pos) (tCB r t):=by
 intro pins s σ H Q I h
 refine wpAny_Call_Name_kw (zgy I hg hm hv ?_ hn hdb)
 exact PyProof.Rows.callWith_type1 (thn (ha pos pins s σ H _ I h) λus s1 ⟨vs,H1,I1,r1,q1⟩=>hc pins s1 σ H1 vs us Q I1 r1 q1) he hpl
end
end L2

namespace HT
open PySem PyProof.Rows

section
open PySem.SeqAt
open PySem.AutoSeq1 (wpAny_loadPart')
open PySem.MeetsSeq PySem.MeetsSeq2 PySem.MeetsSeq3

end

section
variable {prog:Program}{w:World}{A:Around}{E:Value->Shared->Prop}{s:Shared}

theorem cat_tup {t b:Addr}{vs ws:List Value}{Q:Value->Shared->Prop}(ht:IsTup s.heap t vs.toArray)(hb:IsTup s.heap b ws.toArray)(hv:vs≠[])
  (h1:ws=[]->Q (.ref t) s) (h2:ws≠[]->Q (.ref s.heap.objs.size) {s with heap:=s.heap.push {cls:=.type "tuple",data:=.seq (vs++ws).toArray}})
  (hsz:vs.length+ws.length<=sizeLine):wpAny (model prog w) A (binaryOp .Add (.ref t) (.ref b)) Q E s:=by
 obtain⟨⟨cls,dd,data,sl⟩,ho,hc,n,hd⟩:=id ht
 obtain⟨⟨cls2,dd2,data2,sl2⟩,ho2,hc2,n2,hd2⟩:=id hb
 simp only at hc hd hc2 hd2
 subst hc hd hc2 hd2
 have e:vs.toArray++ws.toArray=(vs++ws).toArray:=by simp
 by_cases hw:ws=[]
 ·exact concat_meets ⟨_,ho,rfl⟩ ⟨_,ho2,rfl⟩ noFill_tuple_add seq_tuple_add PySem.F.slot_tuple_add PySem.F.entry_tuple_add (PySem.F.args_tuple_add_2 _ _)
   (tuple_addW1 t b vs.toArray ws.toArray n n2 dd dd2 sl sl2 (by simpa using hv) (by simp[hw])) ⟨ho,ho2,h1 hw⟩
 ·refine concat_meets ⟨_,ho,rfl⟩ ⟨_,ho2,rfl⟩ noFill_tuple_add seq_tuple_add PySem.F.slot_tuple_add PySem.F.entry_tuple_add (PySem.F.args_tuple_add_2 _ _)
   (tuple_addW2 t b vs.toArray ws.toArray n n2 dd dd2 sl sl2 (by simpa using hv) (by simpa using hw) (by rw[zst,zst];exact hsz)) ⟨ho,ho2,?_⟩
  rw[e]
  exact h2 hw
def sIx (n d:Nat):Option Int->Nat
 | none=>d
 | some v=>if v<0 then (v+(n:Int)).toNat else min v.toNat n
theorem sIx_none (n d:Nat):sIx n d none=d:=rfl
theorem sIx_nat (n d k:Nat):sIx n d (some (k:Int))=min k n:=by
 show (if (k:Int)<0 then ((k:Int)+(n:Int)).toNat else min (k:Int).toNat n)=min k n
 rw[if_neg (by omega),Int.toNat_natCast]
theorem zoj (n d:Nat)(hd:d<=n)(o:Option Int):sIx n d o<=n:=by
 cases o with
 | none=>exact hd
 | some v=>
  show (if v<0 then (v+(n:Int)).toNat else min v.toNat n)<=n
  by_cases hv:v<0
  ·rw[if_pos hv];omega
  ·rw[if_neg hv];exact Nat.min_le_right _ _
theorem zks (v:Int)(n d:Nat):(if v<0 then max (v+(n:Int)) 0 else min v (n:Int))=((sIx n d (some v):Nat):Int):=by
 show (if v<0 then max (v+(n:Int)) 0 else min v (n:Int))=(((if v<0 then (v+(n:Int)).toNat else min v.toNat n):Nat):Int)
 by_cases hv:v<0
 ·simp only[if_pos hv];omega
 ·simp only[if_neg hv];omega
theorem zjB (lo hi:Option Int)(n:Nat):Builtin.Slice.sliceAdjust lo hi 1 (n:Int)=(((sIx n 0 lo:Nat):Int),((sIx n n hi:Nat):Int)):=by
 have h1:¬ ((1:Int)<0):=by omega
 unfold Builtin.Slice.sliceAdjust
 simp only[h1,if_false]
 refine Prod.ext ?_ ?_
 ·cases lo with
  | none=>rfl
  | some v=>exact zks v n 0
 ·cases hi with
  | none=>rfl
  | some v=>exact zks v n n
theorem zjC (i j:Nat):Builtin.Slice.slicePlaces (i:Int) (j:Int) 1=j - i:=by
 unfold Builtin.Slice.slicePlaces
 have h1:(1:Int)>0:=by omega
 simp only[h1,if_true,Int.ediv_one]
 split <;> omega
theorem zgD {v:Value}{o:Option Int}{Q:Option Int->Shared->Prop}(p:IsPart v o)(h:Q o s):wpAny (model prog w) A (Builtin.Slice.slicePartIndex v) Q E s:=by
 cases p with
 | none=>exact slicePart_none h
 | int i t=>exact slicePart_int h
theorem ze9 {sl:Addr}{vl vu:Value}{lo hi:Option Int}{n:Nat}{Q:Int × Int × Nat->Shared->Prop}(hs:s.heap.IsSliceOf sl vl vu .none)(pl:IsPart vl lo)(pu:IsPart vu hi)
  (h:Q (((sIx n 0 lo:Nat):Int),1,sIx n n hi - sIx n 0 lo) s):wpAny (model prog w) A (Builtin.Slice.sliceApplied (.ref sl) (pure (n:Int))) Q E s:=by
 obtain⟨os,hos,hcs,hds⟩:=id hs
 unfold Builtin.Slice.sliceApplied Builtin.Slice.sliceFields
 refine wpAny_bind (wpAny_bind (wpAny_field hos hds (x:=vl) rfl (wpAny_bind (wpAny_field hos hds (x:=vu) rfl (wpAny_bind (wpAny_field hos hds (x:=.none) rfl (wpAny_pure ?_)))))))
 refine wpAny_bind (slicePart_none ?_)
 show wpAny _ _ (if ((1:Int) == 0)=true then _ else _) _ _ s
 rw[if_neg (by decide)]
 refine wpAny_bind (zgD pl (wpAny_bind (zgD pu (wpAny_bind (wpAny_pure ?_)))))
 show wpAny _ _ (match Builtin.Slice.sliceAdjust lo hi 1 (n:Int) with | (lo,hi)=>pure (lo,(1:Int),Builtin.Slice.slicePlaces lo hi 1)) _ _ s
 rw[zjB lo hi n]
 show wpAny _ _ (pure (((sIx n 0 lo:Nat):Int),(1:Int),Builtin.Slice.slicePlaces ((sIx n 0 lo:Nat):Int) ((sIx n n hi:Nat):Int) 1)) _ _ s
 rw[zjC]
 exact wpAny_pure h
theorem zlB (xs:Array Value)(i k:Nat):((List.range k).filterMap λ(m:Nat)=>xs[((i:Int)+(m:Int) * 1).toNat]?).toArray=((xs.toList.drop i).take k).toArray:=by
 have e:(λ(m:Nat)=>xs[((i:Int)+(m:Int) * 1).toNat]?)=λm=>xs[i+m]?:=by
  funext m
  have:((i:Int)+(m:Int) * 1).toNat=i+m:=by omega
  rw[this]
 rw[e]
 have:=pick_run xs i k
 rw[List.filterMap_map] at this
 have e2:((λx=>xs[x]?) ∘ λx=>i+x)=λm=>xs[i+m]?:=rfl
 rw[e2] at this
 rw[this]
theorem getItem_tuple_cut {t sl:Addr}{items:Array Value}{vl vu:Value}{lo hi:Option Int}{Q:Value->Shared->Prop}(ht:IsTup s.heap t items)(hs:s.heap.IsSliceOf sl vl vu .none)(pl:IsPart vl lo)(pu:IsPart vu hi)
  (hw:¬ (sIx items.size 0 lo=0/\sIx items.size items.size hi=items.size))
  (h:Q (.ref s.heap.objs.size) {s with heap:=s.heap.push {cls:=.type "tuple",data:=.seq ((items.toList.drop (sIx items.size 0 lo)).take (sIx items.size items.size hi - sIx items.size 0 lo)).toArray}})
  (hsz:items.size<=sizeLine):wpAny (model prog w) A (getItem (.ref t) (.ref sl)) Q E s:=by
 have htake:sizeOk (.seq ((items.toList.drop (sIx items.size 0 lo)).take (sIx items.size items.size hi - sIx items.size 0 lo)).toArray):=by
  show ((items.toList.drop (sIx items.size 0 lo)).take (sIx items.size items.size hi - sIx items.size 0 lo)).toArray.size<=sizeLine
  rw[zst,List.length_take,List.length_drop,Array.length_toList]
  omega
 have hj:sIx items.size items.size hi<=items.size:=zoj _ _ (Nat.le_refl _) hi
 obtain⟨os,hos,hcs,hds⟩:=id hs
 have hTs:s.TypeIs (.ref sl) "slice":=⟨os,hos,hcs⟩
 unfold getItem
 try with_reducible refine wpAny_holding ?_
 first | refine wpAny_bind (wpAny_pure ?_) | skip
 refine wpAny_bind (wpAny_sequenceKey ht.typeIs (by decide) ?_)
 refine wpAny_bind (wpAny_callSpecial?_slot (name:=Str.ofString "__getitem__") ht.typeIs PyProof.Rows.slot_tuple_getitem
  (wpAny_call_entry PyProof.Rows.slot_tuple_getitem ht.typeIs entry_tuple_getitem ?_ (args_tuple_getitem _ _)))
 show wpAny _ _ (Builtin.Tuple.tupleItemsOf (.ref t) >>= _) _ _ s
 refine wpAny_bind (tupleItemsOf_ ht ?_)
 refine wpAny_bind (wpAny_typeOf hTs ?_)
 rw[if_pos (by decide)]
 refine wpAny_bind (ze9 hs pl pu ?_)
 have hno:¬ ((((sIx items.size 0 lo:Nat):Int) == 0 && (1:Int) == 1 && (sIx items.size items.size hi - sIx items.size 0 lo) == items.size)=true):=by
  intro q
  rw[Bool.and_eq_true,Bool.and_eq_true] at q
  have q1:((sIx items.size 0 lo:Nat):Int)=0:=eq_of_beq q.1.1
  have q2:sIx items.size items.size hi - sIx items.size 0 lo=items.size:=eq_of_beq q.2
  exact hw ⟨by omega,by omega⟩
 show wpAny _ _ (if (((sIx items.size 0 lo:Nat):Int) == 0 && (1:Int) == 1 && (sIx items.size items.size hi - sIx items.size 0 lo) == items.size)=true then _ else _) _ _ s
 rw[if_neg hno,zlB]
 first
  | exact wpAny_bind (m:=Builtin.Tuple.tupleExact _) (wpAny_newObj_type (wpAny_pure ⟨_,rfl,wpAny_pure h⟩) htake)
  | exact wpAny_bind (m:=Builtin.Tuple.tupleExact _) (wpAny_newObj_type (wpAny_bind (wpAny_pure (wpAny_pure ⟨_,rfl,wpAny_pure h⟩))) htake)
  | exact wpAny_bind (wpAny_bind (m:=Builtin.Tuple.tupleExact _) (wpAny_newObj_type (wpAny_pure (wpAny_pure ⟨_,rfl,wpAny_pure h⟩)) htake))
  | exact wpAny_bind (wpAny_bind (m:=Builtin.Tuple.tupleExact _) (wpAny_newObj_type (wpAny_pure ⟨_,rfl,wpAny_pure h⟩) htake))
end
end HT

namespace L2
open PySem PySem.Spec PyProof.Rows

abbrev TO:=St->Hp->(Option Int->Hp->Prop)->Prop
def PO (X:Cx)(e:Option Expr)(t:TO):Prop:=
 ∀ (pins:List (Addr × Obj)) (s:Shared) (σ:St) (H:Hp) (Q:Option Int->Hp->Prop),Inv X pins σ H s->t σ H Q->
  wpAny (model X.prog X.w) X.A (evalPart e X.env) (λu s'=>∃ o H',Inv X pins σ H' s'/\IsPart u o/\Q o H') X.xe s
def zkt:TO:=λ_ H Q=>Q none H
def zok (t:TE):TO:=λσ H Q=>t σ H λx H1=>∃ i,x=.int i/\Q (some i) H1
theorem zgE {ns:List Int} : ∀ {us:List Value},Vals (ns.map V.int) us->IntsAre us ns:=by
 induction ns with
 | nil=>intro us r;rw[List.map_nil] at r;cases r;exact .nil
 | cons n ns ih=>
  intro us r
  rw[zmc] at r
  cases r with
  | cons r1 r2=>
   obtain⟨t,e⟩:=r1
   subst e
   exact .cons n t (ih r2)
section
variable {X:Cx}{e:Expr}{te:TE}{lo hi:Option Expr}{tl th:TO}{pos p2:Pos}

theorem ziu:PO X none zkt:=by
 intro pins s σ H Q I h
 rw[evalPart_none]
 exact wpAny_pure ⟨none,H,I,.none,h⟩
theorem ziv (h:PE X e te):PO X (some e) (zok te):=by
 intro pins s σ H Q I hw
 rw[evalPart_some]
 refine thn (h pins s σ H _ I hw) λu s1 ⟨x,H1,I1,r1,q1⟩=>?_
 obtain⟨i,rfl,q⟩:=q1
 obtain⟨t,rfl⟩:=r1
 exact⟨some i,H1,I1,.int i t,q⟩
def SlR (X:Cx)(r:V->Option Int->Option Int->Hp->VK->Prop):Prop:=
 ∀ (pins:List (Addr × Obj)) (s:Shared) (σ:St) (H:Hp) (x:V) (v vl vu:Value) (lo hi:Option Int) (sl:Addr) (Q:VK),Inv X pins σ H s->RelV x v->s.heap.IsSliceOf sl vl vu .none->IsPart vl lo->IsPart vu hi->r x lo hi H Q->
  ∃ T id,typeLookup (.type T) "__getitem__"=pure (some (.builtin id))/\s.TypeIs v T/\wpAny (model X.prog X.w) X.A (getItem v (.ref sl)) (EP X pins σ Q) X.xe s
theorem SlR.or {r r':V->Option Int->Option Int->Hp->VK->Prop}(h:SlR X r)(h':SlR X r'):SlR X (λx lo hi H Q=>r x lo hi H Q\/r' x lo hi H Q):=by
 intro pins s σ H x v vl vu lo hi sl Q I rx hs pl pu q
 rcases q with q | q
 ·exact h pins s σ H x v vl vu lo hi sl Q I rx hs pl pu q
 ·exact h' pins s σ H x v vl vu lo hi sl Q I rx hs pl pu q
def tSl (r:V->Option Int->Option Int->Hp->VK->Prop)(te:TE)(tl th:TO):TE:=λσ H Q=>te σ H λx H1=>tl σ H1 λl H2=>th σ H2 λu H3=>r x l u H3 Q
theorem zgV {r:V->Option Int->Option Int->Hp->VK->Prop}(hr:SlR X r)(he:PE X e te)(hl:PO X lo tl)(hu:PO X hi th):PE X (.Subscript e (.Slice lo hi none p2) pos) (tSl r te tl th):=by
 intro pins s σ H Q I h
 refine Subscript_ (thn (he pins s σ H _ I h) λv s1 ⟨x,H1,I1,r1,q1⟩=>?_)
 refine wpAny_Slice (thn (hl pins s1 σ H1 _ I1 q1) λvl s2 ⟨l,H2,I2,pl,q2⟩=>thn (hu pins s2 σ H2 _ I2 q2) λvu s3 ⟨u,H3,I3,pu,q3⟩=>?_)
 rw[evalPart_none]
 refine wpAny_pure ?_
 have I4:Inv X pins σ H3 {s3 with heap:=s3.heap.push {cls:=.type "slice",data:=.fields #[vl,vu,.none]}}:=I3.kept (t':=s3.toks) λb ob q=>Heap.get?_push_of_some _ q
 obtain⟨T,id,hT,ht,hg⟩:=hr pins {s3 with heap:=s3.heap.push {cls:=.type "slice",data:=.fields #[vl,vu,.none]}} σ H3 x v vl vu l u s3.heap.objs.size Q I4 r1 (Heap.IsSliceOf.new ..) pl pu q3
 show wpAny (model X.prog X.w) X.A (subscriptTail e (.Slice lo hi none p2) v (.ref s3.heap.objs.size)) (EP X pins σ Q) X.xe {s3 with heap:=s3.heap.push {cls:=.type "slice",data:=.fields #[vl,vu,.none]}}
 exact tail_any (ops:=[.ref s3.heap.objs.size,v]) ht hT hg (by with_unfolding_all rfl)
def cutV (xs:List V)(lo hi:Option Int):List V:=(xs.drop (HT.sIx xs.length 0 lo)).take (HT.sIx xs.length xs.length hi - HT.sIx xs.length 0 lo)
theorem zfu (xs:List V)(lo hi:Option Int):(cutV xs lo hi).length<=xs.length:=by
 unfold cutV
 rw[List.length_take,List.length_drop]
 omega
def rSlT (K:Fg):V->Option Int->Option Int->Hp->VK->Prop:=λx lo hi H Q=>∃ a xs,x=.ref a/\SqT K H a xs/\
 ¬ (HT.sIx xs.length 0 lo=0/\HT.sIx xs.length xs.length hi=xs.length)/\∀ p,H p=none->Q (.ref p) (upd H p (.tup (cutV xs lo hi)))
theorem zol:SlR X (rSlT X.K):=by
 intro pins s σ H x v vl vu lo hi sl Q I rx hs pl pu h
 obtain⟨a,xs,rfl,hx,hw,q⟩:=h
 cases rx
 obtain⟨its,r,ht,hz⟩:=I.tuple hx
 have hlen:its.toArray.size=xs.length:=by rw[zst];exact r.length.symm
 refine⟨"tuple",_,PyProof.Rows.slot_tuple_getitem.lookup,ht.typeIs,?_⟩
 refine HT.getItem_tuple_cut ht hs pl pu (by rw[hlen];exact hw) ?_ (by rw[hlen];exact hz)
 rw[hlen]
 refine⟨.ref s.heap.objs.size,_,I.laid (t':=s.toks) (o:=.tup (cutV xs lo hi)) (λb ob q=>Heap.get?_push_of_some _ q) (Nat.le_refl _) ?_,rfl,q _ (I.hok.fresh (Nat.le_refl _))⟩
 exact⟨Nat.le_trans (zfu xs lo hi) hz,_,(r.drop (HT.sIx xs.length 0 lo)).take (HT.sIx xs.length xs.length hi - HT.sIx xs.length 0 lo),IsTup.new _ _⟩
def zom (K:Fg):R2:=λx y H Q=>∃ a b xs ys,x=.ref a/\y=.ref b/\SqT K H a xs/\SqT K H b ys/\xs≠[]/\xs.length+ys.length<=sizeLine/\
 (ys=[]->Q (.ref a) H)/\(ys≠[]->∀ p,H p=none->Q (.ref p) (upd H p (.tup (xs++ys))))
theorem Vals.nil_iff {xs:List V}{us:List Value}(r:Vals xs us):us=[]↔xs=[]:=by
 cases r with
 | nil=>simp
 | cons _ _=>simp
theorem zm5:OpR X (binaryOp .Add) (zom X.K):=by
 intro pins s σ H x y v u Q I rx ry h
 obtain⟨a,b,xs,ys,rfl,rfl,ha,hb,hx,hz,q1,q2⟩:=h
 cases rx
 cases ry
 obtain⟨its,r1,p1,_⟩:=I.tuple ha
 obtain⟨its2,r2,p2,_⟩:=I.tuple hb
 refine HT.cat_tup p1 p2 (λz=>hx (r1.nil_iff.mp z)) (λz=>⟨.ref a,H,I,rfl,q1 (r2.nil_iff.mp z)⟩) (λz=>?_) (by rw[<-r1.length,<-r2.length];exact hz)
 refine⟨.ref s.heap.objs.size,_,I.laid (t':=s.toks) (o:=.tup (xs++ys)) (λb ob q=>Heap.get?_push_of_some _ q) (Nat.le_refl _) ?_,rfl,q2 (λw=>z (r2.nil_iff.mpr w)) _ (I.hok.fresh (Nat.le_refl _))⟩
 exact⟨by rw[List.length_append];exact hz,_,r1.append r2,IsTup.new _ _⟩
end
end L2

namespace L2
open PySem PySem.Spec PyProof.Rows

def ixN (n:Nat)(i:Int):Option Nat:=if 0<=i then (if i<n then some i.toNat else none) else if -(n:Int)<=i then some (i+n).toNat else none
def atI {α:Type}(xs:List α)(i:Int):Option α:=(ixN xs.length i).bind λj=>xs[j]?
theorem zku {n:Nat}{i:Int}{j:Nat}(h:ixN n i=some j):seqIndex? i n=some j/\j<n/\-(n:Int)<=i/\i<n:=by
 unfold ixN at h
 by_cases h0:0<=i
 ·rw[if_pos h0] at h
  by_cases h1:i<n
  ·rw[if_pos h1] at h
   have e:i.toNat=j:=Option.some.inj h
   exact⟨by rw[seqIndex_of h0 h1,e],by omega,by omega,h1⟩
  ·rw[if_neg h1] at h;cases h
 ·rw[if_neg h0] at h
  by_cases h1:-(n:Int)<=i
  ·rw[if_pos h1] at h
   have e:(i+n).toNat=j:=Option.some.inj h
   exact⟨by rw[seqIndex_neg (by omega) h1,e],by omega,h1,by omega⟩
  ·rw[if_neg h1] at h;cases h
theorem ziw {α:Type}{xs:List α}{i:Int}{v:α}(h:atI xs i=some v):∃ j,seqIndex? i xs.length=some j/\xs[j]?=some v/\j<xs.length/\-(xs.length:Int)<=i/\i<xs.length:=by
 unfold atI at h
 cases e:ixN xs.length i with
 | none=>rw[e] at h;cases h
 | some j=>
  rw[e] at h
  obtain⟨h1,h2,h3,h4⟩:=zku e
  exact⟨j,h1,h,h2,h3,h4⟩
theorem zaJ {α:Type}{xs:List α}{j:Nat}{v:α}(h:xs[j]?=some v):atI xs (j:Int)=some v:=by
 have hj:j<xs.length:=(zge.mp h).1
 have e:ixN xs.length (j:Int)=some j:=by
  unfold ixN
  rw[if_pos (by omega),if_pos (by omega)];simp
 unfold atI;rw[e];exact h
def zm6 (b:Expr):Prop:=∀ o i,subscripted b false o i=operate [o,i] (getItem o i)
def IxR (X:Cx)(r:R2):Prop:=
 ∀ (value slice:Expr) (pins:List (Addr × Obj)) (s:Shared) (σ:St) (H:Hp) (x y:V) (v u:Value) (Q:VK),Inv X pins σ H s->RelV x v->RelV y u->r x y H Q->
  subscripted slice false v u=operate [v,u] (getItem v u)->wpAny (model X.prog X.w) X.A (subscriptTail value slice v u) (EP X pins σ Q) X.xe s
def MtR (X:Cx)(id:String)(r:V->List V->Hp->VK->Prop):Prop:=
 ∀ (pins:List (Addr × Obj)) (s:Shared) (σ:St) (H:Hp) (x:V) (xs:List V) (v:Value) (us:List Value) (Q:VK),Inv X pins σ H s->RelV x v->Vals xs us->r x xs H Q->
  wpAny (model X.prog X.w) X.A (call (.builtin id) (v::us)) (EP X pins σ Q) X.xe s
section
variable {X:Cx}{a b:Expr}{ta tb:TE}{pos:Pos}
theorem IxR.or {r r':R2}(h:IxR X r)(h':IxR X r'):IxR X (λx y H Q=>r x y H Q\/r' x y H Q):=by
 intro value slice pins s σ H x y v u Q I rx ry q hs
 rcases q with q | q
 ·exact h value slice pins s σ H x y v u Q I rx ry q hs
 ·exact h' value slice pins s σ H x y v u Q I rx ry q hs
theorem zaH {r:R2}(hr:IxR X r)(ha:PE X a ta)(hb:PE X b tb)(hs:zm6 b):PE X (.Subscript a b pos) (tOp r ta tb):=by
 intro pins s σ H Q I h
 exact Subscript_ (binT ha hb I h λv u s2 x y H2 I2 rx ry q=>hr a b pins s2 σ H2 x y v u Q I2 rx ry q (hs _ _))
def rIxL (K:Fg):R2:=λx y H Q=>∃ p xs i v,x=.ref p/\y=.int i/\SqL K H p xs/\atI xs i=some v/\Q v H
def rIxT (K:Fg):R2:=λx y H Q=>∃ p xs i v,x=.ref p/\y=.int i/\SqT K H p xs/\atI xs i=some v/\Q v H
def rIxS:R2:=λx y H Q=>∃ z i c,x=.str z/\y=.int i/\z.length<=sizeLine/\atI z.cps.toList i=some c/\Q (.str ⟨#[c]⟩) H
theorem zm7:IxR X (rIxL X.K):=by
 intro value slice pins s σ H x y v u Q I rx ry h hs
 obtain⟨p,xs,i,z,rfl,rfl,hq,he,q⟩:=h
 cases rx
 obtain⟨t,rfl⟩:=ry
 obtain⟨its,r,pl,hz⟩:=I.list hq
 obtain⟨j,h1,h2,h3,h4,h5⟩:=ziw he
 obtain⟨w,ew,rw'⟩:=r.get h2
 have hl:=r.length
 have hn:=zgB
 have fin:EP X pins σ Q w s:=⟨z,H,I,rw',q⟩
 by_cases h0:0<=i
 ·have hj:i.toNat=j:=by
   rw[seqIndex_of h0 h5] at h1
   exact Option.some.inj h1
  exact item_listR pl.isList h0 (by omega) (by rw[hj];simpa using ew) fin hs
 ·have hj:(i+(its.toArray.size:Int)).toNat=j:=by
   rw[seqIndex_neg (by omega) h4] at h1
   rw[zst,<-hl]
   exact Option.some.inj h1
  exact subscriptTail_builtinR (x:=w) pl.isList.typeIs slot_list_getitem.lookup
   (wpAny_getItem_list_neg (Q:=λr s'=>r=w/\EP X pins σ Q r s') pl.isList (by omega) (by rw[zst] <;> omega) (by omega) (by rw[hj];simpa using ew) ⟨rfl,fin⟩) hs
theorem zon:IxR X (rIxT X.K):=by
 intro value slice pins s σ H x y v u Q I rx ry h hs
 obtain⟨p,xs,i,z,rfl,rfl,hq,he,q⟩:=h
 cases rx
 obtain⟨t,rfl⟩:=ry
 obtain⟨its,r,pl,hz⟩:=I.tuple hq
 obtain⟨j,h1,h2,h3,h4,h5⟩:=ziw he
 obtain⟨w,ew,rw'⟩:=r.get h2
 have hl:=r.length
 have hn:=zgB
 have fin:EP X pins σ Q w s:=⟨z,H,I,rw',q⟩
 exact subscriptTail_builtinR (x:=w) pl.typeIs slot_tuple_getitem.lookup
  (getItem_tuple (j:=j) (Q:=λr s'=>r=w/\EP X pins σ Q r s') pl (by omega) (by omega) (by rw[zst,<-hl];exact h1) (by simpa using ew) ⟨rfl,fin⟩) hs
theorem zoo:IxR X rIxS:=by
 intro value slice pins s σ H x y v u Q I rx ry h hs
 obtain⟨z,i,c,rfl,rfl,hz,he,q⟩:=h
 obtain⟨t,rfl⟩:=rx
 obtain⟨t',rfl⟩:=ry
 obtain⟨j,h1,h2,h3,h4,h5⟩:=ziw he
 have hl:z.cps.toList.length=z.length:=by simp[Str.length]
 rw[hl] at h1 h4 h5
 have hn:=zgB
 exact tail_any (typeIs_str s z t) slot_str_getitem.lookup (getItem_str (c:=c) (by
  have e1:decide (i < -(2 ^ 63:Int))=false:=decide_eq_false (by omega)
  have e2:decide (i≥2 ^ 63)=false:=decide_eq_false (by omega)
  rw[e1,e2,Bool.or_false]) (by rw[h1];simpa using h2) ⟨.str ⟨#[c]⟩,H,I.tok _,⟨_,rfl⟩,q⟩) hs
def rIx (K:Fg):R2:=λx y H Q=>rIxL K x y H Q\/rIxT K x y H Q\/rIxS x y H Q
theorem zop:IxR X (rIx X.K):=zm7.or (zon.or zoo)
theorem zjD (its:List Value)(n j:Nat)(u:Value):Obj.mapSeq (·.setIfInBounds j u) {cls:=.type "list",data:=.seq its.toArray n}={cls:=.type "list",data:=.seq (its.set j u).toArray n}:=by
 simp[Obj.mapSeq]
theorem Inv.lst {pins:List (Addr × Obj)}{σ:St}{H:Hp}{s:Shared}{p:Addr}{xs:List V}(I:Inv X pins σ H s)(h:H p=some (.lst xs)) :
  ∃ (its:List Value) (n:Nat),Vals xs its/\s.heap.get? p=some {cls:=.type "list",data:=.seq its.toArray n}/\xs.length<=sizeLine:=by
 obtain⟨z,its,n,r,e⟩:=I.hok p _ h
 exact⟨its,n,r,e,z⟩
theorem Inv.lstUpd {pins:List (Addr × Obj)}{σ:St}{H:Hp}{s:Shared}{p:Addr}{xs ys:List V}{its its':List Value}{n n':Nat}{f:Obj->Obj}(I:Inv X pins σ H s)(h:H p=some (.lst xs))
  (ho:s.heap.get? p=some {cls:=.type "list",data:=.seq its.toArray n}) (hf:f {cls:=.type "list",data:=.seq its.toArray n}={cls:=.type "list",data:=.seq its'.toArray n'}) (r:Vals ys its') (hz:ys.length<=sizeLine) (t:Nat) :
  Inv X pins σ (upd H p (.lst ys)) {s with heap:=s.heap.update p f,toks:=t}:=by
 have e:(s.heap.update p f).get? p=some {cls:=.type "list",data:=.seq its'.toArray n'}:=by
  rw[Heap.get?_update_self f ho (by rw[hf] <;> rfl),hf]
 refine I.write (x:=p) (e:=p) (by rw[h];trivial) (.inl rfl) (λb u hb q=>(Heap.get?_update_other _ _ (Ne.symm hb)).trans q) ⟨_,e⟩ ?_
 exact⟨hz,its',n',r,e⟩
def zoq:V->V->V->Hp->(Hp->Prop)->Prop:=λo i v H Q=>∃ p xs k j,o=.ref p/\i=.int k/\H p=some (.lst xs)/\ixN xs.length k=some j/\Q (upd H p (.lst (xs.set j v)))
theorem zlC:PSet X zoq:=by
 intro pins s σ H o i v ov iv u Q I ro ri rv h
 obtain⟨p,xs,k,j,rfl,rfl,hp,hj,q⟩:=h
 cases ro
 obtain⟨t,rfl⟩:=ri
 obtain⟨its,n,r,ho,hz⟩:=I.lst hp
 obtain⟨h1,h2,h3,h4⟩:=zku hj
 have hl:=r.length
 have hn:=zgB
 have I':Inv X pins σ (upd H p (.lst (xs.set j v))) {s with heap:=s.heap.update p (Obj.mapSeq (·.setIfInBounds j u))}:=
  I.lstUpd hp ho (zjD its n j u) (r.set rv j) (by rw[List.length_set];exact hz) s.toks
 by_cases h0:0<=k
 ·have hk:k.toNat=j:=by
   rw[seqIndex_of h0 h4] at h1
   exact Option.some.inj h1
  exact PySem.W.ki_setAt ho h0 (by omega) (by rw[zst,<-hl];exact h4) (by rw[hk];exact⟨_,I',q⟩)
 ·have hk:(k+(its.toArray.size:Int)).toNat=j:=by
   rw[seqIndex_neg (by omega) h3] at h1
   rw[zst,<-hl]
   exact Option.some.inj h1
  exact PySem.W.ki_setBack ho (by omega) (by rw[zst,<-hl];exact h3) (by omega) (by rw[hk];exact⟨_,I',q⟩)
theorem zhC (lo hi:Option Int)(n:Nat):(sliceBounds lo hi none n).1=((HT.sIx n 0 lo:Nat):Int)/\(sliceBounds lo hi none n).2.1=((HT.sIx n n hi:Nat):Int)/\(sliceBounds lo hi none n).2.2=1:=by
 refine⟨?_,?_,rfl⟩
 ·cases lo with
  | none=>simp[sliceBounds,HT.sIx]
  | some i=>
   simp only[sliceBounds,HT.sIx,Option.getD_none,show (1:Int)>0 by decide,if_true]
   by_cases h:i<0
   ·simp only[h,if_true] <;> omega
   ·simp only[h,if_false] <;> omega
 ·cases hi with
  | none=>simp[sliceBounds,HT.sIx]
  | some i=>
   simp only[sliceBounds,HT.sIx,Option.getD_none,show (1:Int)>0 by decide,if_true]
   by_cases h:i<0
   ·simp only[h,if_true] <;> omega
   ·simp only[h,if_false] <;> omega
theorem zgW (its:List Value)(lo hi:Option Int):slicePick its.toArray lo hi none=((its.drop (HT.sIx its.length 0 lo)).take (HT.sIx its.length its.length hi - HT.sIx its.length 0 lo)).toArray:=by
 obtain⟨h1,h2,h3⟩:=zhC lo hi its.toArray.size
 unfold slicePick
 rw[h1,h2,h3]
 simp only[sliceRange_one,pick_run,zst] <;> rfl
def rSlL (K:Fg):V->Option Int->Option Int->Hp->VK->Prop:=λx lo hi H Q=>∃ a xs,x=.ref a/\SqL K H a xs/\∀ p,H p=none->Q (.ref p) (upd H p (.lst (cutV xs lo hi)))
theorem zm8:SlR X (rSlL X.K):=by
 intro pins s σ H x v vl vu lo hi sl Q I rx hs pl pu h
 obtain⟨a,xs,rfl,hx,q⟩:=h
 cases rx
 obtain⟨its,r,ht,hz⟩:=I.list hx
 have hlen:=r.length
 refine⟨"list",_,slot_list_getitem.lookup,ht.isList.typeIs,?_⟩
 refine wpAny_getItem_list_slice ht.isList hs pl pu .none (by simp) ?_ (by rw[zst] <;> omega)
 rw[zgW,<-hlen]
 refine⟨.ref s.heap.objs.size,_,I.laid (t':=s.toks) (o:=.lst (cutV xs lo hi)) (λb ob q=>Heap.get?_push_of_some _ q) (Nat.le_refl _) ?_,rfl,q _ (I.hok.fresh (Nat.le_refl _))⟩
 exact⟨Nat.le_trans (zfu xs lo hi) hz,_,0,(r.drop (HT.sIx xs.length 0 lo)).take (HT.sIx xs.length xs.length hi - HT.sIx xs.length 0 lo),Heap.get?_push_size _ rfl⟩
def zds:V->Bool
 | .non=>true
 | .bl _=>true
 | .int _=>true
 | .str _=>true
 | _=>false
def eqV:V->V->Bool
 | .non,.non=>true
 | .bl a,.bl b=>a == b
 | .bl a,.int b=>(if a then 1 else 0) == b
 | .int a,.bl b=>a == (if b then 1 else 0)
 | .int a,.int b=>a == b
 | .str a,.str b=>a == b
 | _,_=>false
theorem zmu {A:Around}{s:Shared}{y x:V}{u v:Value}(ry:RelV y u)(rx:RelV x v)(fy:zds y=true)(fx:zds x=true):SeqAt.EqAt A s u v (eqV y x):=by
 cases y with
 | non=>
  cases ry
  cases x with
  | non=>cases rx;exact SeqAt.EqAt.same _
  | bl b=>cases rx;exact SeqAt.EqAt.none_bool b
  | int b=>obtain⟨t,rfl⟩:=rx;exact SeqAt.EqAt.none_int b t
  | str b=>obtain⟨t,rfl⟩:=rx;exact SeqAt.EqAt.none_str b t
  | _=>exact absurd (show false=true from fx) Bool.false_ne_true
 | bl a=>
  cases ry
  cases x with
  | non=>cases rx;exact SeqAt.EqAt.bool_none a
  | bl b=>cases rx;exact SeqAt.EqAt.bool_bool a b
  | int b=>obtain⟨t,rfl⟩:=rx;exact SeqAt.EqAt.bool_int a b t
  | str b=>obtain⟨t,rfl⟩:=rx;exact SeqAt.EqAt.bool_str a b t
  | _=>exact absurd (show false=true from fx) Bool.false_ne_true
 | int a=>
  obtain⟨t',rfl⟩:=ry
  cases x with
  | non=>cases rx;exact SeqAt.EqAt.int_none a t'
  | bl b=>cases rx;exact SeqAt.EqAt.int_bool a t' b
  | int b=>obtain⟨t,rfl⟩:=rx;exact SeqAt.EqAt.int_int a t' b t
  | str b=>obtain⟨t,rfl⟩:=rx;exact SeqAt.EqAt.int_str a t' b t
  | _=>exact absurd (show false=true from fx) Bool.false_ne_true
 | str a=>
  obtain⟨t',rfl⟩:=ry
  cases x with
  | non=>cases rx;exact SeqAt.EqAt.str_none a t'
  | bl b=>cases rx;exact SeqAt.EqAt.str_bool a t' b
  | int b=>obtain⟨t,rfl⟩:=rx;exact SeqAt.EqAt.str_int a t' b t
  | str b=>obtain⟨t,rfl⟩:=rx;exact SeqAt.EqAt.str_str a t' b t
  | _=>exact absurd (show false=true from fx) Bool.false_ne_true
 | _=>exact absurd (show false=true from fy) Bool.false_ne_true
def eqU (x:V)(u:Value):Bool:=match u with
 | .none=>eqV .non x
 | .bool b=>eqV (.bl b) x
 | .int i _=>eqV (.int i) x
 | .str z _=>eqV (.str z) x
 | _=>false
theorem zmv {x y:V}{u:Value}(r:RelV y u)(f:zds y=true):eqU x u=eqV y x:=by
 cases y with
 | non=>cases r;rfl
 | bl b=>cases r;rfl
 | int i=>obtain⟨t,rfl⟩:=r;rfl
 | str z=>obtain⟨t,rfl⟩:=r;rfl
 | _=>exact absurd (show false=true from f) Bool.false_ne_true
theorem zfv {x:V} : ∀ {xs:List V}{us:List Value},Vals xs us->xs.all zds=true->us.any (eqU x)=xs.any λy=>eqV y x
 | _,_,.nil,_=>rfl
 | y::xs,u::us,.cons r t,f=>by
  rw[List.all_cons,Bool.and_eq_true] at f
  rw[List.any_cons,List.any_cons,zmv r f.1,zfv t f.2]
theorem zel {A:Around}{s:Shared}{x:V}{v:Value}(rx:RelV x v)(fx:zds x=true):∀ {xs:List V}{us:List Value},Vals xs us->xs.all zds=true->∀ u∈us,SeqAt.EqAt A s u v (eqU x u)
 | _,_,.nil,_=>λu hu=>by cases hu
 | y::xs,u::us,.cons r t,f=>λu' hu=>by
  rw[List.all_cons,Bool.and_eq_true] at f
  rcases List.mem_cons.mp hu with rfl | hu
  ·rw[zmv r f.1];exact zmu r rx f.1 fx
  ·exact zel rx fx t f.2 u' hu
def inV (x:V)(xs:List V):Bool:=xs.any λy=>eqV y x
def rIn (K:Fg)(neg:Bool):R2:=λx y H Q=>∃ p xs,y=.ref p/\(SqL K H p xs\/SqT K H p xs)/\zds x=true/\xs.all zds=true/\Q (.bl (if neg then !inV x xs else inV x xs)) H
theorem zkv:OpR X (compareOp .In) (rIn X.K false):=by
 intro pins s σ H x y v u Q I rx ry h
 obtain⟨p,xs,rfl,hq,fx,fs,q⟩:=h
 cases ry
 rcases hq with hq | hq
 ·obtain⟨its,r,pl,hz⟩:=I.list hq
  refine SeqAt.in_listAt (eqU x) pl.isList (λw hw=>zel rx fx r fs w (by simpa using hw)) ⟨.bl _,H,I,rfl,?_⟩
  rw[show its.toArray.any (eqU x)=its.any (eqU x) by simp,zfv r fs]
  exact q
 ·obtain⟨its,r,pl,hz⟩:=I.tuple hq
  refine SeqAt.in_tupleAt (eqU x) pl (λw hw=>zel rx fx r fs w (by simpa using hw)) ⟨.bl _,H,I,rfl,?_⟩
  rw[show its.toArray.any (eqU x)=its.any (eqU x) by simp,zfv r fs]
  exact q
theorem zhD:OpR X (compareOp .NotIn) (rIn X.K true):=by
 intro pins s σ H x y v u Q I rx ry h
 obtain⟨p,xs,rfl,hq,fx,fs,q⟩:=h
 cases ry
 rcases hq with hq | hq
 ·obtain⟨its,r,pl,hz⟩:=I.list hq
  refine SeqAt.notIn_listAt (eqU x) pl.isList (λw hw=>zel rx fx r fs w (by simpa using hw)) ⟨.bl _,H,I,rfl,?_⟩
  rw[show its.toArray.any (eqU x)=its.any (eqU x) by simp,zfv r fs]
  exact q
 ·obtain⟨its,r,pl,hz⟩:=I.tuple hq
  refine SeqAt.notIn_tupleAt (eqU x) pl (λw hw=>zel rx fx r fs w (by simpa using hw)) ⟨.bl _,H,I,rfl,?_⟩
  rw[show its.toArray.any (eqU x)=its.any (eqU x) by simp,zfv r fs]
  exact q
theorem zhE:zb2 X (.builtin "len") (λxs H Q=>∃ p ys,xs=[.ref p]/\(SqL X.K H p ys\/SqT X.K H p ys)/\Q (.int ys.length) H):=by
 intro pins s σ H xs us Q I r h
 obtain⟨p,ys,rfl,hq,q⟩:=h
 obtain⟨u,rfl,rx⟩:=zfq r
 cases rx
 have hn:=zgB
 rcases hq with hq | hq
 ·obtain⟨its,r',pl,hz⟩:=I.list hq
  have hlen:=r'.length
  exact Calls.call_len_list pl.isList (by simp only[zst] <;> omega) ⟨.int ys.length,H,I.tok _,⟨s.toks+1,by rw[zst,hlen]⟩,q⟩
 ·obtain⟨its,r',pl,hz⟩:=I.tuple hq
  have hlen:=r'.length
  exact len_tuple pl (by simp only[zst] <;> omega) ⟨.int ys.length,H,I.tok _,⟨s.toks+1,by rw[zst,hlen]⟩,q⟩
theorem zhF:zb2 X (.type "list") (λxs H Q=>∃ p ys,xs=[.ref p]/\(SqL X.K H p ys\/SqT X.K H p ys)/\∀ l,H l=none->Q (.ref l) (upd H l (.lst ys))):=by
 intro pins s σ H xs us Q I r h
 obtain⟨p,ys,rfl,hq,q⟩:=h
 obtain⟨u,rfl,rx⟩:=zfq r
 cases rx
 have fin:∀ (its:List Value),Vals ys its->ys.length<=sizeLine->∀ (h':Heap) (c':Nat),(∀ b o',s.heap.get? b=some o'->h'.get? b=some o')->
   h'.get? s.heap.objs.size=some {cls:=.type "list",dict:=none,data:=.seq its.toArray c',slots:=#[]}->EP X pins σ Q (.ref s.heap.objs.size) {s with heap:=h'}:=λits r' hz h' c' kp e=>
  ⟨.ref s.heap.objs.size,_,I.laid (t':=s.toks) kp (Nat.le_refl _) (show zbv X.prog X.w _ h' _ (.lst ys) from ⟨hz,its,c',r',e⟩),rfl,q _ (I.hok.fresh (Nat.le_refl _))⟩
 rcases hq with hq | hq
 ·obtain⟨its,r',pl,hz⟩:=I.list hq
  have hlen:=r'.length
  obtain⟨o,ho,hc,n,hd⟩:=pl.isList
  exact call_list_seq p (.inl rfl) ho hc hd (λh' c' kp e=>fin its r' hz h' c' kp e) (by simp only[zst] <;> omega)
 ·obtain⟨its,r',pl,hz⟩:=I.tuple hq
  have hlen:=r'.length
  obtain⟨o,ho,hc,n,hd⟩:=pl
  exact call_list_seq p (.inr rfl) ho hc hd (λh' c' kp e=>fin its r' hz h' c' kp e) (by simp only[zst] <;> omega)
theorem zgX:zb2 X (.type "tuple") (λxs H Q=>∃ p ys,xs=[.ref p]/\((SqL X.K H p ys/\∀ l,H l=none->Q (.ref l) (upd H l (.tup ys)))\/(SqT X.K H p ys/\Q (.ref p) H))):=by
 intro pins s σ H xs us Q I r h
 obtain⟨p,ys,rfl,h⟩:=h
 obtain⟨u,rfl,rx⟩:=zfq r
 cases rx
 rcases h with ⟨hq,q⟩ | ⟨hq,q⟩
 ·obtain⟨its,r',pl,hz⟩:=I.list hq
  have hlen:=r'.length
  refine call_tuple_list pl.isList (λh' kp=>?_) (by simp only[zst] <;> omega)
  have I1:Inv X pins σ H {s with heap:=h'}:=I.kept (t':=s.toks) kp
  have I2:Inv X pins σ (upd H h'.objs.size (.tup ys)) {s with heap:=h'.push {cls:=.type "tuple",data:=.seq its.toArray}}:=
   I1.laid (t':=s.toks) (λb o e=>Heap.get?_push_of_some _ e) (Nat.le_refl _) (show zbv X.prog X.w _ _ _ (.tup ys) from ⟨hz,its,r',IsTup.new _ _⟩)
  exact⟨.ref h'.objs.size,_,I2,rfl,q _ (I1.hok.fresh (Nat.le_refl _))⟩
 ·obtain⟨its,r',pl,hz⟩:=I.tuple hq
  exact call_tuple_same pl ⟨.ref p,H,I,rfl,q⟩
def tyV (K:Fg)(T:String)(x:V)(H:Hp):Prop:=match x with
 | .str _=>T ="str"
 | .int _=>T ="int"
 | .ref p=>(T ="list" /\∃ xs,SqL K H p xs)\/(T ="tuple" /\∃ o,K.lookup p=some o/\o.cls=.type "tuple" /\o.dict=none)\/
   (T ="dict" /\((∃ kvs,H p=some (.dK kvs))\/∃ kvs,H p=some (.dT kvs)))\/(T ="set" /\∃ S n,H p=some (.set S n))
 | _=>False
theorem zmw {pins:List (Addr × Obj)}{σ:St}{H:Hp}{s:Shared}{T:String}{x:V}{v:Value}(I:Inv X pins σ H s)(r:RelV x v)(ty:tyV X.K T x H) :
  s.TypeIs v T/\∀ a,v=.ref a->∃ ob,s.heap.get? a=some ob/\ob.dict=none:=by
 cases x with
 | str z=>
  obtain⟨t,rfl⟩:=r
  cases (show T ="str" from ty)
  exact⟨typeIs_str s z t,λ_ e=>nomatch e⟩
 | int i=>
  obtain⟨t,rfl⟩:=r
  cases (show T ="int" from ty)
  exact⟨typeIs_int s i t,λ_ e=>nomatch e⟩
 | ref p=>
  cases r
  rcases ty with ⟨rfl,xs,hq⟩ | ⟨rfl,o,hk,hc,hd⟩ | ⟨rfl,hk⟩ | ⟨rfl,S,n,hk⟩
  ·obtain⟨its,_,pl,_⟩:=I.list hq
   refine⟨pl.isList.typeIs,λa e=>?_⟩
   cases e
   obtain⟨o,n,e,c,hd,_⟩:=pl
   exact⟨o,e,hd⟩
  ·refine⟨⟨o,I.kIn p o hk,hc⟩,λa e=>?_⟩
   cases e
   exact⟨o,I.kIn _ o hk,hd⟩
  ·have z:∃ o,s.heap.get? p=some o/\o.ExactDict:=by
    rcases hk with ⟨kvs,hk⟩ | ⟨kvs,hk⟩
    ·obtain⟨_,_,_,_,o,_,_,e,ex,_⟩:=I.hok p _ hk
     exact⟨o,e,ex⟩
    ·obtain⟨_,_,_,_,o,_,_,e,ex,_⟩:=I.hok p _ hk
     exact⟨o,e,ex⟩
   obtain⟨o,e,ex⟩:=z
   refine⟨⟨o,e,ex.1⟩,λa e2=>?_⟩
   cases e2
   exact⟨o,e,ex.2.1⟩
  ·obtain⟨o,_,_,_,e,ex,_⟩:=I.hok p _ hk
   refine⟨⟨o,e,ex.1⟩,λa e2=>?_⟩
   cases e2
   exact⟨o,e,ex.2.1⟩
 | _=>exact False.elim ty
def tBM0 (K:Fg)(T:String)(r:V->List V->Hp->VK->Prop)(to:TE):TE:=λσ H Q=>to σ H λx H1=>tyV K T x H1/\r x [] H1 Q
def tBM (K:Fg)(T:String)(r:V->List V->Hp->VK->Prop)(to:TE)(t:TA):TE:=λσ H Q=>to σ H λx H1=>tyV K T x H1/\t σ H1 λxs H2=>r x xs H2 Q
variable {o e:Expr}{es:List Expr}{to:TE}{t:TA}{name:Str}{apos cpos:Pos}{T id:String}{r:V->List V->Hp->VK->Prop}
theorem zor (pa:PlainAttrs T)(slot:Slot T name id)(hty:typeOf (.builtin id)=pure (.type "method_descriptor"))(hm:MtR X id r)(ho:PE X o to)
  (hbase:attributeBase o name X.env (eval o X.env)=eval o X.env:=by rfl) (hline:(apos.endLine == cpos.line)=true:=by rfl):PE X (.Call (.Attribute o name apos) [] [] cpos) (tBM0 X.K T r to):=by
 intro pins s σ H Q I h
 refine wpAny_Call_method0_late hbase hline (thn (ho pins s σ H _ I h) λv s1 ⟨x,H1,I1,r1,ty,q1⟩=>?_)
 obtain⟨h1,h2⟩:=zmw I1 r1 ty
 exact⟨T,id,pa,slot,hty,h1,h2,Calls.callWith_builtin rfl (PySem.evalArgs_none (hm pins s1 σ H1 x [] v [] Q I1 r1 .nil q1))⟩
theorem zjE (pa:PlainAttrs T)(slot:Slot T name id)(hty:typeOf (.builtin id)=pure (.type "method_descriptor"))(hm:MtR X id r)(ho:PE X o to)(ha:PA X (e::es) t)
  (hbase:attributeBase o name X.env (eval o X.env)=eval o X.env:=by rfl)
  (hfew:((backTo cpos (starEach (e::es) X.env)).all (λx=>!x.1) && (backToKw cpos (keywordEach [] X.env)).all (λx=>x.1.isSome)
   && decide ((e::es).length+([]:List Keyword).length+(if ([]:List Keyword).isEmpty then 0 else 1)<30))=true:=by rfl)
  (hline:(apos.endLine == cpos.line)=true:=by rfl) (hs:starEach (e::es) X.env=(false,eval e X.env)::starEach es X.env:=by rfl) (hplain:(backTo cpos (starEach es X.env)).any (·.1)=false:=by rfl) :
  PE X (.Call (.Attribute o name apos) (e::es) [] cpos) (tBM X.K T r to t):=by
 intro pins s σ H Q I h
 refine wpAny_Call_method_late hbase hfew hline rfl (thn (ho pins s σ H _ I h) λv s1 ⟨x,H1,I1,r1,ty,q1⟩=>?_)
 obtain⟨h1,h2⟩:=zmw I1 r1 ty
 refine⟨T,id,pa,slot,hty,h1,h2,?_⟩
 have hA:=ha cpos pins s1 σ H1 _ I1 q1
 rw[hs] at hA ⊢
 refine Calls.callWith_builtin (by show (false || (backTo cpos (starEach es X.env)).any (·.1))=false;rw[hplain] <;> rfl) (Calls.evalArgs_plain ?_)
 exact thn hA λus s2 ⟨vs,H2,I2,r2,q2⟩=>hm pins s2 σ H2 x vs v us Q I2 r1 r2 q2
/- xs.append(e),list.index on a module's tuple .. are MtR facts of 06m -/
end
end L2

namespace L2
open PySem PySem.Spec PyProof.Rows

def MtM (X:Cx)(id:String)(r:V->List V->Hp->VK->Prop):Prop:=
 ∀ (pins:List (Addr × Obj)) (s:Shared) (σ:St) (H:Hp) (x:V) (xs:List V) (v:Value) (us:List Value) (Q:VK),Inv X pins σ H s->RelV x v->Vals xs us->r x xs H Q->
  wpAny (model X.prog X.w) X.A (call (.builtin id) (v::us)) (EP X pins σ Q) X.xe s
theorem Vals.one:∀ {x:V}{us:List Value},Vals [x] us->∃ u,us=[u]/\RelV x u
 | _,_,.cons r .nil=>⟨_,rfl,r⟩
theorem Vals.two:∀ {x y:V}{us:List Value},Vals [x,y] us->∃ u v,us=[u,v]/\RelV x u/\RelV y v
 | _,_,_,.cons r (.cons q .nil)=>⟨_,_,rfl,r,q⟩
theorem Vals.zero:∀ {us:List Value},Vals [] us->us=[]
 | _,.nil=>rfl
theorem Vals.dropLast {xs:List V}{us:List Value}(h:Vals xs us):Vals xs.dropLast us.dropLast:=by
 induction h with
 | nil=>exact .nil
 | cons r t ih=>
  cases t with
  | nil=>exact .nil
  | cons q t'=>exact .cons r ih
theorem Vals.rep {xs:List V}{us:List Value}(h:Vals xs us):∀ k:Nat,Vals (List.replicate k xs).flatten (List.replicate k us).flatten
 | 0=>.nil
 | k+1=>by
  rw[List.replicate_succ,List.replicate_succ,List.flatten_cons,List.flatten_cons]
  exact Vals.append h (Vals.rep h k)
theorem zjF {α:Type}(l:List α):l.eraseIdx (l.length - 1)=l.dropLast:=by
 induction l with
 | nil=>rfl
 | cons a r ih=>
  cases r with
  | nil=>rfl
  | cons b r=>
   have e:(a::b::r).length - 1=((b::r).length - 1)+1:=by
    have h1:(a::b::r).length=r.length+2:=rfl
    have h2:(b::r).length=r.length+1:=rfl
    omega
   rw[e,List.eraseIdx_cons_succ,ih]
   all_goals rfl
theorem zhG (its:List Value):∀ (k:Nat) (acc:List Value),
  List.foldl (λx1 x2=>x1++x2) acc.toArray (List.replicate k its.toArray)=(acc++(List.replicate k its).flatten).toArray
 | 0,acc=>by simp
 | k+1,acc=>by
  have e:acc.toArray++its.toArray=(acc++its).toArray:=by simp
  have e2:(acc++its)++(List.replicate k its).flatten=acc++(List.replicate (k+1) its).flatten:=by
   rw[List.replicate_succ,List.flatten_cons,List.append_assoc]
  rw[<-e2,<-zhG its k (acc++its),<-e,List.replicate_succ,List.foldl_cons]
section
variable {X:Cx}{pins:List (Addr × Obj)}{σ:St}{H:Hp}{s:Shared}{l b:Addr}{xs ys zs:List V}

theorem Inv.lset {its its':List Value}{n:Nat}{f:Array Value->Array Value}{t':Nat}(I:Inv X pins σ H s)(hH:H l=some (.lst xs))
  (e:s.heap.get? l=some {cls:=.type "list",data:=.seq its.toArray n}) (hf:f its.toArray=its'.toArray) (hv:Vals ys its') (hz:ys.length<=sizeLine) :
  Inv X pins σ (upd H l (.lst ys)) {s with heap:=s.heap.update l (Obj.mapSeq f),toks:=t'}:=by
 have q:=PySem.IsL.update e f
 rw[hf] at q
 refine I.write (x:=l) (e:=l) (by rw[hH];exact trivial) (.inl rfl) (λb' u hb hu=>(Heap.get?_update_other s.heap (Obj.mapSeq f) (Ne.symm hb)).trans hu) ⟨_,q⟩ ?_
 exact⟨hz,its',_,hv,q⟩
theorem Inv.lnew {its:List Value}{t':Nat}(I:Inv X pins σ H s)(hv:Vals ys its)(hz:ys.length<=sizeLine) :
  Inv X pins σ (upd H s.heap.objs.size (.lst ys)) {s with heap:=s.heap.push {cls:=.type "list",data:=.seq its.toArray},toks:=t'}:=
 I.laid (λ_ _ q=>Heap.get?_push_of_some _ q) (Nat.le_refl _) ⟨hz,its,0,hv,Heap.get?_push_size _ rfl⟩
theorem Inv.fresh (I:Inv X pins σ H s):H s.heap.objs.size=none:=I.hok.fresh (Nat.le_refl _)
theorem Inv.lstM (I:Inv X pins σ H s)(hH:H l=some (.lst xs)):xs.length<=sizeLine/\∃ (its:List Value) (n:Nat),Vals xs its/\xs.length=its.length/\s.heap.get? l=some {cls:=.type "list",data:=.seq its.toArray n}:=by
 obtain⟨z,its,n,r,e⟩:=I.hok l _ hH
 exact⟨z,its,n,r,r.length,e⟩
theorem zi3 {n:Nat}(h:n<=sizeLine):Builtin.List.listTooLong n=false:=by
 unfold Builtin.List.listTooLong
 exact decide_eq_false (by omega)
end

section
variable {X:Cx}

def zkw:V->List V->Hp->VK->Prop:=λx vs H Q=>∃ l xs y,x=.ref l/\vs=[y]/\H l=some (.lst xs)/\xs.length<sizeLine/\Q .non (upd H l (.lst (xs++[y])))
theorem zc0:MtM X "list.append" zkw:=by
 intro pins s σ H x vs v us Q I rx rv h
 obtain⟨l,xs,y,rfl,rfl,hH,hz,q⟩:=h
 cases rx
 obtain⟨u,rfl,ru⟩:=rv.one
 obtain⟨z,its,n,r,hl,e⟩:=I.lstM hH
 refine call_meets F.slot_list_append ⟨_,e,rfl⟩ F.entry_list_append (F.args_list_append_2 _ _) (PySem.list_append l its.toArray n u (by rw[zst];omega)) ⟨e,?_⟩
 refine⟨.non,_,I.lset (its':=its++[u]) hH e (by simp) (r.append (.cons ru .nil)) ?_,rfl,q⟩
 rw[List.length_append,List.length_singleton]
 omega
def zm9:V->List V->Hp->VK->Prop:=λx vs H Q=>∃ l b xs zs,x=.ref l/\vs=[.ref b]/\H l=some (.lst xs)/\H b=some (.lst zs)/\xs.length+zs.length<=sizeLine/\Q .non (upd H l (.lst (xs++zs)))
theorem zhH:MtM X "list.extend" zm9:=by
 intro pins s σ H x vs v us Q I rx rv h
 obtain⟨l,b,xs,zs,rfl,rfl,hH,hB,hz,q⟩:=h
 cases rx
 obtain⟨u,rfl,ru⟩:=rv.one
 cases ru
 obtain⟨z,its,n,r,hl,e⟩:=I.lstM hH
 obtain⟨z2,its2,n2,r2,hl2,e2⟩:=I.lstM hB
 have hsz:its.toArray.size+its2.toArray.size<=sizeLine:=by rw[zst,zst];omega
 have hlong:¬ (!its.toArray.isEmpty && Builtin.List.listTooLong (its.toArray.size+its2.toArray.size))=true:=by
  rw[zi3 hsz,Bool.and_false]
  exact Bool.false_ne_true
 refine call_meets F.slot_list_extend ⟨_,e,rfl⟩ F.entry_list_extend (F.args_list_extend_2 _ _)
  (AutoSeq1.list_extend_list_list_0 l its.toArray n b its2.toArray n2 hlong (by rw[zst];omega) (by omega)) ⟨e,e2,?_⟩
 refine⟨.non,_,I.lset (its':=its++its2) hH e (by simp) (r.append r2) ?_,rfl,q⟩
 rw[List.length_append]
 omega
def rPop:V->List V->Hp->VK->Prop:=λx vs H Q=>∃ l xs y,x=.ref l/\vs=[]/\H l=some (.lst xs)/\xs[xs.length - 1]?=some y/\Q y (upd H l (.lst xs.dropLast))
theorem zos:MtM X "list.pop" rPop:=by
 intro pins s σ H x vs v us Q I rx rv h
 obtain⟨l,xs,y,rfl,rfl,hH,hy,q⟩:=h
 cases rx
 have hus:=rv.zero
 subst hus
 obtain⟨z,its,n,r,hl,e⟩:=I.lstM hH
 obtain⟨u,hu,ru⟩:=r.get hy
 have hy':its.toArray[its.toArray.size - 1]?=some u:=by
  show its.toArray[its.length - 1]?=some u
  rw[<-Array.getElem?_toList,<-hl]
  exact hu
 refine call_meets F.slot_list_pop ⟨_,e,rfl⟩ F.entry_list_pop (F.args_list_pop_1 _) (MeetsSeq.list_pop_last l its.toArray n u hy' (by rw[zst];omega)) ⟨e,?_⟩
 refine⟨y,_,I.lset (its':=its.dropLast) hH e ?_ r.dropLast ?_,ru,q⟩
 ·show its.toArray.eraseIdxIfInBounds (its.toArray.size - 1)=its.dropLast.toArray
  rw[zst,List.eraseIdxIfInBounds_toArray,zjF]
 ·rw[List.length_dropLast]
  omega
def rCat:R2:=λx y H Q=>∃ l b xs zs,x=.ref l/\y=.ref b/\H l=some (.lst xs)/\H b=some (.lst zs)/\xs.length+zs.length<=sizeLine/\∀ p,H p=none->Q (.ref p) (upd H p (.lst (xs++zs)))
theorem zot:OpR X (binaryOp .Add) rCat:=by
 intro pins s σ H x y v u Q I rx ry h
 obtain⟨l,b,xs,zs,rfl,rfl,hH,hB,hz,q⟩:=h
 cases rx
 cases ry
 obtain⟨z,its,n,r,hl,e⟩:=I.lstM hH
 obtain⟨z2,its2,n2,r2,hl2,e2⟩:=I.lstM hB
 refine PySem.P.add_list e e2 ?_ (by rw[zst,zst];omega)
 have ea:its.toArray++its2.toArray=(its++its2).toArray:=by simp
 rw[ea]
 exact⟨.ref _,_,I.lnew (t':=s.toks) (r.append r2) (by rw[List.length_append];omega),rfl,q _ I.fresh⟩
def rRep:R2:=λx y H Q=>∃ l k xs,x=.ref l/\y=.int k/\H l=some (.lst xs)/\-(2 ^ 63)<=k/\k<2 ^ 63/\xs.length * k.toNat<=sizeLine/\
 ∀ p,H p=none->Q (.ref p) (upd H p (.lst (List.replicate k.toNat xs).flatten))
theorem zna {α:Type}(xs:List α)(k:Nat):(List.replicate k xs).flatten.length=k * xs.length:=by
 induction k with
 | zero=>simp
 | succ k ih=>rw[List.replicate_succ,List.flatten_cons,List.length_append,ih,Nat.succ_mul,Nat.add_comm]
theorem zou:OpR X (binaryOp .Mult) rRep:=by
 intro pins s σ H x y v u Q I rx ry h
 obtain⟨l,k,xs,rfl,rfl,hH,h1,h2,hz,q⟩:=h
 cases rx
 obtain⟨t,rfl⟩:=ry
 obtain⟨z,its,n,r,hl,e⟩:=I.lstM hH
 have hlen:its.toArray.size * k.toNat<=sizeLine:=by rw[zst,<-hl];exact hz
 have hcap:¬ its.toArray.size * k.toNat>(2 ^ 63 - 1) / 8:=by
  have:(sizeLine:Nat)<=(2 ^ 63 - 1) / 8:=by decide
  omega
 have hfit:¬ (!Builtin.List.listFitsIndex k)=true:=by
  rw[fitsIndex_both h1 h2]
  exact Bool.false_ne_true
 have hlong:¬ Builtin.List.listTooLong (its.toArray.size * k.toNat)=true:=by
  rw[zi3 hlen]
  exact Bool.false_ne_true
 have hnew:List.foldl (λx1 x2=>x1++x2) #[] (List.replicate (if its.toArray.isEmpty=true then 0 else k.toNat) its.toArray)=(List.replicate k.toNat its).flatten.toArray:=by
  have f0:∀ m:Nat,List.foldl (λx1 x2=>x1++x2) #[] (List.replicate m its.toArray)=(List.replicate m its).flatten.toArray:=λm=>by
   have:=zhG its m []
   rw[List.nil_append] at this
   exact this
  rw[f0]
  cases its with
  | nil=>simp
  | cons a r'=>rw[if_neg (by simp)]
 refine wpAny_binaryOp_repeat_ref (T:="list") (U:="int") (by decide) ⟨_,e,rfl⟩ (λs'=>typeIs_int s' k t) noFill_list_mul F.fills_int_mul F.slot_int_rmul repeat_list F.slot_int_index.lookup
  (call_meets F.slot_int_rmul (typeIs_int s k t) F.entry_int_rmul (F.args_int_rmul_2 _ _) (int___rmul___int_list k t l its.toArray n)
   ⟨e,rfl,⟨_,e,rfl⟩,call_meets F.slot_list_mul ⟨_,e,rfl⟩ F.entry_list_mul (F.args_list_mul_2 _ _) (AutoListH.list___mul___list_int_3 l its.toArray n k t hfit hcap hlong) ⟨e,?_⟩⟩)
 rw[hnew]
 exact⟨.ref _,_,I.lnew (t':=s.toks) (r.rep k.toNat) (by rw[zna,Nat.mul_comm];exact hz),rfl,q _ I.fresh⟩
end

section
variable {prog:Program}{w:World}{A:Around}{E:Value->Shared->Prop}{s:Shared}
set_option maxRecDepth 100000 in
end

section
variable {X:Cx}
end
end L2
namespace L2
open PySem PySem.Spec PyProof.Rows

section
variable {κ:Type} [DecidableEq κ]
def valV (kvs:List (κ × V))(k:κ):Option V:=(kvs.find? λkv=>decide (kv.1=k)).map (·.2)
def putK (kvs:List (κ × V))(k:κ)(v:V):List (κ × V):=
 if (kvs.any λkv=>decide (kv.1=k))=true then kvs.map (λkv=>if kv.1=k then (kv.1,v) else kv) else kvs++[(k,v)]
def zbI (kvs:List (κ × V))(k:κ):List (κ × V):=kvs.filter λkv=>decide (kv.1≠k)
theorem zbw {p:κ × V}{r:List (κ × V)}{k:κ}(e:p.1=k):valV (p::r) k=some p.2:=by simp[valV,List.find?_cons,e]
theorem zbp {p:κ × V}{r:List (κ × V)}{k:κ}(e:¬ p.1=k):valV (p::r) k=valV r k:=by simp[valV,List.find?_cons,e]
theorem zcN (k:κ):∀ kvs:List (κ × V),(kvs.any λkv=>decide (kv.1=k))=(valV kvs k).isSome
 | []=>rfl
 | p::r=>by
  rw[List.any_cons]
  by_cases e:p.1=k
  ·simp only[zbw e,decide_eq_true e,Bool.true_or,Option.isSome_some]
  ·rw[zbp e,decide_eq_false e,Bool.false_or];exact zcN k r
theorem zi4 (k j:κ)(y:V):∀ kvs:List (κ × V),valV (kvs.map λkv=>if kv.1=k then (kv.1,y) else kv) j=(valV kvs j).map λx=>if j=k then y else x
 | []=>rfl
 | p::r=>by
  have ih:=zi4 k j y r
  rw[zmc]
  by_cases h:p.1=k
  ·rw[if_pos h]
   by_cases e:p.1=j
   ·rw[zbw (p:=(p.1,y)) e,zbw e,Option.map_some,if_pos (e.symm.trans h)]
   ·rw[zbp (p:=(p.1,y)) e,zbp e,ih]
  ·rw[if_neg h]
   by_cases e:p.1=j
   ·rw[zbw (p:=p) e,zbw e,Option.map_some,if_neg (λz=>h (e.trans z))]
   ·rw[zbp (p:=p) e,zbp e,ih]
theorem zhI (k j:κ)(y:V):∀ kvs:List (κ × V),valV kvs k=none->valV (kvs++[(k,y)]) j=if j=k then some y else valV kvs j
 | [],_=>by
  by_cases e:k=j
  ·rw[if_pos e.symm];exact zbw (p:=(k,y)) e
  ·rw[if_neg (λz=>e z.symm)];exact zbp (p:=(k,y)) e
 | p::r,hn=>by
  rw[List.cons_append]
  have hk:¬ p.1=k:=λz=>by rw[zbw z] at hn;cases hn
  rw[zbp hk] at hn
  have ih:=zhI k j y r hn
  by_cases e:p.1=j
  ·rw[zbw e,zbw e,if_neg (λz=>hk (e.trans z))]
  ·rw[zbp e,zbp e,ih]
theorem zdJ (kvs:List (κ × V))(k j:κ)(y:V):valV (putK kvs k y) j=if j=k then some y else valV kvs j:=by
 unfold putK
 by_cases a:(kvs.any λkv=>decide (kv.1=k))=true
 ·rw[if_pos a,zi4]
  rw[zcN] at a
  by_cases e:j=k
  ·obtain⟨x,hx⟩:=Option.isSome_iff_exists.mp a
   rw[if_pos e,e,hx,Option.map_some,if_pos rfl]
  ·rw[if_neg e]
   cases valV kvs j with
   | none=>rfl
   | some x=>rw[Option.map_some,if_neg e]
 ·rw[if_neg a]
  refine zhI k j y kvs ?_
  rw[zcN] at a
  cases q:valV kvs k with
  | none=>rfl
  | some x=>rw[q] at a;exact (a rfl).elim
theorem zd3 (kvs:List (κ × V))(k:κ)(v:V):(putK kvs k v).length<=kvs.length+1:=by
 unfold putK
 split
 ·rw[zlm];omega
 ·rw[List.length_append,List.length_cons,List.length_nil];omega
theorem zlD {kvs:List (κ × V)}{k:κ}(v:V)(h:valV kvs k=none):putK kvs k v=kvs++[(k,v)]:=by
 unfold putK
 rw[zcN,h]
 exact if_neg (by decide)
theorem RelO.isSome_eq {o:Option V}{u:Option Value}(r:RelO o u):o.isSome=u.isSome:=by
 cases o with
 | none=>cases u with
  | none=>rfl
  | some _=>exact (show False from r).elim
 | some _=>cases u with
  | none=>exact (show False from r).elim
  | some _=>rfl
theorem RelO.getD {o:Option V}{u:Option Value}{d:V}{d':Value}(r:RelO o u)(rd:RelV d d'):RelV (o.getD d) (u.getD d'):=by
 cases o with
 | none=>cases u with
  | none=>exact rd
  | some _=>exact (show False from r).elim
 | some _=>cases u with
  | none=>exact (show False from r).elim
  | some _=>exact r
theorem KV.val {kvs:List (κ × V)}{vs:List (κ × Value)}(r:KV kvs vs)(k:κ):RelO (valV kvs k) (valueAt vs k):=by
 unfold KV at r
 induction r with
 | nil=>exact True.intro
 | @cons p q ps qs h t ih=>
  obtain⟨h1,h2⟩:=h
  by_cases e:p.1=k
  ·have e':q.1=k:=h1.symm.trans e
   have b:valueAt (q::qs) k=some q.2:=by simp[valueAt,List.find?_cons,e']
   rw[zbw e,b];exact h2
  ·have e':¬ q.1=k:=λz=>e (h1.trans z)
   have b:valueAt (q::qs) k=valueAt qs k:=by simp[valueAt,List.find?_cons,e']
   rw[zbp e,b];exact ih
theorem KV.any {kvs:List (κ × V)}{vs:List (κ × Value)}(r:KV kvs vs)(k:κ):(kvs.any λkv=>decide (kv.1=k))=vs.any λkv=>decide (kv.1=k):=by
 unfold KV at r
 induction r with
 | nil=>rfl
 | cons h t ih=>rw[List.any_cons,List.any_cons,ih,h.1]
theorem KV.repl {kvs:List (κ × V)}{vs:List (κ × Value)}(r:KV kvs vs)(k:κ){y:V}{u:Value}(ry:RelV y u) :
  KV (kvs.map λkv=>if kv.1=k then (kv.1,y) else kv) (vs.map λkv=>if kv.1=k then (kv.1,u) else kv):=by
 unfold KV at r ⊢
 induction r with
 | nil=>exact .nil
 | @cons p q ps qs h t ih=>
  rw[zmc,zmc]
  refine .cons ?_ ih
  obtain⟨h1,h2⟩:=h
  by_cases e:p.1=k
  ·rw[if_pos e,if_pos (h1.symm.trans e)];exact⟨h1,ry⟩
  ·rw[if_neg e,if_neg (λz=>e (h1.trans z))];exact⟨h1,h2⟩
theorem KV.put {kvs:List (κ × V)}{vs:List (κ × Value)}(r:KV kvs vs)(k:κ){y:V}{u:Value}(ry:RelV y u):KV (putK kvs k y) (stored vs k u):=by
 unfold putK stored
 rw[r.any k]
 by_cases e:(vs.any λkv=>decide (kv.1=k))=true
 ·rw[if_pos e,if_pos e];exact r.repl k ry
 ·rw[if_neg e,if_neg e];exact Paired.snoc r ⟨rfl,ry⟩
theorem KV.drop {kvs:List (κ × V)}{vs:List (κ × Value)}(r:KV kvs vs)(k:κ):KV (zbI kvs k) (without vs k):=by
 unfold KV at r ⊢
 unfold zbI without
 induction r with
 | nil=>exact .nil
 | @cons p q ps qs h t ih=>
  obtain⟨h1,h2⟩:=h
  rw[List.filter_cons,List.filter_cons]
  by_cases e:p.1=k
  ·have a:¬ decide (p.1≠k)=true:=by simp[e]
   have b:¬ decide (q.1≠k)=true:=by simp[h1.symm.trans e]
   rw[if_neg a,if_neg b];exact ih
  ·have e':¬ q.1=k:=λz=>e (h1.trans z)
   have a:decide (p.1≠k)=true:=by simp[e]
   have b:decide (q.1≠k)=true:=by simp[e']
   rw[if_pos a,if_pos b];exact .cons ⟨h1,h2⟩ ih
theorem KV.keys {kvs:List (κ × V)}{vs:List (κ × Value)}(r:KV kvs vs):kvs.map (·.1)=vs.map (·.1):=by
 unfold KV at r
 induction r with
 | nil=>rfl
 | cons h t ih=>rw[zmc,zmc,ih,h.1]
theorem KV.length {kvs:List (κ × V)}{vs:List (κ × Value)}(r:KV kvs vs):kvs.length=vs.length:=Paired.length r
theorem zi5 (kvs:List (κ × V))(k:κ):(zbI kvs k).length<=kvs.length:=List.length_filter_le _ _
end


theorem zgc {P:Program}{w:World}{k:Key}{u:Value}(r:RelV (kV k) u):(za2 P w).is k u=true:=by
 cases k with
 | inl i=>obtain⟨t,e⟩:=(show ∃ t,u=Value.int i t from r);subst e;exact zin P w i t
 | inr x=>obtain⟨t,e⟩:=(show ∃ t,u=Value.str x t from r);subst e;exact zio P w x t
theorem zhJ {P:Program}{w:World} : ∀ {ks:List Key}{us:List Value},Vals (ks.map kV) us->ItemsAre (za2 P w) ks us
 | [],_,r=>by rw[List.map_nil] at r;cases r;exact .nil
 | k::ks,_,r=>by
  rw[zmc] at r
  cases r with
  | cons h t=>exact .cons (zgc h) (zhJ t)
abbrev KT (H:Hp):List (List Key × V)->List (List Key × Addr × Value)->Prop:=Paired λp q=>p.1=q.1/\H q.2.1=some (.tup (p.1.map kV))/\RelV p.2 q.2.2
theorem KT.val {H:Hp}{kvs:List (List Key × V)}{xs:List (List Key × Addr × Value)}(r:KT H kvs xs)(k:List Key):RelO (valV kvs k) ((atKey xs k).map (·.2)):=by
 induction r with
 | nil=>exact True.intro
 | @cons p q ps qs h t ih=>
  obtain⟨h1,_,h2⟩:=h
  by_cases e:p.1=k
  ·have e':q.1=k:=h1.symm.trans e
   have b:atKey (q::qs) k=some q.2:=by simp[atKey,List.find?_cons,e']
   rw[zbw e,b];exact h2
  ·have e':¬ q.1=k:=λz=>e (h1.trans z)
   have b:atKey (q::qs) k=atKey qs k:=by simp[atKey,List.find?_cons,e']
   rw[zbp e,b];exact ih
theorem KT.repl {H:Hp}{kvs:List (List Key × V)}{xs:List (List Key × Addr × Value)}(r:KT H kvs xs)(k:List Key){y:V}{u:Value}(ry:RelV y u) :
  KT H (kvs.map λkv=>if kv.1=k then (kv.1,y) else kv) (xs.map (putAt k u)):=by
 induction r with
 | nil=>exact .nil
 | @cons p q ps qs h t ih=>
  rw[zmc,zmc]
  refine .cons ?_ ih
  obtain⟨h1,h2,h3⟩:=h
  unfold putAt
  by_cases e:p.1=k
  ·rw[if_pos e,if_pos (h1.symm.trans e)];exact⟨h1,h2,ry⟩
  ·rw[if_neg e,if_neg (λz=>e (h1.trans z))];exact⟨h1,h2,h3⟩
theorem KT.put {H:Hp}{kvs:List (List Key × V)}{xs:List (List Key × Addr × Value)}(r:KT H kvs xs)(k:List Key){b:Addr}{y:V}{u:Value}(hb:H b=some (.tup (k.map kV)))(ry:RelV y u) :
  KT H (putK kvs k y) (storedH xs k b u):=by
 have e:(kvs.any λkv=>decide (kv.1=k))=(atKey xs k).isSome:=by
  rw[zcN,(r.val k).isSome_eq,Option.isSome_map]
 unfold putK storedH
 rw[e]
 by_cases q:(atKey xs k).isSome=true
 ·rw[if_pos q,if_pos q];exact r.repl k ry
 ·rw[if_neg q,if_neg q];exact Paired.snoc r ⟨rfl,hb,ry⟩
theorem KT.keeps {H H':Hp}{kvs:List (List Key × V)}{xs:List (List Key × Addr × Value)}(r:KT H kvs xs)(ht:∀ b ys,H b=some (.tup ys)->H' b=some (.tup ys)):KT H' kvs xs:=
 Paired.mapP r λ_ _ z=>⟨z.1,ht _ _ z.2.1,z.2.2⟩
section
variable {P:Program}{w:World}{H:Hp}{h:Heap}{a:Addr}
theorem zov {u:HO}(ok:HOk P w H h)(e:Rd H a u):zbv P w H h a u:=e.ok ok
theorem zhK {kvs:List (Key × V)}(ok:HOk P w H h)(e:Rd H a (.dK kvs)):kvs.length<=sizeLine/\(a == sysModules)=false/\∃ vs,KV kvs vs/\h.DictOf (za2 P w) a vs:=
 show zbv P w H h a (.dK kvs) from zov ok e
theorem zix {kvs:List (Key × V)}(ok:HOk P w H h)(e:H a=some (.dK kvs)):kvs.length<=sizeLine/\(a == sysModules)=false/\∃ vs,KV kvs vs/\h.DictOf (za2 P w) a vs:=zhK ok (.inl e)
theorem zgF {ks:List Key}(ok:HOk P w H h)(e:H a=some (.tup (ks.map kV))):(tupleKind (za2 P w)).is h ks a:=by
 obtain⟨_,its,r,o,h1,h2,n,h3⟩:=(show zbv P w H h a (.tup (ks.map kV)) from ok a _ e)
 exact⟨o,its.toArray,n,h1,h2,h3,by simpa using zhJ r⟩
theorem ziy {kvs:List (List Key × V)}(ok:HOk P w H h)(e:Rd H a (.dT kvs)):kvs.length<=sizeLine/\(a == sysModules)=false/\
  ∃ xs,KT H kvs xs/\h.DictOfH (tupleKind (za2 P w)) a xs:=by
 obtain⟨z,y,xs,r,o,es,ep,h1,h2,h3,h4,h5⟩:=(show zbv P w H h a (.dT kvs) from zov ok e)
 refine⟨z,y,xs,r,o,es,ep,h1,h2,h3,h4,λx hx=>?_,h5⟩
 have all:∀ {l:List (List Key × V)}{m:List (List Key × Addr × Value)},KT H l m->∀ x∈m,(tupleKind (za2 P w)).is h x.1 x.2.1:=by
  intro l m q
  induction q with
  | nil=>intro x hx;exact nomatch hx
  | @cons p q ps qs hq t ih=>
   intro x hx
   rcases List.mem_cons.mp hx with e | hx
   ·subst e
    exact zgF ok (by rw[<-hq.1];exact hq.2.1)
   ·exact ih x hx
 exact all r x hx
theorem dt_of {kvs:List (List Key × V)}(ok:HOk P w H h)(e:H a=some (.dT kvs)):kvs.length<=sizeLine/\(a == sysModules)=false/\
  ∃ xs,KT H kvs xs/\h.DictOfH (tupleKind (za2 P w)) a xs:=ziy ok (.inl e)
end

def DGet (H:Hp)(a:Addr)(y:V)(r:Option V):Prop:=
 (∃ kvs k,Rd H a (.dK kvs)/\y=kV k/\r=valV kvs k)\/∃ kvs k b,Rd H a (.dT kvs)/\y=.ref b/\H b=some (.tup (k.map kV))/\r=valV kvs k
def DPut (H:Hp)(a:Addr)(y v:V)(H':Hp):Prop:=
 (∃ kvs k,H a=some (.dK kvs)/\y=kV k/\kvs.length<sizeLine/\H'=upd H a (.dK (putK kvs k v)))\/
 ∃ kvs k b,H a=some (.dT kvs)/\y=.ref b/\H b=some (.tup (k.map kV))/\kvs.length<sizeLine/\H'=upd H a (.dT (putK kvs k v))
theorem DGet.k {H:Hp}{a:Addr}{kvs:List (Key × V)}{k:Key}(e:H a=some (.dK kvs)):DGet H a (kV k) (valV kvs k):=.inl ⟨kvs,k,.inl e,rfl,rfl⟩
theorem DPut.k {H:Hp}{a:Addr}{kvs:List (Key × V)}{k:Key}{v:V}(e:H a=some (.dK kvs))(hl:kvs.length<sizeLine):DPut H a (kV k) v (upd H a (.dK (putK kvs k v))):=.inl ⟨kvs,k,e,rfl,hl,rfl⟩
section
variable {X:Cx}{pins:List (Addr × Obj)}{σ:St}{H:Hp}{s:Shared}{a:Addr}{y v:V}{u r:Value}{o:Option V}{A:Around}{E:Value->Shared->Prop}

theorem Inv.big (I:Inv X pins σ H s):sysModules<s.heap.objs.size:=by
 have h:mainGlobals<s.heap.objs.size:=(I.mod.glob.keeps I.bk).lt
 exact Nat.lt_trans (by decide) h
theorem zkx {Q:Value->Shared->Prop}(hu:A.units+1<cLine)(I:Inv X pins σ H s)(g:DGet H a y (some v))(ry:RelV y u)(h:∀ w' s',Inv X pins σ H s'->RelV v w'->Q w' s') :
  wpAny (model X.prog X.w) A (getItem (.ref a) u) Q E s:=by
 rcases g with ⟨kvs,k,e,ey,l⟩ | ⟨kvs,k,b,e,ey,eb,l⟩
 ·subst ey
  obtain⟨z,hd,vs,rel,dd⟩:=zhK I.hok e
  obtain⟨w',hw,rw'⟩:=RelO.some_of (v:=v) (o:=valueAt vs k) (by rw[l];exact rel.val k)
  exact wpAny_getItem_of (zgc ry) dd.mapOf hw (h w' _ (I.tok _) rw')
 ·subst ey
  cases (show u=Value.ref b from ry)
  obtain⟨z,hd,xs,rel,dd⟩:=ziy I.hok e
  obtain⟨w',hw,rw'⟩:=RelO.some_of (v:=v) (o:=(atKey xs k).map (·.2)) (by rw[l];exact rel.val k)
  obtain⟨p,hp,hp2⟩:=zme.mp hw
  refine wpAny_getItem_heap (tupleKind_room_in1 hu) (zgF I.hok eb) dd hp ?_
  rw[hp2]
  exact h w' _ (I.tok _) rw'
theorem d_in {Q:Value->Shared->Prop}(hu:A.units+1<cLine)(I:Inv X pins σ H s)(g:DGet H a y o)(ry:RelV y u)(h:∀ s',Inv X pins σ H s'->Q (.bool o.isSome) s') :
  wpAny (model X.prog X.w) A (compareOp .In u (.ref a)) Q E s:=by
 rcases g with ⟨kvs,k,e,ey,l⟩ | ⟨kvs,k,b,e,ey,eb,l⟩
 ·subst ey
  obtain⟨z,hd,vs,rel,dd⟩:=zhK I.hok e
  refine wpAny_in_of (zgc ry) hd dd.mapOf ?_
  rw[<-(rel.val k).isSome_eq,<-l]
  exact h _ (I.tok _)
 ·subst ey
  cases (show u=Value.ref b from ry)
  obtain⟨z,hd,xs,rel,dd⟩:=ziy I.hok e
  refine wpAny_in_heap (tupleKind_room_in1 hu) (zgF I.hok eb) hd dd ?_
  have q:=(rel.val k).isSome_eq
  rw[Option.isSome_map] at q
  rw[<-q,<-l]
  exact h _ (I.tok _)
theorem znb {Q:Value->Shared->Prop}(hu:A.units+1<cLine)(I:Inv X pins σ H s)(g:DGet H a y o)(ry:RelV y u)(h:∀ s',Inv X pins σ H s'->Q (.bool (!o.isSome)) s') :
  wpAny (model X.prog X.w) A (compareOp .NotIn u (.ref a)) Q E s:=by
 rcases g with ⟨kvs,k,e,ey,l⟩ | ⟨kvs,k,b,e,ey,eb,l⟩
 ·subst ey
  obtain⟨z,hd,vs,rel,dd⟩:=zhK I.hok e
  refine wpAny_notIn_of (zgc ry) hd dd.mapOf ?_
  rw[<-(rel.val k).isSome_eq,<-l]
  exact h _ (I.tok _)
 ·subst ey
  cases (show u=Value.ref b from ry)
  obtain⟨z,hd,xs,rel,dd⟩:=ziy I.hok e
  refine wpAny_notIn_heap (tupleKind_room_in1 hu) (zgF I.hok eb) hd dd ?_
  have q:=(rel.val k).isSome_eq
  rw[Option.isSome_map] at q
  rw[<-q,<-l]
  exact h _ (I.tok _)
theorem zfw {h':Heap}{t':Nat}{ob:HO}(I:Inv X pins σ H s)(mu:Mut (H a))(hs:Heap.SameBut a s.heap h')(he:∃ q,h'.get? a=some q)(new:zbv X.prog X.w (upd H a ob) h' a ob) :
  Inv X pins σ (upd H a ob) {s with heap:=h',toks:=t'}:=
 I.write (x:=a) (e:=a) mu (.inl rfl) (λb q hb z=>(hs.2 b hb).trans z) he new
theorem zi6 {P:Program}{w:World}{H':Hp}{h':Heap}{kvs:List (Key × V)}{vs:List (Key × Value)}(z:kvs.length<=sizeLine)(hd:(a == sysModules)=false)(rel:KV kvs vs)(dd:h'.DictOf (za2 P w) a vs) :
  zbv P w H' h' a (.dK kvs):=⟨z,hd,vs,rel,dd⟩
theorem zky {H':Hp}{Q:Unit->Shared->Prop}(hu:A.units+1<cLine)(I:Inv X pins σ H s)(g:DPut H a y v H')(ry:RelV y u)(rv:RelV v r)(h:∀ s',Inv X pins σ H' s'->Q () s') :
  wpAny (model X.prog X.w) A (setItem (.ref a) u r) Q E s:=by
 rcases g with ⟨kvs,k,e,ey,l,eH⟩ | ⟨kvs,k,b,e,ey,eb,l,eH⟩
 ·subst ey eH
  obtain⟨z,hd,vs,rel,dd⟩:=zix I.hok e
  have hz:vs.length<=sizeLine:=by rw[<-rel.length];exact z
  have hl:(putK kvs k v).length<=sizeLine:=by have:=zd3 kvs k v;omega
  refine wpAny_setItem_pairs (hsz:=hz) (zgc ry) dd λh' dd' hs=>h _ ?_
  have he:∃ q,h'.get? a=some q:=let ⟨q,_,_,hq,_⟩:=dd';⟨q,hq⟩
  exact zfw I (by rw[e];exact True.intro) hs he (zi6 hl hd (rel.put k rv) dd')
 ·subst ey eH
  cases (show u=Value.ref b from ry)
  obtain⟨z,hd,xs,rel,dd⟩:=dt_of I.hok e
  have hz:xs.length<=sizeLine:=by rw[<-Paired.length rel];exact z
  have hl:(putK kvs k v).length<=sizeLine:=by have:=zd3 kvs k v;omega
  refine wpAny_setItem_heap (hsz:=hz) (tupleKind_room_in1 hu) (zgF I.hok eb) dd λh' dd' hs=>h _ ?_
  obtain⟨q,es,ep,hq,h2,h3,h4,_,h5⟩:=dd'
  refine zfw I (by rw[e];exact True.intro) hs ⟨q,hq⟩ ⟨hl,hd,_,(rel.put k eb rv).keeps λc ys ec=>?_,q,es,ep,hq,h2,h3,h4,h5⟩
  rw[zam (zjt ec e (λz=>nomatch z))]
  exact ec
end

section
variable {X:Cx}{pins:List (Addr × Obj)}{σ:St}{H:Hp}{s:Shared}{a:Addr}{kvs:List (Key × V)}{k:Key}{u:Value}{A:Around}{E:Value->Shared->Prop}
theorem zow {Q:Unit->Shared->Prop}(I:Inv X pins σ H s)(e:H a=some (.dK kvs))(ry:RelV (kV k) u)(l:(valV kvs k).isSome=true)(h:∀ s',Inv X pins σ (upd H a (.dK (zbI kvs k))) s'->Q () s') :
  wpAny (model X.prog X.w) A (delItem (.ref a) u) Q E s:=by
 obtain⟨z,hd,vs,rel,dd⟩:=zix I.hok e
 refine wpAny_delItem_slot dd.typeIs (by decide) PySem.F.slot_dict_delitem
  (call_meetsIn PySem.F.slot_dict_delitem dd.typeIs PySem.F.entry_dict_delitem (PySem.F.args_dict_delitem_2 _ _) (meets_dict_delitem_pairs (za2 X.prog X.w) a (zgc ry)) ⟨vs,dd,by rw[<-rel.length];exact z,by rw[<-(rel.val k).isSome_eq];exact l,λh' dd' hs=>h _ ?_⟩)
 have he:∃ q,h'.get? a=some q:=let ⟨q,_,_,hq,_⟩:=dd';⟨q,hq⟩
 exact zfw I (by rw[e];exact True.intro) hs he (zi6 (Nat.le_trans (zi5 kvs k) z) hd (rel.drop k) dd')
theorem zox {v:V}{more:List Value}{Q:Value->Shared->Prop}(I:Inv X pins σ H s)(e:H a=some (.dK kvs))(ry:RelV (kV k) u)(l:valV kvs k=some v)(hm:more=[]\/∃ x,more=[x])
  (h:∀ w' s',Inv X pins σ (upd H a (.dK (zbI kvs k))) s'->RelV v w'->Q w' s'):wpAny (model X.prog X.w) A (call (.builtin "dict.pop") (.ref a::u::more)) Q E s:=by
 obtain⟨z,hd,vs,rel,dd⟩:=zix I.hok e
 obtain⟨w',hw,rw'⟩:=RelO.some_of (v:=v) (o:=valueAt vs k) (by rw[<-l];exact rel.val k)
 have hp:(keyPart u).isSome=true:=by
  cases k with
  | inl i=>obtain⟨t,q⟩:=(show ∃ t,u=Value.int i t from ry);subst q;rfl
  | inr x=>obtain⟨t,q⟩:=(show ∃ t,u=Value.str x t from ry);subst q;rfl
 have ha:argsOk "dict.pop" ⟨.ref a::u::more,[]⟩:=by
  rcases hm with q | ⟨x,q⟩
  ·subst q;exact PySem.F.args_dict_pop_2 _ _
  ·subst q;exact PySem.F.args_dict_pop_3 _ _ _
 refine call_meetsIn PySem.F.slot_dict_pop dd.typeIs PySem.F.entry_dict_pop ha (meets_dict_pop_there (za2 X.prog X.w) a (zgc ry) more hm hp)
  ⟨vs,w',dd,by rw[<-rel.length];exact z,hw,λh' dd' hs=>h w' _ ?_ rw'⟩
 have he:∃ q,h'.get? a=some q:=let ⟨q,_,_,hq,_⟩:=dd';⟨q,hq⟩
 exact zfw I (by rw[e];exact True.intro) hs he (zi6 (Nat.le_trans (zi5 kvs k) z) hd (rel.drop k) dd')
theorem zoy {r:Value}{Q:Value->Shared->Prop}(I:Inv X pins σ H s)(e:H a=some (.dK kvs))(ry:RelV (kV k) u)(l:valV kvs k=none)(h:∀ s',Inv X pins σ H s'->Q r s') :
  wpAny (model X.prog X.w) A (call (.builtin "dict.pop") [.ref a,u,r]) Q E s:=by
 obtain⟨z,hd,vs,rel,dd⟩:=zix I.hok e
 have hn:valueAt vs k=none:=RelO.none_of (by rw[<-l];exact rel.val k)
 have hp:(keyPart u).isSome=true:=by
  cases k with
  | inl i=>obtain⟨t,q⟩:=(show ∃ t,u=Value.int i t from ry);subst q;rfl
  | inr x=>obtain⟨t,q⟩:=(show ∃ t,u=Value.str x t from ry);subst q;rfl
 exact call_meetsIn PySem.F.slot_dict_pop dd.typeIs PySem.F.entry_dict_pop (PySem.F.args_dict_pop_3 _ _ _) (meets_dict_pop_default (za2 X.prog X.w) a (zgc ry) hd hp r) ⟨vs,dd,hn,h _ (I.tok _)⟩
theorem d_len {Q:Value->Shared->Prop}(I:Inv X pins σ H s)(e:Rd H a (.dK kvs))(h:∀ t s',Inv X pins σ H s'->Q (.int kvs.length t) s'):wpAny (model X.prog X.w) A (call (.builtin "len") [.ref a]) Q E s:=by
 obtain⟨z,hd,vs,rel,dd⟩:=zhK I.hok e
 refine call_len_dict hd dd (by rw[<-rel.length];rw[sizeLine_eq] at z;omega) ?_
 rw[<-rel.length]
 exact h _ _ (I.tok _)
end


def NoSl (i:Expr):Prop:=∀ ov iv,subscripted i false ov iv=operate [ov,iv] (getItem ov iv)
theorem znc {prog:Program}{w:World}{A:Around}{E:Value->Shared->Prop}{s:Shared}{env:Env}{value slice:Expr}{pos:Pos}{T id:String}{Q:Value->Shared->Prop}
  (hl:typeLookup (.type T) "__getitem__"=pure (some (.builtin id))) (hs:NoSl slice)
  (h:wpAny (model prog w) A (eval value env) (λo s₁=>wpAny (model prog w) A (eval slice env) (λi s₂=>s₂.TypeIs o T/\wpAny (model prog w) A (getItem o i) Q E s₂) E s₁) E s) :
  wpAny (model prog w) A (eval (.Subscript value slice pos) env) Q E s:=by
 refine Subscript_ (wpAny_mono h (λo s₁ h₁=>wpAny_mono h₁ (λi s₂ h₂=>?_) λ_ _ x=>x) λ_ _ x=>x)
 obtain⟨hT,h₂⟩:=h₂
 unfold subscriptTail
 refine wpAny_bind ?_
 rw[getitemInPython_of_ne hT.not_modules]
 refine wpAny_bind (wpAny_specialOf hT hl ?_)
 have fin:wpAny (model prog w) A (subscripted slice false o i) (λr s₃=>wpAny (model prog w) A (letTemporaryGo value o r >>= λ_=>pure r) Q E s₃) E s₂:=by
  rw[hs o i]
  exact wpAny_operating (wpAny_mono h₂ (λr s₃ h₃=>wpAny_bind (wpAny_letTemporaryGo (wpAny_pure h₃))) λ_ _ x=>x)
 first
  | exact wpAny_pure (wpAny_bind fin)
  | exact wpAny_bind (wpAny_pure (wpAny_bind fin))
  | exact wpAny_bind fin
theorem ziz {X:Cx}{pins:List (Addr × Obj)}{σ:St}{H:Hp}{s:Shared}{a:Addr}{y:V}{o:Option V}(I:Inv X pins σ H s)(g:DGet H a y o):s.TypeIs (.ref a) "dict":=by
 rcases g with ⟨kvs,k,e,_,_⟩ | ⟨kvs,k,b,e,_,_,_⟩
 ·obtain⟨_,_,vs,_,dd⟩:=zhK I.hok e
  exact dd.typeIs
 ·obtain⟨_,_,xs,_,dd⟩:=ziy I.hok e
  exact dd.typeIs
def zoz (td ty:TE):TE:=λσ H Q=>td σ H λx H1=>ty σ H1 λy H2=>∃ a v,x=.ref a/\DGet H2 a y (some v)/\Q v H2
def tDIn (ty td:TE):TE:=λσ H Q=>ty σ H λy H1=>td σ H1 λx H2=>∃ a o,x=.ref a/\DGet H2 a y o/\Q (.bl o.isSome) H2
def zkz (ty td:TE):TE:=λσ H Q=>ty σ H λy H1=>td σ H1 λx H2=>∃ a o,x=.ref a/\DGet H2 a y o/\Q (.bl (!o.isSome)) H2
def zoA (td ty tv:TE):TS:=λD σ H=>tv σ H λv H1=>td σ H1 λx H2=>ty σ H2 λy H3=>∃ a H4,x=.ref a/\DPut H3 a y v H4/\D.nx σ H4
section
variable {X:Cx}{o i e value:Expr}{pos pos' tpos:Pos}{td ty tv:TE}
theorem zd4 (hu:X.A.units+1<cLine)(ho:PE X o td)(hi:PE X i ty)(hs:NoSl i):PE X (.Subscript o i pos) (zoz td ty):=by
 intro pins s σ H Q I h
 refine znc PySem.F.slot_dict_getitem.lookup hs (thn (ho pins s σ H _ I h) λu s1 ⟨x,H1,I1,rx,q1⟩=>thn (hi pins s1 σ H1 _ I1 q1) λiv s2 ⟨y,H2,I2,ry,a,v,ex,g,q2⟩=>?_)
 subst ex
 obtain rfl:u=Value.ref a:=rx
 exact⟨ziz I2 g,zkx hu I2 g ry λw' s3 I3 rw'=>⟨v,H2,I3,rw',q2⟩⟩
theorem zgG (hu:X.A.units+1<cLine)(hi:PE X i ty)(ho:PE X o td):PC X .In i o (tDIn ty td):=by
 intro pins s σ H Q I h
 refine thn (hi pins s σ H _ I h) λiv s1 ⟨y,H1,I1,ry,q1⟩=>thn (ho pins s1 σ H1 _ I1 q1) λu s2 ⟨x,H2,I2,rx,a,ov,ex,g,q2⟩=>?_
 subst ex
 obtain rfl:u=Value.ref a:=rx
 exact d_in hu I2 g ry λs3 I3=>⟨.bl ov.isSome,H2,I3,rfl,q2⟩
theorem zfx (hu:X.A.units+1<cLine)(hi:PE X i ty)(ho:PE X o td):PC X .NotIn i o (zkz ty td):=by
 intro pins s σ H Q I h
 refine thn (hi pins s σ H _ I h) λiv s1 ⟨y,H1,I1,ry,q1⟩=>thn (ho pins s1 σ H1 _ I1 q1) λu s2 ⟨x,H2,I2,rx,a,ov,ex,g,q2⟩=>?_
 subst ex
 obtain rfl:u=Value.ref a:=rx
 exact znb hu I2 g ry λs3 I3=>⟨.bl (!ov.isSome),H2,I3,rfl,q2⟩
theorem zfy (hu:X.A.units+1<cLine)(ho:PE X o td)(hi:PE X i ty)(hv:PE X value tv)(hs:swapsWith value (some (.Subscript o i pos')) pos.line X.env=pure false) :
  PS X (.Assign [.Subscript o i pos'] value pos) (zoA td ty tv):=by
 intro pins s σ H D I h
 refine wpAny_Assign_Subscript (thn (hv pins s σ H _ I h) λr s1 ⟨v,H1,I1,rv,q1⟩=>thn (ho pins s1 σ H1 _ I1 q1) λu s2 ⟨x,H2,I2,rx,q2⟩=>thn (hi pins s2 σ H2 _ I2 q2) λiv s3 ⟨y,H3,I3,ry,a,H4,ex,g,q3⟩=>?_) hs
 subst ex
 obtain rfl:u=Value.ref a:=rx
 exact zky hu I3 g ry rv λs4 I4=>⟨σ,H4,I4,q3⟩
end


theorem zi7 {P:Program}{w:World}{H:Hp}(h:Heap)(hb:sysModules<h.objs.size):zbv P w H (h.push {cls:=.type "dict",data:=.dict #[]}) h.objs.size (.dK []):=
 ⟨Nat.zero_le _,beq_eq_false_iff_ne.mpr (Ne.symm (Nat.ne_of_lt hb)),[],.nil,Heap.DictOf.new h⟩
def zmx:TE:=λ_ H Q=>∀ p,H p=none->Q (.ref p) (upd H p (.dK []))
section
variable {X:Cx}{pos:Pos}
theorem zem:PE X (.Dict [] [] pos) zmx:=λpins s σ H Q I h=>
 wpAny_Dict_empty ⟨.ref s.heap.objs.size,_,I.laid (a:=s.heap.objs.size) (o:=.dK []) (t':=s.toks) (λ_ _ q=>Heap.get?_push_of_some _ q) (Nat.le_refl _) (zi7 s.heap I.big),rfl,h _ (I.hok.fresh (Nat.le_refl _))⟩
end

def zfz:List (TE × TE)->St->Hp->(List (V × V)->Hp->Prop)->Prop
 | [],_,H,Q=>Q [] H
 | (tk,tv)::r,σ,H,Q=>tk σ H λx H1=>tv σ H1 λy H2=>zfz r σ H2 λps H3=>Q ((x,y)::ps) H3
abbrev VV:List (V × V)->List (Value × Value)->Prop:=Paired λp q=>RelV p.1 q.1/\RelV p.2 q.2
def PPs (X:Cx)(pos:Pos)(keys:List (Option Expr))(values:List Expr)(trs:List (TE × TE)):Prop:=
 ∀ (pins:List (Addr × Obj)) (s:Shared) (σ:St) (H:Hp) (Q:List (V × V)->Hp->Prop),Inv X pins σ H s->zfz trs σ H Q->
  wpAny (model X.prog X.w) X.A (evalPairs (pairTrees keys values X.env pos)) (λvs s'=>∃ ps H',Inv X pins σ H' s'/\VV ps vs/\Q ps H') X.xe s
theorem zeK {X:Cx}{pos:Pos} : PPs X pos [] [] []:=λpins s σ H Q I h=>pairTrees_nil_walk ⟨[],H,I,.nil,h⟩
theorem zbU {X:Cx}{pos:Pos}{k v:Expr}{ks:List (Option Expr)}{vs:List Expr}{tk tv:TE}{trs:List (TE × TE)}(hk:PE X k tk)(hv:PE X v tv)(hr:PPs X pos ks vs trs) :
  PPs X pos (some k::ks) (v::vs) ((tk,tv)::trs):=λpins s σ H Q I h=>
 pairTrees_cons_walk (thn (hk pins s σ H _ I h) λu s1 ⟨x,H1,I1,rx,q1⟩=>thn (hv pins s1 σ H1 _ I1 q1) λw2 s2 ⟨y,H2,I2,ry,q2⟩=>
  thn (hr pins s2 σ H2 _ I2 q2) λws s3 ⟨ps,H3,I3,rel,q3⟩=>⟨(x,y)::ps,H3,I3,.cons ⟨rx,ry⟩ rel,q3⟩)
def zbB (kvs more:List (Key × V)):List (Key × V):=more.foldl (λacc kv=>putK acc kv.1 kv.2) kvs
theorem KV.merge:∀ {more:List (Key × V)}{rs:List (Key × Value)}{kvs:List (Key × V)}{vs:List (Key × Value)},KV more rs->KV kvs vs->KV (zbB kvs more) (merged vs rs):=by
 intro more rs kvs vs r
 unfold KV at r
 induction r generalizing kvs vs with
 | nil=>intro q;exact q
 | @cons p q ps qs h t ih=>
  intro r0
  have e:KV (putK kvs p.1 p.2) (stored vs q.1 q.2):=by
   have:=r0.put p.1 h.2
   rw[<-h.1];exact this
  exact ih e
theorem zen:∀ (more kvs:List (Key × V)),(zbB kvs more).length<=kvs.length+more.length
 | [],kvs=>by show kvs.length<=kvs.length+0;omega
 | p::r,kvs=>by
  have h1:=zen r (putK kvs p.1 p.2)
  have h2:=zd3 kvs p.1 p.2
  show (zbB (putK kvs p.1 p.2) r).length<=_
  rw[List.length_cons];omega
theorem zgH {P:Program}{w:World} : ∀ {kvs:List (Key × V)}{ws:List (Value × Value)},VV (kvs.map λkv=>(kV kv.1,kv.2)) ws->∃ rs,Carries (za2 P w) ws rs/\KV kvs rs
 | [],_,r=>by rw[List.map_nil] at r;cases r;exact⟨[],True.intro,.nil⟩
 | p::kvs,_,r=>by
  rw[zmc] at r
  cases r with
  | @cons a b as bs h t=>
   obtain⟨rs,c,q⟩:=zgH (P:=P) (w:=w) t
   obtain⟨b1,b2⟩:=b
   exact⟨(p.1,b2)::rs,⟨zgc h.1,rfl,c⟩,.cons ⟨rfl,h.2⟩ q⟩
def zoB (trs:List (TE × TE)):TE:=λσ H Q=>∀ p,H p=none->zfz trs σ (upd H p (.dK [])) λps H2=>H2 p=some (.dK [])/\∃ kvs:List (Key × V),ps=kvs.map (λkv=>(kV kv.1,kv.2))/\kvs.length<=15/\Q (.ref p) (upd H2 p (.dK (zbB [] kvs)))
theorem zeL {X:Cx}{pos:Pos}{keys:List (Option Expr)}{values:List Expr}{trs:List (TE × TE)}(h:PPs X pos keys values trs)(hall:keys.all (·.isSome)=true)(hl:keys.length=values.length)(h0:keys≠[])
  (h15:keys.length<=15):PE X (.Dict keys values pos) (zoB trs):=by
 intro pins s σ H Q I q
 have hn:=I.hok.fresh (Nat.le_refl s.heap.objs.size)
 have I1:=I.laid (a:=s.heap.objs.size) (o:=.dK []) (h':=s.heap.push {cls:=.type "dict",data:=.dict #[]}) (t':=s.toks) (λ_ _ q=>Heap.get?_push_of_some _ q) (Nat.le_refl _) (zi7 s.heap I.big)
 refine wpAny_Dict_walk (knd:=za2 X.prog X.w) hall hl h0 h15 (thn (h pins _ σ _ _ I1 (q _ hn)) λws s2 ⟨ps,H2,I2,rel,e,kvs,ep,lk,q2⟩=>?_)
 subst ep
 obtain⟨rs,c,rk⟩:=zgH (P:=X.prog) (w:=X.w) rel
 obtain⟨z,hd,vs0,r0,dd⟩:=zix I2.hok e
 cases r0
 refine⟨rs,c,dd,λh' dd' hs=>⟨.ref s.heap.objs.size,_,?_,rfl,q2⟩⟩
 have hz:(zbB [] kvs).length<=sizeLine:=by
  have h1:=zen kvs []
  rw[List.length_nil] at h1
  rw[sizeLine_eq];omega
 have he:∃ q,h'.get? s.heap.objs.size=some q:=let ⟨q,_,_,hq,_⟩:=dd';⟨q,hq⟩
 exact zfw I2 (by rw[e];exact True.intro) hs he (zi6 hz hd (rk.merge .nil) dd')
structure M1 (X:Cx)(o:Expr)(m:Str)(apos:Pos)(e:Expr)(cpos:Pos):Prop where
 base:attributeBase o m X.env (eval o X.env)=eval o X.env
 few:((backTo cpos (starEach [e] X.env)).all (λx=>!x.1) && (backToKw cpos (keywordEach [] X.env)).all (λx=>x.1.isSome)
  && decide (([e]:List Expr).length+([]:List Keyword).length+(if ([]:List Keyword).isEmpty then 0 else 1)<30))=true
 line:(apos.endLine == cpos.line)=true
 trees:backTo cpos (starEach [e] X.env)=[(false,eval e X.env)]
structure M2 (X:Cx)(o:Expr)(m:Str)(apos:Pos)(e f:Expr)(cpos:Pos):Prop where
 base:attributeBase o m X.env (eval o X.env)=eval o X.env
 few:((backTo cpos (starEach [e,f] X.env)).all (λx=>!x.1) && (backToKw cpos (keywordEach [] X.env)).all (λx=>x.1.isSome)
  && decide (([e,f]:List Expr).length+([]:List Keyword).length+(if ([]:List Keyword).isEmpty then 0 else 1)<30))=true
 line:(apos.endLine == cpos.line)=true
 trees:backTo cpos (starEach [e,f] X.env)=[(false,eval e X.env),(false,eval f X.env)]
def IsD (H:Hp)(a:Addr):Prop:=(∃ kvs,Rd H a (.dK kvs))\/∃ kvs,Rd H a (.dT kvs)
theorem zkA {X:Cx}{pins:List (Addr × Obj)}{σ:St}{H:Hp}{s:Shared}{a:Addr}(I:Inv X pins σ H s)(d:IsD H a) :
  s.TypeIs (.ref a) "dict" /\(∀ b,Value.ref a=.ref b->∃ ob,s.heap.get? b=some ob/\ob.dict=none)/\(a == sysModules)=false:=by
 rcases d with ⟨kvs,e⟩ | ⟨kvs,e⟩
 ·obtain⟨_,hd,vs,_,dd⟩:=zhK I.hok e
  refine⟨dd.typeIs,λb q=>?_,hd⟩
  cases q
  obtain⟨ob,_,_,h1,h2,_⟩:=dd
  exact⟨ob,h1,h2.2.1⟩
 ·obtain⟨_,hd,xs,_,dd⟩:=ziy I.hok e
  refine⟨dd.typeIs,λb q=>?_,hd⟩
  cases q
  obtain⟨ob,_,_,h1,h2,_⟩:=dd
  exact⟨ob,h1,h2.2.1⟩
section
variable {X:Cx}{pins:List (Addr × Obj)}{σ:St}{H:Hp}{s:Shared}{a:Addr}{y d:V}{u r:Value}{o:Option V}{A:Around}{E:Value->Shared->Prop}
theorem zoC {Q:Value->Shared->Prop}(hu:A.units+1<cLine)(I:Inv X pins σ H s)(g:DGet H a y o)(ry:RelV y u)(rd:RelV d r)(h:∀ w' s',Inv X pins σ H s'->RelV (o.getD d) w'->Q w' s') :
  wpAny (model X.prog X.w) A (call (.builtin "dict.get") [.ref a,u,r]) Q E s:=by
 rcases g with ⟨kvs,k,e,ey,l⟩ | ⟨kvs,k,b,e,ey,eb,l⟩
 ·subst ey
  obtain⟨z,hd,vs,rel,dd⟩:=zhK I.hok e
  refine call_meetsIn PySem.F.slot_dict_get dd.typeIs PySem.F.entry_dict_get (PySem.F.args_dict_get_3 _ _ _) (meets_dict_get_default (za2 X.prog X.w) a (zgc ry) hd r) ⟨_,dd.mapOf,h _ _ (I.tok _) ?_⟩
  rw[l]
  exact (rel.val k).getD rd
 ·subst ey
  cases (show u=Value.ref b from ry)
  obtain⟨z,hd,xs,rel,dd⟩:=ziy I.hok e
  refine call_meetsIn PySem.F.slot_dict_get dd.typeIs PySem.F.entry_dict_get (PySem.F.args_dict_get_3 _ _ _) (meetsH_dict_get_default (tupleKind (za2 X.prog X.w)) a b hd r) ⟨tupleKind_room_in1 hu,k,xs,zgF I.hok eb,dd,h _ _ (I.tok _) ?_⟩
  rw[l]
  exact (rel.val k).getD rd
end

def zmy (td ty tx:TE):TE:=λσ H Q=>td σ H λx H1=>∃ a,x=.ref a/\IsD H1 a/\ty σ H1 λy H2=>tx σ H2 λz H3=>∃ o,DGet H3 a y o/\Q (o.getD z) H3
def zmz (td ty:TE):TE:=λσ H Q=>td σ H λx H1=>∃ a,x=.ref a/\IsD H1 a/\ty σ H1 λy H2=>∃ kvs k v,H2 a=some (.dK kvs)/\y=kV k/\valV kvs k=some v/\Q v (upd H2 a (.dK (zbI kvs k)))
def zmA (td ty tx:TE):TE:=λσ H Q=>td σ H λx H1=>∃ a,x=.ref a/\IsD H1 a/\ty σ H1 λy H2=>tx σ H2 λz H3=>∃ kvs k,H3 a=some (.dK kvs)/\y=kV k/\
 (∀ v,valV kvs k=some v->Q v (upd H3 a (.dK (zbI kvs k))))/\(valV kvs k=none->Q z H3)
section
variable {X:Cx}{o e f:Expr}{apos cpos:Pos}{td ty tx:TE}
theorem zi8 (hu:X.A.units+1<cLine)(ho:PE X o td)(he:PE X e ty)(hf:PE X f tx)(m:M2 X o "get" apos e f cpos):PE X (.Call (.Attribute o "get" apos) [e,f] [] cpos) (zmy td ty tx):=by
 intro pins s σ H Q I h
 refine wpAny_Call_method m.base m.few m.line PySem.F.plainAttrs_dict PySem.F.slot_dict_get PySem.F.type_dict_get (thn (ho pins s σ H _ I h) λu s1 ⟨x,H1,I1,rx,a,ex,d,q1⟩=>?_)
 subst ex
 obtain rfl:u=Value.ref a:=rx
 obtain⟨t1,t2,_⟩:=zkA I1 d
 refine⟨t1,t2,?_⟩
 rw[m.trees]
 refine Calls.callWith_builtin rfl (Calls.evalArgs_plain (Calls.spliced_cons (thn (he pins s1 σ H1 _ I1 q1) λiv s2 ⟨y,H2,I2,ry,q2⟩=>
  Calls.spliced_cons (thn (hf pins s2 σ H2 _ I2 q2) λfv s3 ⟨z,H3,I3,rz,ov,g,q3⟩=>Calls.spliced_nil ?_))))
 exact zoC hu I3 g ry rz λw' s4 I4 rw'=>⟨_,H3,I4,rw',q3⟩
theorem zi9 (ho:PE X o td)(he:PE X e ty)(m:M1 X o "pop" apos e cpos):PE X (.Call (.Attribute o "pop" apos) [e] [] cpos) (zmz td ty):=by
 intro pins s σ H Q I h
 refine wpAny_Call_method m.base m.few m.line PySem.F.plainAttrs_dict PySem.F.slot_dict_pop PySem.F.type_dict_pop (thn (ho pins s σ H _ I h) λu s1 ⟨x,H1,I1,rx,a,ex,d,q1⟩=>?_)
 subst ex
 obtain rfl:u=Value.ref a:=rx
 obtain⟨t1,t2,_⟩:=zkA I1 d
 refine⟨t1,t2,?_⟩
 rw[m.trees]
 refine Calls.callWith_builtin rfl (Calls.evalArgs_plain (Calls.spliced_cons (thn (he pins s1 σ H1 _ I1 q1) λiv s2 ⟨y,H2,I2,ry,kvs,k,v,ea,ey,l,q2⟩=>Calls.spliced_nil ?_)))
 subst ey
 exact zox I2 ea ry l (.inl rfl) λw' s3 I3 rw'=>⟨v,_,I3,rw',q2⟩
theorem zgY (ho:PE X o td)(he:PE X e ty)(hf:PE X f tx)(m:M2 X o "pop" apos e f cpos):PE X (.Call (.Attribute o "pop" apos) [e,f] [] cpos) (zmA td ty tx):=by
 intro pins s σ H Q I h
 refine wpAny_Call_method m.base m.few m.line PySem.F.plainAttrs_dict PySem.F.slot_dict_pop PySem.F.type_dict_pop (thn (ho pins s σ H _ I h) λu s1 ⟨x,H1,I1,rx,a,ex,d,q1⟩=>?_)
 subst ex
 obtain rfl:u=Value.ref a:=rx
 obtain⟨t1,t2,_⟩:=zkA I1 d
 refine⟨t1,t2,?_⟩
 rw[m.trees]
 refine Calls.callWith_builtin rfl (Calls.evalArgs_plain (Calls.spliced_cons (thn (he pins s1 σ H1 _ I1 q1) λiv s2 ⟨y,H2,I2,ry,q2⟩=>
  Calls.spliced_cons (thn (hf pins s2 σ H2 _ I2 q2) λfv s3 ⟨z,H3,I3,rz,kvs,k,ea,ey,q3,q4⟩=>Calls.spliced_nil ?_))))
 subst ey
 cases l:valV kvs k with
 | some v=>exact zox I3 ea ry l (.inr ⟨fv,rfl⟩) λw' s4 I4 rw'=>⟨v,_,I4,rw',q3 v l⟩
 | none=>exact zoy I3 ea ry l λs4 I4=>⟨z,H3,I4,rz,q4 l⟩
end

section
variable {X:Cx}{pins:List (Addr × Obj)}{σ:St}{H:Hp}{s:Shared}{a:Addr}{kvs:List (Key × V)}{A:Around}{E:Value->Shared->Prop}
end


section
variable {X:Cx}{pins:List (Addr × Obj)}{σ:St}{H:Hp}{s:Shared}{a:Addr}{y:V}{u:Value}{A:Around}{E:Value->Shared->Prop}
end
end L2

namespace Att
open PySem PySem.W PySem.Calls PyProof.Rows

theorem zfA {P:Params}{h:Heap} : ∀ (ns:List Int) (vs:List Value),WellAll P h vs (ns.map WData.int)->IntsAre vs ns:=by
 intro ns
 induction ns with
 | nil=>
  intro vs w
  rw[List.map_nil] at w
  cases w
  exact .nil
 | cons n ns ih=>
  intro vs w
  rw[zmc] at w
  cases w with
  | cons a b=>
   cases a
   exact .cons _ _ (ih _ b)
theorem zkB {l:OpenLaw}{n:Nat}(hn:l.most=some n){P:Params}{h:Heap}{args:List WData}{vals:List Value}
  (hpre:l.row.toRowW.claim.pre args=true) (hwl:WellAll P h vals args) :
  ∃ a vs ns,vals=[Value.ref a]/\args=[WData.list (ns.map WData.int)]/\h.get? a=some {cls:=.type "list",data:=.seq vs.toArray}/\IntsAre vs ns/\ns.length<=n:=by
 have hsh:WShape.hasAll [] args [.list .int]=true:=(pre_splitW hpre).1
 have hc:l.pre.holds [] {args:=args}=true:=(pre_splitW hpre).2
 obtain⟨d,r,rfl,h1,h2⟩:=hasAllW_cons hsh
 obtain rfl:=hasAllW_nil h2
 obtain⟨xs,rfl,h3⟩:=hasW_list h1
 obtain⟨ns,rfl⟩:=items_int h3
 have hlen:ns.length<=n:=by
  unfold OpenLaw.pre at hc
  have h4:(WTm.not (.lt (.lit (.int (n:Int))) (.len (.arg 0)))).holds [] {args:=[.list (ns.map .int)]}=true:=by
   have h4:=(holds_andW hc).1
   rw[hn] at h4
   exact h4
  have h5:=condW_of h4 (w_not (w_lt w_lit (w_len_list (w_arg rfl))))
  rw[zlm] at h5
  refine Nat.le_of_not_lt λq=>?_
  have q':(n:Int)<((ns.length:Nat):Int):=by omega
  first
   | (rw[decide_eq_true q'] at h5;exact absurd h5 (by decide))
   | (simp at h5;omega)
 cases hwl with
 | cons w1 w2=>
  cases w2
  cases w1 with
  | list ho hall=>exact⟨_,_,ns,rfl,rfl,ho,zfA ns _ hall,hlen⟩
theorem zkC (l:OpenLaw)(args:List WData):l.row.toRowW.claim.post args (.bool true) args=true:=
 postW_of (r:=l.row.toRowW) (X:=(true == true))
  (show WShape.has [] (.bool true) .bool=true by first | rfl | decide | simp[WShape.has,WShape.arms,WShape.armsAll])
  (show (WTm.eq .res (.lit (.bool true))).value [] {args:=args,res:=some (.bool true),after:=args}=some (.bool (true == true)) from w_eq_bool (w_res rfl) w_lit) rfl
theorem attach_call {l:OpenLaw}{n:Nat}{q:Program}{loose:List Str}{XP:(Str->Option Value)->Heap->Prop}{YP:World->Heap->Prop}{d:DefRec}
  (hn:l.most=some n) (hdf:d.params.defaults=[])
  (call:∀ (w:World) (s₀ s₁:Shared) (mg mb:Str->Option Value) (fa:Addr) (o:Obj) (pm cd doc:Value) (a:Addr) (vs:List Value) (ns:List Int),
   Ground q loose [] XP w s₀ mg mb s₁.heap->YP w s₁.heap->
   s₁.heap.get? fa=some o->o.data=.func (docDef d.name d.params d.body d.scope pm cd doc)->s₁.heap.CodeRec cd d.name->mg d.name=some (.ref fa)->
   s₁.heap.get? a=some {cls:=.type "list",data:=.seq vs.toArray}->IntsAre vs ns->ns.length<=n->s₁.gens=#[]->
   codeAny (model l.prog w) callerA (.call (.ref fa) ⟨[.ref a],[]⟩) (λr s'=>r=.ok (.ret (.bool true))/\OldK s₁.heap s'.heap/\s'.os=s₁.os/\AllBare s'.gens) s₁) :
  WalkO q loose XP YP l.row.toRowW d [] (λf vs=>PySem.call f vs):=by
 intro w s₀ s₁ mg mb G Y fa o pm cd doc dV kV ho hd hcd hD hmg hg args vals as hpre hlay hrd hwl hlo
 obtain rfl:dV=.none:=Dflts.none hD hdf
 obtain rfl:kV=.none:=Dflts.noKw hD
 obtain⟨a,vs,ns,rfl,rfl,hobj,hints,hlen⟩:=zkB hn hpre hwl
 refine enter_call (codeAny_mono (call w s₀ s₁ mg mb fa o pm cd doc a vs ns G Y ho (fd_plain hd) hcd hmg hobj hints hlen hg) λr s' hq=>?_)
 obtain⟨rfl,h2,h3,h4⟩:=hq
 exact⟨.inl ⟨.bool true,.bool true,[],rfl,λ_=>rfl,.bool true,zkC l _,λ_=>⟨List.Pairwise.nil,λ_ hm=>(nomatch hm)⟩⟩,h2,h3,h4⟩
section
variable {prog:Program}{w:World}{A:Around}{E:Value->Shared->Prop}{s:Shared}{K:Frag}

end
end Att

namespace L2
open PySem PySem.Spec PyProof.Rows

theorem zeo:∀ {vs:List Value}{ns:List Int},IntsAre vs ns->Vals (ns.map V.int) vs
 | _,_,.nil=>.nil
 | _,_,.cons n t h=>.cons ⟨t,rfl⟩ (zeo h)
def Only (H:Hp):Prop:=∀ b,H b=none\/∃ o xs,H b=some (.frz o (.lst xs))
theorem zlE {P:Program}{w:World}{K:Fg}{mg mb:Str->Option Value}{CX:CXT}{k:Nat}{fa a:Addr}{fd:FuncData}{x:Str}{sp:Sp}{s₁:Shared}{vs:List Value}{ns:List Int}
  (KX:K.In s₁.heap) (hns:s₁.heap.Ns mainGlobals mg) (hb:s₁.heap.Ns builtinsNs mb) (hbb:∀ x:Str,x≠ "__name__" ->mb x=bootBuiltins x) (hlim:s₁.heap.NoLimit) (hg:s₁.gens=#[])
  (ha:s₁.heap.get? a=some {cls:=.type "list",data:=.seq vs.toArray}) (hi:IntsAre vs ns) (hl:ns.length<=sizeLine) (hr:Room k callerA)
  (F:∀ base:Heap,K.In base->base.Ns mainGlobals mg->FnOk P w K mg base CX k fa fd [x] sp) (hbind:∀ (s:Shared) (u:Value),BindsTo s fd ⟨[u],[]⟩ [(x,u)])
  (hsp:∀ H:Hp,Only H->SqL K H a (ns.map V.int)->sp [.ref a] H (λv _=>v=.bl true) λ_ _ _=>False)
  (hCX:∀ H e s',CX [] H s₁ (λ_ _ _=>False) e s'->False) :
  codeAny (model P w) callerA (.call (.ref fa) ⟨[.ref a],[]⟩) (λr s'=>r=.ok (.ret (.bool true))/\OldK s₁.heap s'.heap/\s'.os=s₁.os/\AllBare s'.gens) s₁:=by
 have rv:=zeo hi
 have lenV:=hi.length
 -- from an abstract heap in which nothing but the script may be tracked
 have core:∀ H:Hp,Only H->SqL K H a (ns.map V.int)->HOk P w H s₁.heap->(∀ b,H b≠none->b=a)->(H a≠none->K.lookup a=none)->
   codeAny (model P w) callerA (.call (.ref fa) ⟨[.ref a],[]⟩) (λr s'=>r=.ok (.ret (.bool true))/\OldK s₁.heap s'.heap/\s'.os=s₁.os/\AllBare s'.gens) s₁:=by
  intro H hO hS hok hA hK
  have base_of:∀ {b:Addr}{o:Obj},s₁.heap.get? b=some o->H b=none->(hidT s₁.heap H).get? b=some o:=λe n=>zlo e n
  have noA:∀ {b:Addr}{o:Obj}{es:Array DictEntry}{ep:Nat},s₁.heap.get? b=some o->o.data=.dict es ep->H b=none:=λ{b o es ep} e d=>by
   cases q:H b with
   | none=>rfl
   | some u=>
    have e':b=a:=hA b (by rw[q];simp)
    subst e'
    rw[ha] at e;cases e
    have d':Data.seq vs.toArray _=Data.dict es ep:=d
    cases d'
  have nsK:∀ {b:Addr}{m:Str->Option Value},s₁.heap.Ns b m->(hidT s₁.heap H).Ns b m:=λ{b m} ⟨o,es,ep,e,d,r⟩=>⟨o,es,ep,base_of e (noA e d),d,r⟩
  have hKb:K.In (hidT s₁.heap H):=λb o e=>base_of (KX b o e) (by
   cases q:H b with
   | none=>rfl
   | some u=>
    have e':b=a:=hA b (by rw[q];simp)
    subst e'
    rw[hK (by rw[q];simp)] at e;cases e)
  have hM:Mod K mg (hidT s₁.heap H):=⟨hKb,nsK hns,⟨mb,nsK hb,hbb⟩,let ⟨mc,h1,h2⟩:=hlim;⟨mc,nsK h1,h2⟩⟩
  have e0:Env0 P w K mg (hidT s₁.heap H) callerA [] s₁ H:=⟨rfl,hM,λb o e=>zmS e,Nat.le_of_eq (zj8 _ _),trivial,λb hb=>absurd (show b∈([]:List Addr) from hb) (by simp),hok,.of_eq hg⟩
  refine codeAny_mono ((F _ hKb (nsK hns)).run callerA [] s₁ H ⟨[.ref a],[]⟩ [.ref a] [.ref a] _ _ hr e0 (hbind s₁ (.ref a)) (.cons rfl .nil) (hsp H hO hS)) λr s' h=>?_
  cases r with
  | error e=>exact (hCX H e s' h).elim
  | ok fl=>
   cases fl with
   | next=>exact False.elim h
   | brk=>exact False.elim h
   | cont=>exact False.elim h
   | ret u=>
    obtain⟨v,H',os,bare,un,hok',r',q⟩:=h
    have q':v=.bl true:=q
    subst q'
    obtain rfl:u=Value.bool true:=r'
    refine⟨rfl,OldK.of_keep λb o e=>?_,os,bare⟩
    cases q:H b with
    | none=>exact un.keep b o e q (by intro z;exact absurd (show b∈([]:List Addr) from z) (by simp)) (by simp)
    | some u=>
     rcases hO b with z | ⟨ob,xs,z⟩
     ·rw[q] at z;cases z
     ·have z2:=un.frzs b ob _ z
      obtain⟨e1,_⟩:=hok b _ z
      obtain⟨e2,_⟩:=hok' b _ z2
      rw[e] at e1;cases e1
      exact e2
 cases hk:K.lookup a with
 | some o=>
  -- the script is one of the module's own objects
  have e:=KX a o hk
  rw[ha] at e
  cases e
  refine core (λ_=>none) (λ_=>.inl rfl) (.inr ⟨_,vs.toArray,_,hk,rfl,rfl,rfl,by rw[zst,lenV];exact hl,by simpa using rv⟩) (λb u z=>by have z':(none:Option HO)=some u:=z;cases z') (λb z=>absurd rfl z) λz=>absurd rfl z
 | none=>
  refine core (λb=>if b=a then some (.frz {cls:=.type "list",data:=.seq vs.toArray} (.lst (ns.map V.int))) else none) (λb=>?_) (.inl (.inr ⟨{cls:=.type "list",data:=.seq vs.toArray},if_pos rfl⟩)) (λb u z=>?_) (λb z=>?_) λ_=>hk
  ·by_cases hb:b=a
   ·exact .inr ⟨_,_,if_pos hb⟩
   ·exact .inl (if_neg hb)
  ·by_cases hb:b=a
   ·have z':=(if_pos hb).symm.trans z
    cases z'
    subst hb
    exact⟨ha,by rw[zlm];exact hl,vs,_,rv,ha⟩
   ·have z':=(if_neg hb).symm.trans z
    cases z'
  ·by_cases hb:b=a
   ·exact hb
   ·exact absurd (if_neg hb) z
end L2

namespace L2
open PySem PySem.Spec PyProof.Rows

end L2



namespace L2
open PySem PySem.Spec PyProof.Rows


abbrev CX0:CXT:=λ_ _ _ _ _ _=>False
abbrev E0:XK:=λ_ _ _=>False
theorem zdQ {X:Cx} : zdl CX0 X E0:=λ_ _ _ _ _ _ _ h=>h.elim
structure Fun (K:Fg)(x qual:Str)(st:Stmt)(f:Addr)(fd:FuncData):Prop where
 ex:∃ (oc:Value) (od:Option Addr) (kV doc pm:Value) (an:Option Addr) (cdv ct:Value) (osl:Array (Option Value)),
  fd=PySem.W.fnOf x qual (zcV st) (zbO st) (zad st) .none kV doc pm an cdv ct/\K.lookup f=some ⟨oc,od,.func fd,osl⟩/\PySem.W.codeIn K cdv qual=true
 kp:PySem.W.keepIn K (.ref f)=true
section
variable {P:Program}{w:World}{K:Fg}{mg:Str->Option Value}{base:Heap}
theorem Fun.ok {x qual:Str}{st:Stmt}{f:Addr}{fd:FuncData}{N ps:List Str}{k:Nat}{sp:Sp}(F:Fun K x qual st f fd)(S:FSc N ps (zad st))(len:∀ vs H Q E,sp vs H Q E->vs.length=ps.length)
  (hbody:∀ (cdv:Value) (A:Around) (outer:List Env) (s:Shared) (H:Hp) (vs:List V) (Q:VK) (E:XK),Room k (A.deeper (envOfC qual (zad st) s.heap.objs.size f cdv))->sp vs H Q E->
   ∃ t,PSs (cxOf CX0 P w K mg base N qual (zad st) f cdv A outer s H E).nox (zbO st) t/\t {nx:=λ_ H'=>Q .non H',rt:=Q} (start N vs) H):FnOk P w K mg base CX0 (k+1) f fd ps sp:=by
 obtain⟨oc,od,kV,doc,pm,an,cdv,ct,osl,rfl,lk,hcd⟩:=F.ex
 refine zoi lk hcd S len λA outer s H vs Q E hr hsp=>?_
 obtain⟨t,h,q⟩:=hbody cdv A outer s H vs Q E hr hsp
 exact⟨t,h.nox,q⟩
theorem Fun.binds {x qual:Str}{st:Stmt}{f:Addr}{fd:FuncData}{ps:List Str}(F:Fun K x qual st f fd)
  (h:∀ (kV doc pm:Value) (an:Option Addr) (cdv ct:Value) (us:List Value),us.length=ps.length->bindArgs (PySem.W.fnOf x qual (zcV st) (zbO st) (zad st) .none kV doc pm an cdv ct) ⟨us,[]⟩=pure (ps.zip us)):zdP K fd ps []:=by
 obtain⟨oc,od,kV,doc,pm,an,cdv,ct,osl,rfl,lk,hcd⟩:=F.ex
 exact .all (h kV doc pm an cdv ct)
theorem zmB {x qual:Str}{st:Stmt}{f:Addr}{oc:Value}{od an:Option Addr}{osl:Array (Option Value)}{kV doc pm cdv ct:Value}(l:K.lookup f=some ⟨oc,od,.func (PySem.W.fnOf x qual (zcV st) (zbO st) (zad st) .none kV doc pm an cdv ct),osl⟩)
  (c:PySem.W.codeIn K cdv qual=true) (k:PySem.W.keepIn K (.ref f)=true):Fun K x qual st f (PySem.W.fnOf x qual (zcV st) (zbO st) (zad st) .none kV doc pm an cdv ct):=⟨⟨oc,od,kV,doc,pm,an,cdv,ct,osl,rfl,l,c⟩,k⟩
end
theorem zbr {n:Nat}(h:n<=1000):n<sizeLine:=Nat.lt_of_le_of_lt h (by decide)
section
variable {X:Cx}
theorem pv (i:Nat){x:Str}{pos:Pos}(hN:X.N[i]?=some x:=by rfl)(hv:Vis X.env.scope x:=by first | exact Or.inl rfl | exact Or.inr (Or.inl rfl) | exact Or.inr (Or.inr rfl))(hd:(x == ("__debug__" : Str))=false:=by decide)
  (hcd:(x == ("__classdict__" : Str))=false:=by decide):PE X (.Name x pos) (tVar i):=zn0 hN hv hd hcd
theorem zkD:zb2 X (.builtin "len") (λxs H Q=>∃ a kvs,xs=[V.ref a]/\H a=some (.dK kvs)/\Q (.int kvs.length) H):=by
 intro pins s σ H xs us Q I r h
 obtain⟨a,kvs,rfl,ha,q⟩:=h
 obtain⟨u,rfl,ru⟩:=zfq r
 cases ru
 exact d_len I (.inl ha) λt s' I'=>⟨.int kvs.length,H,I',⟨t,rfl⟩,q⟩
end

theorem iteF {A B:Prop}(h:B):if false=true then A else B:=by
 rw[if_neg Bool.false_ne_true]
 exact h
theorem iteT {A B:Prop}(h:A):if true=true then A else B:=by
 rw[if_pos rfl]
 exact h
theorem ite2 {c A B:Prop}[Decidable c](h1:c->A)(h2:¬ c->B):if c then A else B:=by
 by_cases h:c
 ·rw[if_pos h]
  exact h1 h
 ·rw[if_neg h]
  exact h2 h
def Same (H H':Hp):Prop:=∀ b o,H b=some o->H' b=some o
theorem Same.refl (H:Hp):Same H H:=λ_ _ h=>h
theorem Same.trans {H H1 H2:Hp}(a:Same H H1)(b:Same H1 H2):Same H H2:=λc o h=>b c o (a c o h)
theorem Same.free {H H':Hp}(e:Same H H'){l:Addr}(h:H' l=Option.none):H l=Option.none:=by
 cases q:H l with
 | none=>rfl
 | some o=>
  rw[e l o q] at h
  cases h
theorem Same.seq {K:Fg}{H H':Hp}{a:Addr}{xs:List V}(e:Same H H')(h:SqL K H a xs):SqL K H' a xs:=by
 rcases h with (h | ⟨o,h⟩) | h
 ·exact .inl (.inl (e _ _ h))
 ·exact .inl (.inr ⟨o,e _ _ h⟩)
 ·exact .inr h
section
variable {κ:Type} [DecidableEq κ]
theorem zlF {kvs:List (κ × V)}{k:κ}(h:valV kvs k=none):¬ k∈kvs.map (·.1):=by
 intro m
 obtain⟨p,hp,e⟩:=zmm.mp m
 have q:(kvs.any λkv=>decide (kv.1=k))=true:=List.any_eq_true.mpr ⟨p,hp,decide_eq_true e⟩
 rw[zcN,h] at q
 exact absurd q (by simp)
theorem zkE {kvs:List (κ × V)}{k:κ}{v:V}(h:valV kvs k=some v):k∈kvs.map (·.1):=by
 have q:(kvs.any λkv=>decide (kv.1=k))=true:=by
  rw[zcN,h]
  all_goals rfl
 obtain⟨p,hp,e⟩:=List.any_eq_true.mp q
 exact zmm.mpr ⟨p,hp,of_decide_eq_true e⟩
theorem zkF:∀ {l:List κ}{k:κ},l.Nodup->¬ k∈l->(l++[k]).Nodup
 | [],k,_,_=>by simp
 | a::r,k,h,hk=>by
  obtain⟨h1,h2⟩:=List.nodup_cons.mp h
  show (a::(r++[k])).Nodup
  refine List.nodup_cons.mpr ⟨λm=>?_,zkF h2 λm=>hk (List.mem_cons.mpr (Or.inr m))⟩
  rcases zma.mp m with q | q
  ·exact h1 q
  ·exact hk (List.mem_cons.mpr (Or.inl (zms.mp q).symm))
theorem zkG {p:κ × V}{r:List (κ × V)}{k:κ}(e:p.1=k):zbI (p::r) k=zbI r k:=by
 unfold zbI
 rw[List.filter_cons,if_neg (by simp[e])]
theorem zkH {p:κ × V}{r:List (κ × V)}{k:κ}(e:¬ p.1=k):zbI (p::r) k=p::zbI r k:=by
 unfold zbI
 rw[List.filter_cons,if_pos (by simp[e])]
end
end L2

namespace L2
open PySem PySem.Spec PyProof.Rows

def zcy:List Bool->St->St
 | [],_=>[]
 | _::ms,[]=>none::zcy ms []
 | b::ms,v::σ=>(if b=true then none else v)::zcy ms σ
theorem zcO:∀ (ms:List Bool) (σ:St),(zcy ms σ).length=ms.length
 | [],_=>rfl
 | _::ms,[]=>by simp[zcy,zcO ms []]
 | _::ms,_::σ=>by simp[zcy,zcO ms σ]
theorem zfB:∀ {ms:List Bool}{σ:St}{i:Nat}{v:V},(zcy ms σ)[i]?=some (some v)->ms[i]?=some false/\σ[i]?=some (some v)
 | [],_,_,_,h=>by simp[zcy] at h
 | b::ms,[],0,v,h=>by simp[zcy] at h
 | b::ms,[],i+1,v,h=>by
  have q:=zfB (ms:=ms) (σ:=[]) (i:=i) (v:=v) (by simpa [zcy] using h)
  simp at q
 | b::ms,u::σ,0,v,h=>by
  cases b with
  | true=>simp[zcy] at h
  | false=>simp[zcy] at h;simp[h]
 | b::ms,u::σ,i+1,v,h=>by
  have q:=zfB (ms:=ms) (σ:=σ) (i:=i) (v:=v) (by simpa [zcy] using h)
  simpa using q
def zbx (env:Env):List (Str × NameKind)->List (Str × Addr)->List (Str × Addr)
 | [],cs=>cs
 | (n,k)::r,cs=>zbx env r (if k=.free then (match env.cells.lookup n with | some c=>(n,c)::cs | none=>cs) else cs)
theorem zhL {env:Env} : ∀ (names:List (Str × NameKind)) (cs:List (Str × Addr)),(∀ x c,cs.lookup x=some c->env.cells.lookup x=some c)->
  ∀ x c,(zbx env names cs).lookup x=some c->env.cells.lookup x=some c
 | [],cs,h,x,c,e=>h x c e
 | (n,k)::r,cs,h,x,c,e=>by
  refine zhL r _ (λy d q=>?_) x c e
  by_cases hk:k=.free
  ·rw[if_pos hk] at q
   cases hn:env.cells.lookup n with
   | none=>rw[hn] at q;exact h y d q
   | some a=>
    rw[hn] at q
    simp only[List.lookup_cons] at q
    cases hy:y == n with
    | true=>
     rw[hy] at q
     have:y=n:=by simpa using hy
     subst this
     rw[hn];exact q
    | false=>rw[hy] at q;exact h y d q
  ·rw[if_neg hk] at q;exact h y d q
theorem zfC {env:Env} : ∀ (names:List (Str × NameKind)) (cs:List (Str × Addr)) (x:Str),(∀ p∈names,p.2=.free->∃ c,env.cells.lookup p.1=some c)->
  ((x,NameKind.free)∈names\/∃ c,cs.lookup x=some c)->∃ c,(zbx env names cs).lookup x=some c
 | [],cs,x,_,h=>by
  rcases h with h | h
  ·cases h
  ·exact h
 | (n,k)::r,cs,x,hf,h=>by
  refine zfC r _ x (λp hp=>hf p (List.mem_cons_of_mem _ hp)) ?_
  by_cases hk:k=.free
  ·obtain⟨c,hc⟩:=hf (n,k) List.mem_cons_self hk
   simp only at hc
   rw[if_pos hk,hc]
   rcases h with h | ⟨d,hd⟩
   ·rcases List.mem_cons.mp h with e | e
    ·cases e
     exact .inr ⟨c,by simp⟩
    ·exact .inl e
   ·refine .inr ?_
    simp only[List.lookup_cons]
    cases hy:x == n with
    | true=>exact⟨c,rfl⟩
    | false=>exact⟨d,hd⟩
  ·rw[if_neg hk]
   rcases h with h | h
   ·rcases List.mem_cons.mp h with e | e
    ·cases e;exact absurd rfl hk
    ·exact .inl e
   ·exact .inr h
theorem zfD {env:Env}{f:Str × NameKind->List (Str × Addr)->Sem (ForInStep (List (Str × Addr)))}(h1:∀ n c cs,env.cells.lookup n=some c->f (n,.free) cs=pure (.yield ((n,c)::cs)))
  (h2:∀ n k cs,k≠NameKind.free->f (n,k) cs=pure (.yield cs)) :
  ∀ (names:List (Str × NameKind)) (cs:List (Str × Addr)),(∀ p∈names,p.2=.free->∃ c,env.cells.lookup p.1=some c)->forIn names cs f=pure (zbx env names cs)
 | [],cs,_=>rfl
 | (n,k)::r,cs,hf=>by
  rw[List.forIn_cons]
  by_cases hk:k=.free
  ·subst hk
   obtain⟨c,hc⟩:=hf (n,.free) List.mem_cons_self rfl
   simp only at hc
   rw[h1 n c cs hc]
   show forIn r ((n,c)::cs) f=_
   rw[zfD h1 h2 r _ λp hp=>hf p (List.mem_cons_of_mem _ hp)]
   simp[zbx,hc]
  ·rw[h2 n k cs hk]
   show forIn r cs f=_
   rw[zfD h1 h2 r _ λp hp=>hf p (List.mem_cons_of_mem _ hp)]
   simp[zbx,hk]
theorem ziA {scope:Scope}{env:Env}(hf:∀ p∈scope.names,p.2=.free->∃ c,env.cells.lookup p.1=some c):closureFor scope env=pure (zbx env scope.names []):=by
 simp only[closureFor]
 rw[zfD (env:=env) (λn c cs hc=>?_) (λn k cs hk=>?_) scope.names [] hf]
 ·rfl
 ·simp[cellOf,hc]
 ·have:(k == NameKind.free)=false:=by simpa using hk
  simp[this]
theorem ze3 (env:Env)(x:Str):∀ (names:List (Str × NameKind)),(names.map λ(p:Str × NameKind)=>match p with
   | (n,k)=>if (k == NameKind.free && env.scope.kind == .function && env.kindOf n == some .cell)=true then (n,NameKind.cell) else (n,k)).lookup x =
  (names.lookup x).map λk=>if (k == NameKind.free && env.scope.kind == .function && env.kindOf x == some .cell)=true then NameKind.cell else k
 | []=>rfl
 | (n,k)::r=>by
  have ih:=ze3 env x r
  rw[zmc]
  by_cases hc:(k == NameKind.free && env.scope.kind == .function && env.kindOf n == some .cell)=true
  ·simp only[if_pos hc,List.lookup_cons]
   cases hx:x == n with
   | true=>
    have:x=n:=by simpa using hx
    subst this
    exact (congrArg some (if_pos hc)).symm
   | false=>exact ih
  ·simp only[if_neg hc,List.lookup_cons]
   cases hx:x == n with
   | true=>
    have:x=n:=by simpa using hx
    subst this
    exact (congrArg some (if_neg hc)).symm
   | false=>exact ih
theorem zdU (scope:Scope)(env:Env)(x:Str):(relabel scope env).names.lookup x =
  (scope.names.lookup x).map λk=>if (k == NameKind.free && env.scope.kind == .function && env.kindOf x == some .cell)=true then NameKind.cell else k:=ze3 env x scope.names
structure COk (sc0:Scope)(N:List Str)(scope:Scope)(N':List Str)(ms:List Bool):Prop where
 kind:scope.kind=.function
 nocell:∀ y∈scope.names,y.2≠.cell
 nm:∀ y∈scope.names,y.2=.local->scope.names.lookup y.1=some .local
 fr:∀ y∈scope.names,y.2=.free->sc0.names.lookup y.1=some .cell\/sc0.names.lookup y.1=some .free
 len:ms.length=N'.length
 own:∀ (i:Nat) (x:Str),N'[i]?=some x->ms[i]?=some false->scope.names.lookup x≠some .local
 out:∀ (i:Nat) (x:Str),N'[i]?=some x->ms[i]?=some false->scope.names.lookup x=some .free->N[i]?=some x
def zfE (N:List Str)(scope:Scope):List Str->List Bool->List (Option Str)->Bool
 | x::N',false::ms,o=>(scope.names.lookup x != some .local) && (scope.names.lookup x != some .free || o.head? == some (some x)) && zfE N scope N' ms o.tail
 | _::N',true::ms,o=>zfE N scope N' ms o.tail
 | _,_,_=>true
theorem zdK {N:List Str}{scope:Scope} : ∀ (N':List Str) (ms:List Bool) (o:List (Option Str)),zfE N scope N' ms o=true->∀ (i:Nat) (x:Str),N'[i]?=some x->ms[i]?=some false->
  scope.names.lookup x≠some .local/\(scope.names.lookup x=some .free->o[i]?=some (some x))
 | [],_,_,_,i,x,e,_=>by simp at e
 | _::_,[],_,_,i,x,_,e=>by simp at e
 | y::N',false::ms,o,h,i,x,e1,e2=>by
  simp only[zfE,Bool.and_eq_true,bne_iff_ne,ne_eq,Bool.or_eq_true,beq_iff_eq] at h
  cases i with
  | zero=>
   simp at e1;subst e1
   refine⟨h.1.1,λq=>?_⟩
   rcases h.1.2 with z | z
   ·exact absurd q z
   ·cases o with
    | nil=>simp at z
    | cons a r=>simpa using z
  | succ i=>
   have q:=zdK N' ms o.tail h.2 i x (by simpa using e1) (by simpa using e2)
   refine⟨q.1,λz=>?_⟩
   have:=q.2 z
   cases o with
   | nil=>simp at this
   | cons a r=>simpa using this
 | y::N',true::ms,o,h,i,x,e1,e2=>by
  simp only[zfE] at h
  cases i with
  | zero=>simp at e2
  | succ i=>
   have q:=zdK N' ms o.tail h i x (by simpa using e1) (by simpa using e2)
   refine⟨q.1,λz=>?_⟩
   have:=q.2 z
   cases o with
   | nil=>simp at this
   | cons a r=>simpa using this
theorem COk.mk' {sc0:Scope}{N:List Str}{scope:Scope}{N':List Str}{ms:List Bool}(kind:scope.kind=.function)(nocell:∀ y∈scope.names,y.2≠.cell)
  (nm:∀ y∈scope.names,y.2=.local->scope.names.lookup y.1=some .local) (fr:∀ y∈scope.names,y.2=.free->sc0.names.lookup y.1=some .cell\/sc0.names.lookup y.1=some .free)
  (len:ms.length=N'.length) (sl:zfE N scope N' ms (N.map some)=true):COk sc0 N scope N' ms:=
 ⟨kind,nocell,nm,fr,len,λi x e1 e2=>(zdK N' ms _ sl i x e1 e2).1,λi x e1 e2 e3=>by
  have q:=(zdK N' ms _ sl i x e1 e2).2 e3
  rw[zgm] at q
  cases h:N[i]? with
  | none=>rw[h] at q;cases q
  | some a=>rw[h] at q;simpa using q⟩
def zaT (X:Cx)(N':List Str)(scope:Scope)(cl:List (Str × Addr))(C:Addr)(fp:List Addr)(s3:Shared)(H3:Hp):Cx where
 prog:=X.prog
 w:=X.w
 K:=X.K
 mg:=X.mg
 base:=X.base
 A:=X.A
 N:=N'
 s₀:=s3
 H₀:=H3
 env:=compEnvC scope cl C X.env
 outer:=X.stack
 stack:=X.stack
 ex:=fp
 fn:=λ_=>false
 calm:=X.calm
 pn:=[]
 xe:=λ_ _=>False
section
variable {X:Cx}{pins:List (Addr × Obj)}{σ:St}{H:Hp}{N':List Str}{scope:Scope}{ms:List Bool}{fp:List Addr}

theorem COk.cells (ok:COk X.env.scope X.N scope N' ms)(k:X.Ok):∀ p∈scope.names,p.2=.free->∃ c,X.env.cells.lookup p.1=some c:=λp hp e=>k.has p.1 (ok.fr p hp e)
theorem zgI {x:Str}{c:Addr}(e:(zbx X.env scope.names []).lookup x=some c):X.env.cells.lookup x=some c:=zhL _ [] (λ_ _ q=>by cases q) x c e
theorem COk.kinds (ok:COk X.env.scope X.N scope N' ms){x:Str}(h:(relabel scope X.env).names.lookup x=some .cell\/(relabel scope X.env).names.lookup x=some .free):scope.names.lookup x=some .free:=by
 rw[zdU] at h
 cases e:scope.names.lookup x with
 | none=>rw[e] at h;rcases h with h | h <;> cases h
 | some k=>
  rw[e] at h
  simp only[Option.map_some,Option.some.injEq] at h
  by_cases hk:k=.free
  ·rw[hk]
  ·have hb:(k == NameKind.free)=false:=by simpa using hk
   simp only[hb,Bool.false_and,Bool.false_eq_true,if_false] at h
   rcases h with h | h
   ·exact absurd h (ok.nocell _ (PySem.mem_of_lookup e))
   ·exact absurd h hk
theorem COk.locals (ok:COk X.env.scope X.N scope N' ms){x:Str}(h:(relabel scope X.env).names.lookup x=some .local):scope.names.lookup x=some .local:=by
 rw[zdU] at h
 cases e:scope.names.lookup x with
 | none=>rw[e] at h;cases h
 | some k=>
  rw[e] at h
  simp only[Option.map_some,Option.some.injEq] at h
  split at h
  ·cases h
  ·rw[h]
theorem znd {s3:Shared}(ok:COk X.env.scope X.N scope N' ms)(I:Inv X pins σ H s3)(hf:∀ b∈fp,FpOk X pins H b/\b<s3.heap.objs.size) :
  (zaT X N' scope (zbx X.env scope.names []) s3.heap.objs.size fp s3 H).Ok where
 mod:=I.ok.mod
 kind:=ok.kind
 glob:=I.ok.glob
 blt:=I.ok.blt
 above:=Nat.le_refl _
 inj:=λx y c h1 h2=>I.ok.inj x y c (zgI h1) (zgI h2)
 has:=λx hx=>by
  have q:=ok.kinds hx
  exact zfC _ [] x (ok.cells I.ok) (.inl (PySem.mem_of_lookup q))
 cab:=λx c h=>by cases h
 hd:=I.ok.hd
 frames:=I.ok.frames
 stk:=.inl rfl
 exf:=λb hb=>⟨Nat.ne_of_lt (hf b hb).2,λx c e=>(hf b hb).1.2.2.2.2.1 x c (zgI e)⟩
 bs:=λb o e=>I.bs b o e
 bsz:=Nat.le_trans I.ok.bsz I.sz
 noex:=λb o e hb=>by
  rcases (hf b hb).1.2.2.2.1 with z | z
  ·exact I.ok.noex b o e z
  ·exact absurd (Nat.lt_of_lt_of_le (Nat.lt_of_lt_of_le (Heap.lt_size e) I.ok.bsz) z) (Nat.lt_irrefl _)
 exfs:=λb hb z=>by
  rcases List.mem_cons.mp (I.stkSub b z) with e | e
  ·exact (hf b hb).1.2.1 e
  ·exact (hf b hb).1.2.2.1 e
 funs:=I.stack
 frf:=I.stkFree
theorem zja {h':Heap}{s5:Shared}{C:Addr}{m:Str->Option Value}(ok:COk X.env.scope X.N scope N' ms)(I:Inv X pins σ H s5)(hk:∀ b o,s5.heap.get? b=some o->h'.get? b=some o) :
  ∀ (i:Nat) (x:Str) (v:V),N'[i]?=some x->(zcy ms σ)[i]?=some (some v)->Vis (relabel scope X.env) x->∃ u,RelV v u/\Look (compEnvC scope (zbx X.env scope.names []) C X.env) h' m x u:=by
 intro i x v e1 e2 e3
 obtain⟨em,ev⟩:=zfB e2
 rcases e3 with e3 | e3
 ·exact absurd (ok.locals e3) (ok.own i x e1 em)
 ·have q:=ok.kinds e3
  have en:=ok.out i x e1 em q
  have fr:=ok.fr _ (PySem.mem_of_lookup q) rfl
  obtain⟨m0,_,hl⟩:=I.loc
  obtain⟨u,r,l⟩:=hl i x v en ev (.inr fr)
  refine⟨u,r,?_⟩
  rcases l with ⟨k,_⟩ | ⟨k,c,e,o,ho,hd⟩
  ·have k':X.env.scope.names.lookup x=some .local:=k
   rcases fr with fr | fr
   ·have fr':X.env.scope.names.lookup x=some .cell:=fr
    rw[fr'] at k';cases k'
   ·have fr':X.env.scope.names.lookup x=some .free:=fr
    rw[fr'] at k';cases k'
  ·obtain⟨c',hc'⟩:=zfC _ [] x (ok.cells I.ok) (.inl (PySem.mem_of_lookup q))
   have z:=zgI hc'
   rw[e] at z;cases z
   exact .inr ⟨e3,c,hc',o,hk c o ho,hd⟩
theorem zgJ {s3:Shared}{h4:Heap}{tk:Nat}{m:Str->Option Value}(ok:COk X.env.scope X.N scope N' ms)(I:Inv X pins σ H s3)(hf:∀ b∈fp,FpOk X pins H b/\b<s3.heap.objs.size)
  (hn:h4.Ns s3.heap.objs.size m) (hk:∀ b o,s3.heap.get? b=some o->h4.get? b=some o) :
  Inv (zaT X N' scope (zbx X.env scope.names []) s3.heap.objs.size fp s3 H) [] (zcy ms σ) H {s3 with heap:=h4,toks:=tk} where
 ok:=znd ok I hf
 os:=rfl
 bare:=I.bare
 base:=Un.kept hk
 loc:=⟨m,hn,zja ok I hk⟩
 cell:=λx c e=>by
  obtain⟨v,o,ho,hd⟩:=I.cell x c (zgI e)
  exact⟨v,o,hk c o ho,hd⟩
 free:=I.hok.fresh (Nat.le_refl _)
 freeC:=λx c e=>I.freeC x c (zgI e)
 pin:=λp hp=>absurd (show p∈([]:List (Addr × Obj)) from hp) (by simp)
 hok:=I.hok.kept hk
 len:=by rw[zcO,ok.len];rfl
theorem zfF {pins':List (Addr × Obj)}{σ':St}{H':Hp}{s3 s':Shared}{cl:List (Str × Addr)}{C:Addr}(I:Inv X pins σ H s3)(hf:∀ b∈fp,FpOk X pins H b/\b<s3.heap.objs.size)
  (J:Inv (zaT X N' scope cl C fp s3 H) pins' σ' H' s'):Inv X pins σ H' s':=
 I.call' J.os J.base J.hok J.bare λb hb=>by
  obtain⟨_,f1,_,f3,f4,f5⟩:=(hf b hb).1
  exact⟨f3,f1,f4,f5⟩
theorem zgK {pins':List (Addr × Obj)}{σ':St}{H':Hp}{s3 s':Shared}(ok:COk X.env.scope X.N scope N' ms)(I:Inv X pins σ H s3)(hf:∀ b∈fp,FpOk X pins H b/\b<s3.heap.objs.size)
  (J:Inv (zaT X N' scope (zbx X.env scope.names []) s3.heap.objs.size fp s3 H) pins' σ' H' s'):Inv (zaT X N' scope (zbx X.env scope.names []) s3.heap.objs.size fp s3 H) [] (zcy ms σ) H' s' where
 ok:=J.ok
 os:=J.os
 bare:=J.bare
 base:=J.base
 loc:=by
  obtain⟨m,hn,_⟩:=J.loc
  exact⟨m,hn,zja ok (zfF I hf J) λ_ _ e=>e⟩
 cell:=J.cell
 free:=J.free
 freeC:=J.freeC
 pin:=λp hp=>absurd (show p∈([]:List (Addr × Obj)) from hp) (by simp)
 hok:=J.hok
 len:=by rw[zcO,ok.len];rfl
end

def PIfs (X:Cx)(ifs:List Expr)(t:TT):Prop:=
 ∀ (pins:List (Addr × Obj)) (s:Shared) (σ:St) (H:Hp) (Q:Bool->Hp->Prop),Inv X pins σ H s->t σ H Q->
  wpAny (model X.prog X.w) X.A (forIn ifs true λc r=>if r=true then do let ok <-isTrue c X.env (eval c X.env);pure (ForInStep.yield ok) else pure (ForInStep.yield r)) (TP X pins σ Q) X.xe s
def zne:TT:=λ_ H Q=>Q true H
theorem zav {X:Cx} : PIfs X [] zne:=λ_ _ _ H _ I h=>wpAny_tests_nil ⟨H,I,h⟩
theorem zlG {X:Cx}{c:Expr}{t:TT}(h:PT X c t):PIfs X [c] t:=λpins s σ H Q I q=>wpAny_tests_one (h pins s σ H Q I q)
theorem zhM {prog:Program}{w:World}{A:Around}{R:Result->Shared->Prop}{s:Shared}{elt target iter:Expr}{ifs:List Expr}{scope:Scope}{pos:Pos}{it acc:Value}{env:Env}(I:Nat->Shared->Prop)
  (turn:∀ n s (E:Value->Shared->Prop),I n s->wpAny (model prog w) A (pyNext it) (λr s1=>match r with
   | none=>R (.ok .next) s1
   | some v=>wpAny (model prog w) A (letOwnedTupleGo target it v) (λ_ s2=>wpAny (model prog w) A (assign target env v) (λ_ s3=>
     wpAny (model prog w) A (forIn ifs true λc r=>if r=true then do let ok <-isTrue c env (eval c env);pure (ForInStep.yield ok) else pure (ForInStep.yield r)) (λok s4=>
      if ok=true then wpAny (model prog w) A (eval elt env) (λx s5=>wpAny (model prog w) A (call (.builtin "list.append") [acc,x]) (λ_ s6=>∃ m,m<n/\I m s6) E s5) E s4
      else ∃ m,m<n/\I m s4) E s3) E s2) E s1) E s)
  (n:Nat) (h:I n s):codeAny (model prog w) A (.compLoop (.ListComp elt [⟨target,iter,ifs,0⟩] scope pos) 0 it acc env) R s:=by
 refine codeAny_loop rfl I (λn s hI=>?_) n h
 refine wpAny_noted (env:=env) ?_
 rw[compTurn_list]
 refine wpAny_bind (wpAny_standAt (wpAny_bind ?_))
 refine wpAny_mono (turn n s _ hI) (λr s1 h1=>?_) λ_ _ e=>e
 cases r with
 | none=>exact wpAny_pure h1
 | some v=>
  refine wpAny_bind (wpAny_mono h1 (λ_ s2 h2=>?_) λ_ _ e=>e)
  refine wpAny_bind (wpAny_mono h2 (λ_ s3 h3=>?_) λ_ _ e=>e)
  refine wpAny_bind (wpAny_mono h3 (λok s4 h4=>?_) λ_ _ e=>e)
  cases ok with
  | false=>exact wpAny_pure ⟨rfl,h4⟩
  | true=>
   refine wpAny_bind (wpAny_bind (wpAny_mono h4 (λx s5 h5=>?_) λ_ _ e=>e))
   exact wpAny_bind (wpAny_mono h5 (λ_ s6 h6=>wpAny_pure (wpAny_pure ⟨rfl,h6⟩)) λ_ _ e=>e)
def zjG (ms:List Bool)(wi:TI)(g:TG)(tt:TT)(te:TE):TE:=λσ H Q=>wi σ H λJ H1=>∀ D,H1 D=none->
 ∃ W:Nat->Nat->List V->Hp->Prop,(∃ m,W 0 m [] (upd H1 D (.lst [])))/\∀ i m ys H,W i m ys H->H D=some (.lst ys)/\
  ((J.stop i H/\Q (.ref D) H)\/(J.go i H/\ys.length<sizeLine/\∃ N:List V->Hp->Prop,(∀ ys' H',N ys' H'->∃ m',m'<m/\W (i+1) m' ys' H')/\
   ∀ x H',J.yld i H x H'->g x (zcy ms σ) H' λσ2 H2=>tt σ2 H2 λb H3=>if b=true then te σ2 H3 λy H4=>H4 D=some (.lst ys)/\N (ys++[y]) (upd H4 D (.lst (ys++[y]))) else N ys H3))
section
variable {X:Cx}{tg iter elt:Expr}{ifs:List Expr}{scope:Scope}{pos:Pos}{N':List Str}{ms:List Bool}{wi:TI}{g:TG}{tt:TT}{te:TE}

set_option maxHeartbeats 4000000 in
theorem zhN {pins:List (Addr × Obj)}{s:Shared}{σ:St}{H:Hp}{Q:VK}{RR:Value->Addr->Result->Shared->Prop}(hc:X.calm=true)(ok:COk X.env.scope X.N scope N' ms)(hi:PI X tg iter wi)
  (hg:∀ cl C fp s3 H3,PG (zaT X N' scope cl C fp s3 H3) tg g) (ht:∀ cl C fp s3 H3,PIfs (zaT X N' scope cl C fp s3 H3) ifs tt) (he:∀ cl C fp s3 H3,PE (zaT X N' scope cl C fp s3 H3) elt te)
  (I:Inv X pins σ H s) (h:zjG ms wi g tt te σ H Q)
  (hRR:∀ D C H' s' m,s'.heap.Ns C m->Inv X pins σ H' s'->FpOk X pins H' C->Q (.ref D) H'->RR (.ref D) C (.ok .next) s') :
  wpAny (model X.prog X.w) X.A (eval iter X.env) (λx s1=>wpAny (model X.prog X.w) X.A (pyIter x) (λit s2=>wpAny (model X.prog X.w) X.A (newList []) (λacc s3=>
   wpAny (model X.prog X.w) X.A (newFunctionEnv scope X.env.globals (zbx X.env scope.names []) [] X.env.qual none .none (some X.env)) (λcenv s4=>
    codeAny (model X.prog X.w) X.A (.compStart (.ListComp elt [⟨tg,iter,ifs,0⟩] scope pos) 0 it acc {cenv with scope:=relabel scope X.env}) (RR acc cenv.locals) s4) X.xe s3) X.xe s2) X.xe s1) X.xe s:=by
 refine thn (hi pins s σ H _ I h) λv s1 h1=>thn h1 λitv s2 h2=>?_
 obtain⟨it,fp,tn,J,H2,e,I2,T,st2,f2,h2⟩:=h2
 subst e
 obtain⟨W,⟨m0,w0⟩,turn⟩:=h2 s2.heap.objs.size I2.fresh
 refine wpAny_newObj_type ?_
 have I3:=I2.lnew (ys:=[]) (its:=[]) (t':=s2.toks) .nil (Nat.zero_le _)
 generalize hs3:({s2 with heap:=s2.heap.push {cls:=.type "list",data:=.seq ([]:List Value).toArray},toks:=s2.toks} : Shared)=s3 at I3
 refine wpAny_newFunctionEnv ok.nocell (by intro y hy;simp at hy) (λh4 hn4 hs4=>?_) ok.kind
 have sz:s3.heap.objs.size=s2.heap.objs.size+1:=by rw[<-hs3];exact Heap.size_push ..
 have old2:∀ b o,s2.heap.get? b=some o->s3.heap.get? b=some o:=λb o e=>by rw[<-hs3];exact Heap.get?_push_of_some _ e
 have old:∀ b o,s3.heap.get? b=some o->h4.get? b=some o:=λb o e=>hs4.extBut b o (Nat.ne_of_lt (Heap.lt_size e)) (Heap.get?_push_of_some _ e)
 have fp2:∀ b∈fp,b<s2.heap.objs.size:=λb hb=>by
  obtain⟨o,ho,_⟩:=T.obj 0 _ st2 b hb
  exact Heap.lt_size ho
 have nD:∀ b∈fp,b≠s2.heap.objs.size:=λb hb=>Nat.ne_of_lt (fp2 b hb)
 have f3:∀ b∈fp,FpOk X pins (upd H2 s2.heap.objs.size (.lst [])) b/\b<s3.heap.objs.size:=λb hb=>by
  refine⟨⟨?_,(f2 b hb).2⟩,by rw[sz];exact Nat.lt_succ_of_lt (fp2 b hb)⟩
  rw[zam (nD b hb)];exact (f2 b hb).1
 have J4:Inv (zaT X N' scope (zbx X.env scope.names []) s3.heap.objs.size fp s3 (upd H2 s2.heap.objs.size (.lst []))) [] (zcy ms σ) (upd H2 s2.heap.objs.size (.lst [])) {s3 with heap:=h4,toks:=s3.toks+0}:=
  zgJ ok I3 f3 hn4 old
 have stat:∀ {H':Hp},(∀ b∈fp,H' b=none)->∀ b∈fp,FpOk (zaT X N' scope (zbx X.env scope.names []) s3.heap.objs.size fp s3 (upd H2 s2.heap.objs.size (.lst []))) [] H' b:=λhn b hb=>
  ⟨hn b hb,(J4.ok.exf b hb).1,J4.ok.exfs b hb,.inl hb,(J4.ok.exf b hb).2,λp hp=>absurd (show p∈([]:List (Addr × Obj)) from hp) (by simp)⟩
 have loop:codeAny (model X.prog X.w) X.A (.compLoop (.ListComp elt [⟨tg,iter,ifs,0⟩] scope pos) 0 (.ref it) (.ref s2.heap.objs.size) (compEnvC scope (zbx X.env scope.names []) s3.heap.objs.size X.env))
   (RR (.ref s2.heap.objs.size) s3.heap.objs.size) {s3 with heap:=h4,toks:=s3.toks+0}:=by
  refine zhM (λn s'=>∃ i H' ys,Inv (zaT X N' scope (zbx X.env scope.names []) s3.heap.objs.size fp s3 (upd H2 s2.heap.objs.size (.lst []))) [] (zcy ms σ) H' s'/\tn i s'.heap/\(∀ b∈fp,H' b=none)/\W i n ys H') ?_ m0
   ⟨0,_,[],J4,T.keep 0 _ _ st2 λb hb o e=>old b o (old2 b o e),λb hb=>(f3 b hb).1.1,w0⟩
  rintro n s5 E ⟨i,H5,ys,J5,st5,fr5,w5⟩
  obtain⟨hD,alt⟩:=turn i n ys H5 w5
  rcases alt with ⟨stop,q⟩ | ⟨go,hz,N,hN,step⟩
  ·refine thn (T.done (zaT X N' scope (zbx X.env scope.names []) s3.heap.objs.size fp s3 (upd H2 s2.heap.objs.size (.lst []))) rfl rfl rfl hc i [] s5 _ H5 E J5 (stat fr5) st5 stop) λr s6 ⟨hr,J6⟩=>?_
   subst hr
   obtain⟨m,hn,_⟩:=id J6.loc
   have I6:=zfF I3 f3 J6
   refine hRR _ _ H5 s6 m hn I6 ?_ q
   have hC:H5 s3.heap.objs.size=none:=J6.free
   obtain⟨g0,g1,g2,g3,g4,g5⟩:=I3.fpOk (b:=s3.heap.objs.size) (H':=H5) (Nat.le_refl _) hC
   exact⟨g0,g1,g2,g3,g4,g5⟩
  ·refine thn (T.item (zaT X N' scope (zbx X.env scope.names []) s3.heap.objs.size fp s3 (upd H2 s2.heap.objs.size (.lst []))) rfl rfl rfl hc i [] s5 _ H5 E J5 (stat fr5) st5 go) λr s6 ⟨u,hr,h6⟩=>?_
   subst hr
   refine thn h6 λ_ s7 ⟨x,H7,J7,r7,y7,st7,fr7⟩=>?_
   have J7':=J7.pinned (stat fr7) (T.obj _ _ st7)
   have again:∀ {σ8:St}{H8:Hp}{s8:Shared}{zs:List V},Inv (zaT X N' scope (zbx X.env scope.names []) s3.heap.objs.size fp s3 (upd H2 s2.heap.objs.size (.lst []))) ([]++zgz fp s7.heap) σ8 H8 s8->N zs H8->
     ∃ m,m<n/\∃ i H' ys,Inv (zaT X N' scope (zbx X.env scope.names []) s3.heap.objs.size fp s3 (upd H2 s2.heap.objs.size (.lst []))) [] (zcy ms σ) H' s8/\tn i s8.heap/\(∀ b∈fp,H' b=none)/\W i m ys H':=λ{σ8 H8 s8 zs} J8 n8=>by
    obtain⟨m',hm,w8⟩:=hN zs H8 n8
    refine⟨m',hm,i+1,H8,zs,zgK ok I3 f3 J8,T.keep _ _ _ st7 λb hb o e=>(J8.pin (b,o) (List.mem_append_right _ (List.mem_append_right _ (zcu hb e)))).1,λb hb=>?_,w8⟩
    obtain⟨o,e,d⟩:=T.obj _ _ st7 b hb
    exact (J8.pin (b,o) (List.mem_append_right _ (List.mem_append_right _ (zcu hb e)))).2.1
   refine wpAny_mono (hg _ _ _ _ _ _ s7 _ H7 x u _ J7' r7 (step x H7 y7)) (λ_ s8 ⟨σ8,H8,J8,q8⟩=>?_) λ_ _ z=>False.elim z
   refine wpAny_mono (ht _ _ _ _ _ _ s8 σ8 H8 _ J8 q8) (λb s9 ⟨H9,J9,q9⟩=>?_) λ_ _ z=>False.elim z
   cases b with
   | false=>exact again J9 q9
   | true=>
    refine wpAny_mono (he _ _ _ _ _ _ s9 σ8 H9 _ J9 q9) (λv s10 ⟨y,H10,J10,r10,hD10,q10⟩=>?_) λ_ _ z=>False.elim z
    refine wpAny_mono (zc0 (X:=(zaT X N' scope (zbx X.env scope.names []) s3.heap.objs.size fp s3 (upd H2 s2.heap.objs.size (.lst [])))) _ s10 σ8 H10 (.ref s2.heap.objs.size) [y] (.ref s2.heap.objs.size) [v] (λ_ H'=>H'=upd H10 s2.heap.objs.size (.lst (ys++[y]))) J10 rfl (.cons r10 .nil) ⟨_,ys,y,rfl,rfl,hD10,hz,rfl⟩)
     (λ_ s11 ⟨_,H11,J11,_,e11⟩=>?_) λ_ _ z=>False.elim z
    subst e11
    exact again J11 q10
 exact codeAny_compStart_list loop (T.self _ 0 _ _ _ (T.keep 0 _ _ st2 λb hb o e=>old b o (old2 b o e)) loop)
theorem zaN (hc:X.calm=true)(ok:COk X.env.scope X.N scope N' ms)(hi:PI X tg iter wi)
  (hg:∀ cl C fp s3 H3,PG (zaT X N' scope cl C fp s3 H3) tg g) (ht:∀ cl C fp s3 H3,PIfs (zaT X N' scope cl C fp s3 H3) ifs tt) (he:∀ cl C fp s3 H3,PE (zaT X N' scope cl C fp s3 H3) elt te)
  (hs:∀ x,foldedSetIterable iter X.env x=pure x:=by intro _;rfl):PE X (.ListComp elt [⟨tg,iter,ifs,0⟩] scope pos) (zjG ms wi g tt te):=by
 intro pins s σ H Q I h
 rw[eval_ListComp]
 refine wpAny_comprehension_free (use:=none) rfl hs (ziA (ok.cells I.ok)) ok.kind ok.nm ?_
 refine zhN (RR:=λacc C=>compPost (model X.prog X.w) X.A X.xe none (EP X pins σ Q) acc C) hc ok hi hg ht he I h λD C H' s' m hn I' ⟨g0,g1,g2,g3,g4,g5⟩ q=>?_
 refine⟨m,hn,λh' sb=>⟨.ref D,H',?_,rfl,q⟩⟩
 exact I'.turned (t':=s'.toks) (λb o hb e=>sb.extBut b o hb e) g0 g1 g3 g4 g5
theorem zeM {i:Nat}{y:Str}{py spos:Pos}(hN:X.N.Nodup)(hy:X.N[i]?=some y)(hl:X.env.scope.names.lookup y=some .local)(hc:X.calm=true)(ok:COk X.env.scope X.N scope N' ms)(hi:PI X tg iter wi)
  (hg:∀ cl C fp s3 H3,PG (zaT X N' scope cl C fp s3 H3) tg g) (ht:∀ cl C fp s3 H3,PIfs (zaT X N' scope cl C fp s3 H3) ifs tt) (he:∀ cl C fp s3 H3,PE (zaT X N' scope cl C fp s3 H3) elt te)
  (hsw:swapsWith (.ListComp elt [⟨tg,iter,ifs,0⟩] scope pos) (some (.Name y py)) spos.line X.env=pure true:=by rfl)
  (hs:∀ x,foldedSetIterable iter X.env x=pure x:=by intro _;rfl):PS X (.Assign [.Name y py] (.ListComp elt [⟨tg,iter,ifs,0⟩] scope pos) spos) (tAsg (zjG ms wi g tt te) (zlp i)):=by
 intro pins s σ H D I h
 rw[exec_Assign_Name_used _ _ _ _ hsw]
 refine wpAny_bind (wpAny_standAt (wpAny_bind ?_))
 show wpAny _ _ (do let _ <-comprehension (.ListComp elt [⟨tg,iter,ifs,0⟩] scope pos) scope X.env _ (newList []) false (eval iter X.env) (some (assign (.Name y py) X.env))) _ _ s
 refine wpAny_bind (wpAny_mono (wpAny_comprehension_free (use:=some (assign (.Name y py) X.env)) (Q:=λ_ s'=>SP X pins D .next s') rfl hs (ziA (ok.cells I.ok)) ok.kind ok.nm ?_) (λ_ s' q=>wpAny_pure (wpAny_pure q)) λ_ _ e=>e)
 refine zhN (RR:=λacc C=>compPost (model X.prog X.w) X.A X.xe (some (assign (.Name y py) X.env)) (λ_ s'=>SP X pins D .next s') acc C) hc ok hi hg ht he I h λDa C H' s' m hn I' ⟨g0,g1,g2,g3,g4,g5⟩ q=>?_
 show wpAny _ _ (assign (.Name y py) X.env (.ref Da)) _ _ s'
 refine wpAny_assign_Name (zhv I' hN hy (.inl hl) (show RelV (.ref Da) (.ref Da) from rfl) (λs'' I'' ⟨a,sa,ha⟩=>?_) (.inr hl))
 have hCa:C≠a:=by
  rcases ha with e | e
  ·rw[e];exact g1
  ·exact λz=>g4 y a e z.symm
 refine⟨m,hn.sameBut sa hCa,λh' sb=>⟨σ.set i (some (.ref Da)),H',?_,q⟩⟩
 exact I''.turned (t':=s''.toks) (λb o hb e=>sb.extBut b o hb e) g0 g1 g3 g4 g5
end
end L2

namespace L2
open PySem PySem.Spec PyProof.Rows

section
variable {X:Cx}{pins:List (Addr × Obj)}{σ:St}{H:Hp}{s:Shared}{h':Heap}{t':Nat}
theorem Inv.turnedN {ch:List Addr}(I:Inv X pins σ H s)(hch:∀ b∈ch,FpOk X pins H b)(k:∀ b o,b∉ch->s.heap.get? b=some o->h'.get? b=some o):Inv X pins σ H {s with heap:=h',toks:=t'}:=by
 have nit:∀ b u,H b=some u->b∉ch:=λb u e z=>by rw[(hch b z).1] at e;cases e
 refine I.step (g':=s.gens) (d':=s.drawn) (ch:=ch) (λb hb=>?_) (λb o _ _ hc e _=>k b o hc e) (λb o _ _ hc e _=>⟨o.slots,k b o hc e⟩) (λ_ _ _ _ n=>n) (λb o hc e=>⟨o,k b o hc e⟩) (λ_ _ e=>e) (λ_ _ _ e=>e)
  (λb ps e=>⟨#[],by rw[e];simp⟩) (λm hm=>?_) (λb u e=>?_) I.bare
 ·obtain⟨_,f1,_,f3,f4,f5⟩:=hch b hb
  exact⟨f3,f1,f4,f5⟩
 ·obtain⟨o,es,ep,ho,r⟩:=hm
  exact⟨o,es,ep,k _ o (λz=>(hch _ z).2.1 rfl) ho,r⟩
 ·refine (I.hok b u e).stay (λc v hc q=>k c v ?_ q) (λ_ q=>q) λ_ _ q=>q
  rcases hc with z | z
  ·rw[z];exact nit b u e
  ·exact nit c _ z
end

theorem zjH {h:Heap}{a b:Addr}{o u:Obj}(e1:h.get? a=some o)(e2:h.get? b=some u)(d:o.cls≠u.cls):a≠b:=λz=>by
 subst z;rw[e1] at e2;cases e2;exact d rfl
theorem zdt {h:Heap}{a b:Addr}{its:Array Value}{u:Obj}{T:String}(e1:h.IsList a its)(e2:h.get? b=some u)(c:u.cls=.type T)(d:T≠ "list"):a≠b:=by
 obtain⟨o,ho,hc,_⟩:=e1
 refine zjH ho e2 ?_
 rw[hc,c]
 intro z
 injection z with z
 exact d z.symm
def Itz (K:Fg)(a b:Addr):It:=
  ⟨λi H=>∃ xs ys x y,SqL K H a xs/\SqL K H b ys/\xs[i]?=some x/\ys[i]?=some y,
   λi H v H'=>∃ T,H T=none/\v=.ref T/\∀ xs ys x y,SqL K H a xs->SqL K H b ys->xs[i]?=some x->ys[i]?=some y->H'=upd H T (.tup [x,y]),
   λi H=>∃ xs ys,SqL K H a xs/\SqL K H b ys/\(xs[i]?=none\/ys[i]?=none)⟩
structure Zap (z TI TO i1 i2:Addr):Prop where
 a1:TI≠z
 a2:TO≠z
 a3:i1≠z
 a4:i2≠z
 a5:TI≠TO
 a6:TI≠i1
 a7:TI≠i2
 a8:TO≠i1
 a9:TO≠i2
 a10:i1≠i2
theorem znf (n:Nat):Zap (n+4) (n+2) (n+3) n (n+1):=by constructor <;> (show (_:Nat)≠_;omega)
def zoD (z TI TO i1 i2 a b:Addr)(i:Nat)(h:Heap):Prop:=IsZip h z TI TO .none/\IsPair h TI (.ref i1) (.ref i2)/\(∃ p q,IsPair h TO p q)/\h.IsListIter i1 a i/\h.IsListIter i2 b i
theorem zmC {h:Heap}{z TI TO i1 i2 a b:Addr}{i:Nat}{xs ys:Array Value}(D:Zap z TI TO i1 i2)(t:zoD z TI TO i1 i2 a b i h)(hx:h.IsList a xs)(hy:h.IsList b ys):ZipApart z TI TO i1 i2 a b:=by
 obtain⟨hz,hI,⟨p,q,hO⟩,⟨o1,e1,c1,_⟩,⟨o2,e2,c2,_⟩⟩:=t
 exact⟨D.a1,D.a2,D.a3,D.a4,D.a5,D.a6,D.a7,D.a8,D.a9,D.a10,zdt hx hz rfl (by decide),zdt hx hO rfl (by decide),zdt hx e1 c1 (by decide),zdt hx e2 c2 (by decide),zdt hy hz rfl (by decide),zdt hy hO rfl (by decide),zdt hy e1 c1 (by decide),zdt hy e2 c2 (by decide)⟩
theorem zlH {P:Program}{w:World}{K:Fg}{elts:List Expr}{kx:Nat}{tpos:Pos}{z TI TO i1 i2:Addr}(a b:Addr)(D:Zap z TI TO i1 i2) :
  Turn P w K (.Tuple elts kx tpos) (Itz K a b) [z,TI,TO,i1,i2] z (zoD z TI TO i1 i2 a b) where
 mem:=by simp
 obj:=λi h st c hb=>by
  obtain⟨hz,hI,⟨p,q,hO⟩,⟨o1,e1,c1,d1⟩,⟨o2,e2,c2,d2⟩⟩:=st
  simp only[List.mem_cons,List.not_mem_nil,or_false] at hb
  rcases hb with rfl | rfl | rfl | rfl | rfl
  ·exact⟨_,hz,λv x=>by cases x⟩
  ·exact⟨_,hI,λv x=>by cases x⟩
  ·exact⟨_,hO,λv x=>by cases x⟩
  ·exact⟨_,e1,λv x=>by rw[d1] at x;cases x⟩
  ·exact⟨_,e2,λv x=>by rw[d2] at x;cases x⟩
 keep:=λi h h' st k=>by
  obtain⟨hz,hI,⟨p,q,hO⟩,h1,h2⟩:=st
  exact⟨k z (by simp) _ hz,k TI (by simp) _ hI,⟨p,q,k TO (by simp) _ hO⟩,h1.at λo e=>k i1 (by simp) o e,h2.at λo e=>k i2 (by simp) o e⟩
 item:=by
  intro X hP hw hK hc i pins s σ H E I hf st hg
  subst hP hw hK
  obtain⟨xs,ys,x,y,hx,hy,ex,ey⟩:=hg
  obtain⟨its,rx,px,zx⟩:=I.list hx
  obtain⟨jts,ry,py,zy⟩:=I.list hy
  obtain⟨u,eu,ru⟩:=rx.get ex
  obtain⟨v,ev,rv⟩:=ry.get ey
  have Z:=zmC D st px.isList py.isList
  obtain⟨hz,hI,⟨p,q,hO⟩,h1,h2⟩:=id st
  refine wpAny_pyNext_zip_item Z hz hI hO h1 h2 px.isList py.isList (x:=u) (y:=v) (by simpa using eu) (by simpa using ev) λh' z1 o1 l1 l2 t1 sz k1=>?_
  refine⟨_,rfl,wpAny_letOwnedTupleGo_zip (s:={s with heap:=h'}) z1 λh'' z2 sb=>?_⟩
  have nT:H s.heap.objs.size=none:=I.hok.fresh (Nat.le_refl _)
  have IT:Inv X pins σ (upd H s.heap.objs.size (.tup [x,y])) {s with heap:=s.heap.push {cls:=.type "tuple",data:=.seq #[u,v]},toks:=s.toks}:=
   I.laid (λb o e=>Heap.get?_push_of_some _ e) (Nat.le_refl _) (show zbv X.prog X.w _ _ _ (.tup [x,y]) from ⟨by show 2<=sizeLine;decide,[u,v],.cons ru (.cons rv .nil),IsTup.new _ _⟩)
  have nz:z≠s.heap.objs.size:=Nat.ne_of_lt (Heap.lt_size hz)
  have fT:∀ c∈[z,TI,TO,i1,i2],FpOk X pins (upd H s.heap.objs.size (.tup [x,y])) c:=λc hcm=>by
   obtain⟨g0,gr⟩:=hf c hcm
   refine⟨?_,gr⟩
   obtain⟨o,ho,_⟩:∃ o,s.heap.get? c=some o/\True:=by
    simp only[List.mem_cons,List.not_mem_nil,or_false] at hcm
    rcases hcm with rfl | rfl | rfl | rfl | rfl
    ·exact⟨_,hz,trivial⟩
    ·exact⟨_,hI,trivial⟩
    ·exact⟨_,hO,trivial⟩
    ·obtain⟨o,e,_⟩:=h1;exact⟨o,e,trivial⟩
    ·obtain⟨o,e,_⟩:=h2;exact⟨o,e,trivial⟩
   rw[zam (Nat.ne_of_lt (Heap.lt_size ho))]
   exact g0
  have up:∀ c o,c∉[z,TI,TO,i1,i2]->(s.heap.push {cls:=.type "tuple",data:=.seq #[u,v]}).get? c=some o->h''.get? c=some o:=λc o hn e=>by
   simp only[List.mem_cons,List.not_mem_nil,or_false,not_or] at hn
   refine sb.extBut c o hn.1 ?_
   by_cases hcs:c=s.heap.objs.size
   ·subst hcs
    rw[Heap.get?_push_size _ rfl] at e
    cases e
    exact t1
   ·refine k1 c o hn.1 hn.2.2.1 hn.2.2.2.1 hn.2.2.2.2 ?_
    rw[Heap.get?_push_ne _ _ _ hcs] at e
    exact e
  refine⟨.ref s.heap.objs.size,_,IT.turnedN (h':=h'') (t':=s.toks) fT up,rfl,⟨_,nT,rfl,λxs' ys' x' y' q1 q2 q3 q4=>?_⟩,?_,λc hcm=>(fT c hcm).1⟩
  ·rw[I.list_inj q1 hx,ex] at q3
   rw[I.list_inj q2 hy,ey] at q4
   cases q3;cases q4;rfl
  ·refine⟨z2,sb.extBut _ _ D.a1 (k1 _ _ D.a1 D.a5 D.a6 D.a7 hI),⟨_,_,sb.extBut _ _ D.a2 o1⟩,l1.extBut sb.extBut D.a3,l2.extBut sb.extBut D.a4⟩
 done:=by
  intro X hP hw hK hc i pins s σ H E I hf st hg
  subst hP hw hK
  obtain⟨xs,ys,hx,hy,en⟩:=hg
  obtain⟨its,rx,px,zx⟩:=I.list hx
  obtain⟨jts,ry,py,zy⟩:=I.list hy
  have Z:=zmC D st px.isList py.isList
  obtain⟨hz,hI,⟨p,q,hO⟩,h1,h2⟩:=id st
  have en':its.toArray[i]?=none\/jts.toArray[i]?=none:=by
   rcases en with e | e
   ·exact .inl (by simpa using rx.none_of e)
   ·exact .inr (by simpa using ry.none_of e)
  exact wpAny_pyNext_zip_end (I.ok.hd hc) Z hz hI hO h1 h2 px.isList py.isList en' λh' k1=>⟨rfl,I.turnedN (t':=s.toks) hf λc o hn e=>by
   simp only[List.mem_cons,List.not_mem_nil,or_false,not_or] at hn
   exact k1 c o hn.1 hn.2.2.1 hn.2.2.2.1 hn.2.2.2.2 e⟩
 self:=λ_ _ _ _ _ st h=>wpAny_pyIter_zip st.1 h
def iZip (K:Fg)(ta:TA):TI:=λσ H R=>ta σ H λvs H1=>∃ a b,vs=[.ref a,.ref b]/\(∃ xs,SqL K H1 a xs)/\(∃ ys,SqL K H1 b ys)/\R (Itz K a b) H1
theorem zlI:bootBuiltins "zip"=some (.type "zip"):=by decide +kernel
theorem zgd:bootBuiltins "enumerate"=some (.type "enumerate"):=by decide +kernel
section
variable {X:Cx}
theorem zoE {elts:List Expr}{kx:Nat}{tpos:Pos}{a b:Expr}{ta:TA}{p pos:Pos}(hg:Gl X "zip")(hm:X.mg "zip"=none)(ha:PA X [a,b] ta)(hs:starEach [a,b] X.env=[(false,eval a X.env),(false,eval b X.env)]:=by rfl)(hs2:starEach [b] X.env=[(false,eval b X.env)]:=by rfl) :
  PI X (.Tuple elts kx tpos) (.Call (.Name "zip" p) [a,b] [] pos) (iZip X.K ta):=by
 intro pins s σ H R I h
 refine Call_ (zgy I hg hm zlI (PyProof.Rows.callWith_type1 (thn (ha pos pins s σ H _ I h) λus s1 ⟨vs,H1,I1,r1,q1⟩=>?_) (by rw[hs,hs2]) (by rw[hs2];rfl)))
 obtain⟨l1,l2,e,⟨xs,hx⟩,⟨ys,hy⟩,q⟩:=q1
 subst e
 obtain⟨u,v,e,ru,rv⟩:=r1.two
 subst e
 cases ru;cases rv
 obtain⟨its,rx,px,zx⟩:=I1.list hx
 obtain⟨jts,ry,py,zy⟩:=I1.list hy
 refine call_zip_2 px.isList py.isList λh' z1 p1 p2 i1 i2 sz k=>?_
 refine wpAny_pyIter_zip (s:={s1 with heap:=h'}) z1 ?_
 have I2:Inv X pins σ H1 {s1 with heap:=h',toks:=s1.toks}:=I1.kept k
 have D:=znf s1.heap.objs.size
 refine⟨_,_,_,_,H1,rfl,I2,zlH l1 l2 D,⟨z1,p1,⟨_,_,p2⟩,i1,i2⟩,λc hc=>?_,q⟩
 have le:s1.heap.objs.size<=c:=by
  simp only[List.mem_cons,List.not_mem_nil,or_false] at hc
  first
   | (rcases hc with rfl | rfl | rfl | rfl | rfl <;> first | exact Nat.le_refl _ | exact Nat.le_add_right _ _)
   | (rcases hc with rfl | rfl <;> first | exact Nat.le_refl _ | exact Nat.le_add_right _ _)
 exact I1.fpOk le (I1.hok.fresh le)
end

def Itn (K:Fg)(a:Addr):It:=
  ⟨λi H=>∃ xs x,SqL K H a xs/\xs[i]?=some x,
   λi H v H'=>∃ T,H T=none/\v=.ref T/\∀ xs x,SqL K H a xs->xs[i]?=some x->H'=upd H T (.tup [.int i,x]),
   λi H=>∃ xs,SqL K H a xs/\xs.length<=i⟩
def zoF (e it a:Addr)(i:Nat)(h:Heap):Prop:=(∃ old,IsEnum h e it ((i:Nat):Int) old)/\h.IsListIter it a i
theorem zkI {P:Program}{w:World}{K:Fg}{elts:List Expr}{kx:Nat}{tpos:Pos}{e it:Addr}(a:Addr)(D:e≠it) :
  Turn P w K (.Tuple elts kx tpos) (Itn K a) [e,it] e (zoF e it a) where
 mem:=by simp
 obj:=λi h st c hb=>by
  obtain⟨⟨old,he⟩,⟨o1,e1,c1,d1⟩⟩:=st
  simp only[List.mem_cons,List.not_mem_nil,or_false] at hb
  rcases hb with rfl | rfl
  ·exact⟨_,he,λv x=>by cases x⟩
  ·exact⟨_,e1,λv x=>by rw[d1] at x;cases x⟩
 keep:=λi h h' st k=>by
  obtain⟨⟨old,he⟩,h1⟩:=st
  exact⟨⟨old,k e (by simp) _ he⟩,h1.at λo e=>k it (by simp) o e⟩
 item:=by
  intro X hP hw hK hc i pins s σ H E I hf st hg
  subst hP hw hK
  obtain⟨xs,x,hx,ex⟩:=hg
  obtain⟨its,rx,px,zx⟩:=I.list hx
  obtain⟨u,eu,ru⟩:=rx.get ex
  obtain⟨⟨old,he⟩,h1⟩:=id st
  refine wpAny_pyNext_enum_item he h1 px.isList (x:=u) (by simpa using eu) D λh' z1 l1 t1 sz k1=>?_
  refine⟨_,rfl,wpAny_letOwnedTupleGo_enum (s:={s with heap:=h',toks:=s.toks+1}) z1 λh'' z2 sb=>?_⟩
  have nT:H s.heap.objs.size=none:=I.hok.fresh (Nat.le_refl _)
  have IT:Inv X pins σ (upd H s.heap.objs.size (.tup [.int i,x])) {s with heap:=s.heap.push {cls:=.type "tuple",data:=.seq #[.int i s.toks,u]},toks:=s.toks}:=
   I.laid (λb o e=>Heap.get?_push_of_some _ e) (Nat.le_refl _) (show zbv X.prog X.w _ _ _ (.tup [.int i,x]) from ⟨by show 2<=sizeLine;decide,[.int i s.toks,u],.cons ⟨_,rfl⟩ (.cons ru .nil),IsTup.new _ _⟩)
  have fT:∀ c∈[e,it],FpOk X pins (upd H s.heap.objs.size (.tup [.int i,x])) c:=λc hcm=>by
   obtain⟨g0,gr⟩:=hf c hcm
   refine⟨?_,gr⟩
   obtain⟨o,ho,_⟩:∃ o,s.heap.get? c=some o/\True:=by
    simp only[List.mem_cons,List.not_mem_nil,or_false] at hcm
    rcases hcm with rfl | rfl
    ·exact⟨_,he,trivial⟩
    ·obtain⟨o,e,_⟩:=h1;exact⟨o,e,trivial⟩
   rw[zam (Nat.ne_of_lt (Heap.lt_size ho))]
   exact g0
  have up:∀ c o,c∉[e,it]->(s.heap.push {cls:=.type "tuple",data:=.seq #[.int i s.toks,u]}).get? c=some o->h''.get? c=some o:=λc o hn e2=>by
   simp only[List.mem_cons,List.not_mem_nil,or_false,not_or] at hn
   refine sb.extBut c o hn.1 ?_
   by_cases hcs:c=s.heap.objs.size
   ·subst hcs
    rw[Heap.get?_push_size _ rfl] at e2
    cases e2
    exact t1
   ·refine k1 c o hn.1 hn.2 ?_
    rw[Heap.get?_push_ne _ _ _ hcs] at e2
    exact e2
  refine⟨.ref s.heap.objs.size,_,IT.turnedN (h':=h'') (t':=s.toks+1) fT up,rfl,⟨_,nT,rfl,λxs' x' q1 q3=>?_⟩,?_,λc hcm=>(fT c hcm).1⟩
  ·rw[I.list_inj q1 hx,ex] at q3
   cases q3;rfl
  ·refine⟨⟨_,by rw[show (((i+1:Nat):Nat):Int)=(i:Int)+1 by omega];exact z2⟩,l1.extBut sb.extBut (Ne.symm D)⟩
 done:=by
  intro X hP hw hK hc i pins s σ H E I hf st hg
  subst hP hw hK
  obtain⟨xs,hx,en⟩:=hg
  obtain⟨its,rx,px,zx⟩:=I.list hx
  obtain⟨⟨old,he⟩,h1⟩:=id st
  have hl:=rx.length
  exact wpAny_pyNext_enum_end (I.ok.hd hc) he h1 px.isList (by simp;omega) λh' k1=>⟨rfl,I.turnedN (t':=s.toks) hf λc o hn e2=>by
   simp only[List.mem_cons,List.not_mem_nil,or_false,not_or] at hn
   exact k1 c o hn.2 e2⟩
 self:=λ_ _ _ _ _ st h=>by
  obtain⟨⟨old,he⟩,_⟩:=st
  exact wpAny_pyIter_enum he h
def zng (K:Fg)(ta:TA):TI:=λσ H R=>ta σ H λvs H1=>∃ a xs,vs=[.ref a]/\H1 a=some (.lst xs)/\R (Itn K a) H1
section
variable {X:Cx}
theorem znh {elts:List Expr}{kx:Nat}{tpos:Pos}{a:Expr}{ta:TA}{p pos:Pos}(hg:Gl X "enumerate")(hm:X.mg "enumerate"=none)(ha:PA X [a] ta)(hs:starEach [a] X.env=[(false,eval a X.env)]:=by rfl) :
  PI X (.Tuple elts kx tpos) (.Call (.Name "enumerate" p) [a] [] pos) (zng X.K ta):=by
 intro pins s σ H R I h
 refine Call_ (zgy I hg hm zgd (PyProof.Rows.callWith_type1 (thn (ha pos pins s σ H _ I h) λus s1 ⟨vs,H1,I1,r1,q1⟩=>?_) hs rfl))
 obtain⟨l1,xs,e,hx,q⟩:=q1
 subst e
 obtain⟨u,e,ru⟩:=zfq r1
 subst e
 cases ru
 obtain⟨z,its,n,r,hl,e⟩:=I1.lstM hx
 refine call_enumerate_1 e λh' z1 i1 sz k=>?_
 refine wpAny_pyIter_enum (s:={s1 with heap:=h'}) z1 ?_
 have I2:Inv X pins σ H1 {s1 with heap:=h',toks:=s1.toks}:=I1.kept k
 refine⟨_,_,_,_,H1,rfl,I2,zkI l1 (e:=s1.heap.objs.size+1) (it:=s1.heap.objs.size) (Nat.succ_ne_self _),⟨⟨_,z1⟩,i1⟩,λc hc=>?_,q⟩
 have le:s1.heap.objs.size<=c:=by
  simp only[List.mem_cons,List.not_mem_nil,or_false] at hc
  first
   | (rcases hc with rfl | rfl | rfl | rfl | rfl <;> first | exact Nat.le_refl _ | exact Nat.le_add_right _ _)
   | (rcases hc with rfl | rfl <;> first | exact Nat.le_refl _ | exact Nat.le_add_right _ _)
 exact I1.fpOk le (I1.hok.fresh le)
end

section
variable {X:Cx}
theorem zfG {bs:List Bool}{its:List Value}(r:Vals (bs.map V.bl) its){i:Nat}{v:Value}(e:its[i]?=some v):∃ b,bs[i]?=some b/\v=.bool b:=by
 have hl:=r.length
 rw[zlm] at hl
 have hi:i<bs.length:=by
  have:=(zge.mp e).1
  omega
 obtain⟨u,hu,ru⟩:=r.get (i:=i) (x:=V.bl bs[i]) (by simp[hi])
 rw[e] at hu;cases hu
 exact⟨bs[i],by simp[hi],ru⟩
theorem zhO {bs:List Bool}{n:Nat}(h:n=bs.length):(List.range n).all (λi=>bs[i]?.getD false)=bs.all id:=by
 subst h
 rw[Bool.eq_iff_iff]
 simp only[List.all_eq_true,List.mem_range,id]
 constructor
 ·intro q x hx
  obtain⟨i,hi,rfl⟩:=List.getElem_of_mem hx
  have:=q i hi
  simpa [hi] using this
 ·intro q i hi
  simpa [hi] using q bs[i] (List.getElem_mem hi)
theorem zkJ {bs:List Bool}{n:Nat}(h:n=bs.length):(List.range n).any (λi=>bs[i]?.getD false)=bs.any id:=by
 subst h
 rw[Bool.eq_iff_iff]
 simp only[List.any_eq_true,List.mem_range,id]
 constructor
 ·rintro⟨i,hi,q⟩
  exact⟨bs[i],List.getElem_mem hi,by simpa [hi] using q⟩
 ·rintro⟨x,hx,q⟩
  obtain⟨i,hi,rfl⟩:=List.getElem_of_mem hx
  exact⟨i,hi,by simpa [hi] using q⟩
theorem zlJ (hc:X.calm=true):zb2 X (.builtin "all") (λxs H Q=>∃ (p:Addr) (bs:List Bool),xs=[.ref p]/\SqL X.K H p (bs.map V.bl)/\Q (.bl (bs.all id)) H):=by
 intro pins s σ H xs us Q I r h
 obtain⟨p,bs,rfl,hq,q⟩:=h
 obtain⟨u,rfl,rx⟩:=zfq r
 cases rx
 obtain⟨its,rv,pl,hz⟩:=I.list hq
 have hl:=rv.length
 rw[zlm] at hl
 refine call_all_walk (wpAny_pyIter_list pl.isList ?_)
 have hne:p≠s.heap.objs.size:=by
  obtain⟨o,ho,_⟩:=pl.isList
  exact Nat.ne_of_lt (Heap.lt_size ho)
 refine⟨s.heap.objs.size,_,_,_,_,_,λi=>bs[i]?.getD false,rfl,Walks.list (show X.A.in1.handled=none from I.ok.hd hc) s.heap.objs.size p hne its.toArray,⟨⟨_,Heap.get?_push_size _ rfl,rfl,rfl⟩,Heap.IsList.push pl.isList _⟩,λi v s' Q' E' hP hQ=>?_,λh' tk hk=>?_⟩
 ·obtain⟨b,hb,rfl⟩:=zfG rv (i:=i) (v:=v) (by simpa using hP)
  refine wpAny_truthy_bool ?_
  simpa [hb] using hQ
 ·rw[zhO (by rw[zst];exact hl.symm)]
  refine⟨.bl _,H,I.kept λb o e=>hk b o ?_ (Heap.get?_push_of_some _ e),rfl,q⟩
  simp only[List.mem_cons,List.not_mem_nil,or_false]
  exact Nat.ne_of_lt (Heap.lt_size e)
theorem zlK (hc:X.calm=true):zb2 X (.builtin "any") (λxs H Q=>∃ (p:Addr) (bs:List Bool),xs=[.ref p]/\SqL X.K H p (bs.map V.bl)/\Q (.bl (bs.any id)) H):=by
 intro pins s σ H xs us Q I r h
 obtain⟨p,bs,rfl,hq,q⟩:=h
 obtain⟨u,rfl,rx⟩:=zfq r
 cases rx
 obtain⟨its,rv,pl,hz⟩:=I.list hq
 have hl:=rv.length
 rw[zlm] at hl
 refine call_any_walk (wpAny_pyIter_list pl.isList ?_)
 have hne:p≠s.heap.objs.size:=by
  obtain⟨o,ho,_⟩:=pl.isList
  exact Nat.ne_of_lt (Heap.lt_size ho)
 refine⟨s.heap.objs.size,_,_,_,_,_,λi=>bs[i]?.getD false,rfl,Walks.list (show X.A.in1.handled=none from I.ok.hd hc) s.heap.objs.size p hne its.toArray,⟨⟨_,Heap.get?_push_size _ rfl,rfl,rfl⟩,Heap.IsList.push pl.isList _⟩,λi v s' Q' E' hP hQ=>?_,λh' tk hk=>?_⟩
 ·obtain⟨b,hb,rfl⟩:=zfG rv (i:=i) (v:=v) (by simpa using hP)
  refine wpAny_truthy_bool ?_
  simpa [hb] using hQ
 ·rw[zkJ (by rw[zst];exact hl.symm)]
  refine⟨.bl _,H,I.kept λb o e=>hk b o ?_ (Heap.get?_push_of_some _ e),rfl,q⟩
  simp only[List.mem_cons,List.not_mem_nil,or_false]
  exact Nat.ne_of_lt (Heap.lt_size e)
end
end L2

namespace L2
open PySem PySem.Spec PyProof.Rows PySem.SeqAt

inductive D where
 | non | bl (b:Bool) | int (i:Int) | str (x:Str) | lst (xs:List D) | tup (xs:List D)
mutual
def dep:D->Nat
 | .lst xs=>deps xs+1
 | .tup xs=>deps xs+1
 | _=>0
def deps:List D->Nat
 | []=>0
 | d::ds=>max (dep d) (deps ds)
end
mutual
def pyEq:D->D->Bool
 | .non,.non=>true
 | .bl a,.bl b=>a == b
 | .int a,.int b=>a == b
 | .bl a,.int b=>(if a then 1 else 0) == b
 | .int a,.bl b=>a == (if b then 1 else 0)
 | .str a,.str b=>a == b
 | .lst xs,.lst ys=>zbJ xs ys
 | .tup xs,.tup ys=>zbJ xs ys
 | _,_=>false
def zbJ:List D->List D->Bool
 | [],[]=>true
 | x::xs,y::ys=>pyEq x y && zbJ xs ys
 | _,_=>false
end
mutual
def Rep (K:Fg)(H:Hp):D->V->Prop
 | .non,v=>v=.non
 | .bl b,v=>v=.bl b
 | .int i,v=>v=.int i
 | .str x,v=>v=.str x
 | .lst ds,v=>∃ a xs,v=.ref a/\SqL K H a xs/\Reps K H ds xs
 | .tup ds,v=>∃ a xs,v=.ref a/\SqT K H a xs/\Reps K H ds xs
def Reps (K:Fg)(H:Hp):List D->List V->Prop
 | [],vs=>vs=[]
 | d::ds,vs=>∃ v r,vs=v::r/\Rep K H d v/\Reps K H ds r
end
theorem zep:∀ {ds:List D}{d:D},d∈ds->dep d<=deps ds
 | d::ds,e,h=>by
  rcases List.mem_cons.mp h with h | h
  ·subst h;unfold deps;exact Nat.le_max_left _ _
  ·have:=zep h
   unfold deps
   exact Nat.le_trans this (Nat.le_max_right _ _)
theorem Reps.length {K:Fg}{H:Hp} : ∀ {ds:List D}{vs:List V},Reps K H ds vs->ds.length=vs.length
 | [],vs,h=>by unfold Reps at h;subst h;rfl
 | d::ds,vs,h=>by
  unfold Reps at h
  obtain⟨v,r,rfl,_,h⟩:=h
  simp[Reps.length h]
theorem Reps.get {K:Fg}{H:Hp} : ∀ {ds:List D}{vs:List V}{i:Nat}{d:D},Reps K H ds vs->ds[i]?=some d->∃ v,vs[i]?=some v/\Rep K H d v
 | [],vs,i,d,h,e=>by simp at e
 | c::ds,vs,i,d,h,e=>by
  unfold Reps at h
  obtain⟨v,r,rfl,h1,h⟩:=h
  cases i with
  | zero=>simp at e;subst e;exact⟨v,rfl,h1⟩
  | succ i=>
   obtain⟨w,e1,e2⟩:=Reps.get h (show ds[i]?=some d by simpa using e)
   exact⟨w,by simpa using e1,e2⟩
theorem Reps.get' {K:Fg}{H:Hp}{ds:List D}{vs:List V}{i:Nat}{v:V}(h:Reps K H ds vs)(e:vs[i]?=some v):∃ d,ds[i]?=some d/\Rep K H d v:=by
 have hl:=h.length
 have hi:=(zge.mp e).1
 obtain⟨w,e1,e2⟩:=h.get (i:=i) (d:=ds[i]) (by simp)
 rw[e] at e1;cases e1
 exact⟨ds[i],by simp,e2⟩
theorem Reps.of {K:Fg}{H:Hp} : ∀ {ds:List D}{vs:List V},ds.length=vs.length->(∀ (i:Nat) d v,ds[i]?=some d->vs[i]?=some v->Rep K H d v)->Reps K H ds vs
 | [],[],_,_=>by unfold Reps;rfl
 | d::ds,v::vs,hl,h=>by
  unfold Reps
  exact⟨v,vs,rfl,h 0 d v rfl rfl,Reps.of (by simpa using hl) λi e w e1 e2=>h (i+1) e w (by simpa using e1) (by simpa using e2)⟩
theorem Reps.ints {K:Fg}{H:Hp} : ∀ {ns:List Int}{vs:List V},Reps K H (ns.map D.int) vs↔vs=ns.map V.int
 | [],vs=>by unfold List.map Reps;rfl
 | n::ns,vs=>by
  rw[zmc]
  unfold Reps
  constructor
  ·rintro⟨v,r,rfl,h1,h⟩
   unfold Rep at h1
   subst h1
   rw[Reps.ints.mp h];rfl
  ·rintro rfl
   exact⟨_,_,rfl,by unfold Rep;rfl,Reps.ints.mpr rfl⟩
theorem Same.tup {K:Fg}{H H':Hp}{a:Addr}{xs:List V}(e:Same H H')(h:SqT K H a xs):SqT K H' a xs:=by
 rcases h with (h | ⟨o,h⟩) | h
 ·exact .inl (.inl (e _ _ h))
 ·exact .inl (.inr ⟨o,e _ _ h⟩)
 ·exact .inr h
mutual
theorem Rep.same {K:Fg}{H H':Hp}(e:Same H H'):∀ (d:D) {v:V},Rep K H d v->Rep K H' d v
 | .non,_,h=>by unfold Rep at *;exact h
 | .bl _,_,h=>by unfold Rep at *;exact h
 | .int _,_,h=>by unfold Rep at *;exact h
 | .str _,_,h=>by unfold Rep at *;exact h
 | .lst ds,_,h=>by
  unfold Rep at *
  obtain⟨a,xs,h1,h2,h3⟩:=h
  exact⟨a,xs,h1,e.seq h2,Reps.same e ds h3⟩
 | .tup ds,_,h=>by
  unfold Rep at *
  obtain⟨a,xs,h1,h2,h3⟩:=h
  exact⟨a,xs,h1,e.tup h2,Reps.same e ds h3⟩
theorem Reps.same {K:Fg}{H H':Hp}(e:Same H H'):∀ (ds:List D) {vs:List V},Reps K H ds vs->Reps K H' ds vs
 | [],_,h=>by unfold Reps at *;exact h
 | d::ds,_,h=>by
  unfold Reps at *
  obtain⟨v,r,h1,h2,h3⟩:=h
  exact⟨v,r,h1,Rep.same e d h2,Reps.same e ds h3⟩
end

mutual
theorem zdu:∀ d:D,pyEq d d=true
 | .non=>by unfold pyEq;rfl
 | .bl _=>by unfold pyEq;simp
 | .int _=>by unfold pyEq;simp
 | .str _=>by unfold pyEq;simp
 | .lst ds=>by unfold pyEq;exact zeN ds
 | .tup ds=>by unfold pyEq;exact zeN ds
theorem zeN:∀ ds:List D,zbJ ds ds=true
 | []=>by unfold zbJ;rfl
 | d::ds=>by unfold zbJ;rw[zdu d,zeN ds];rfl
end
theorem zdv:∀ {xs ys:List D},zbJ xs ys=true->xs.length=ys.length
 | [],[],_=>rfl
 | [],_::_,h=>by unfold zbJ at h;cases h
 | _::_,[],h=>by unfold zbJ at h;cases h
 | x::xs,y::ys,h=>by
  unfold zbJ at h
  rw[Bool.and_eq_true] at h
  simp[zdv h.2]
theorem zdw:∀ {xs ys:List D},xs.length=ys.length->(List.range xs.length).all (λj=>pyEq (xs.getD j .non) (ys.getD j .non))=zbJ xs ys
 | [],[],_=>by unfold zbJ;rfl
 | x::xs,y::ys,h=>by
  have ih:=zdw (xs:=xs) (ys:=ys) (by simpa using h)
  unfold zbJ
  rw[List.length_cons,List.range_succ_eq_map,List.all_cons,List.all_map,<-ih]
  rfl
theorem zeO:∀ {ms ns:List Int},zbJ (ms.map D.int) (ns.map D.int)=decide (ms=ns)
 | [],[]=>by unfold List.map zbJ;rfl
 | [],_::_=>by rw[zmc];unfold List.map zbJ;simp
 | _::_,[]=>by rw[zmc];unfold List.map zbJ;simp
 | m::ms,n::ns=>by
  rw[zmc,zmc]
  unfold zbJ pyEq
  rw[zeO,Bool.eq_iff_iff]
  simp
mutual
theorem Rep.inj {X:Cx}{pins:List (Addr × Obj)}{σ:St}{H:Hp}{s:Shared}(I:Inv X pins σ H s):∀ (d e:D) {v:V},Rep X.K H d v->Rep X.K H e v->d=e
 | .non,e,v,h,q=>by unfold Rep at h;subst h;cases e <;> unfold Rep at q <;> first | rfl | (cases q;done) | (obtain⟨_,_,q,_⟩:=q;cases q)
 | .bl _,e,v,h,q=>by unfold Rep at h;subst h;cases e <;> unfold Rep at q <;> first | (cases q;rfl) | (cases q;done) | (obtain⟨_,_,q,_⟩:=q;cases q)
 | .int _,e,v,h,q=>by unfold Rep at h;subst h;cases e <;> unfold Rep at q <;> first | (cases q;rfl) | (cases q;done) | (obtain⟨_,_,q,_⟩:=q;cases q)
 | .str _,e,v,h,q=>by unfold Rep at h;subst h;cases e <;> unfold Rep at q <;> first | (cases q;rfl) | (cases q;done) | (obtain⟨_,_,q,_⟩:=q;cases q)
 | .lst ds,e,v,h,q=>by
  unfold Rep at h
  obtain⟨a,xs,rfl,h1,h2⟩:=h
  cases e with
  | lst es=>
   unfold Rep at q
   obtain⟨b,ys,e1,q1,q2⟩:=q
   cases e1
   cases I.list_inj h1 q1
   rw[Reps.inj I ds es h2 q2]
  | tup es=>
   unfold Rep at q
   obtain⟨b,ys,e1,q1,q2⟩:=q
   cases e1
   obtain⟨_,_,p1,_⟩:=I.list h1
   obtain⟨_,_,p2,_⟩:=I.tuple q1
   exact absurd rfl (ne_of_list_tuple (s:=s) p1.isList p2)
  | _=>unfold Rep at q;cases q
 | .tup ds,e,v,h,q=>by
  unfold Rep at h
  obtain⟨a,xs,rfl,h1,h2⟩:=h
  cases e with
  | tup es=>
   unfold Rep at q
   obtain⟨b,ys,e1,q1,q2⟩:=q
   cases e1
   cases I.tuple_inj h1 q1
   rw[Reps.inj I ds es h2 q2]
  | lst es=>
   unfold Rep at q
   obtain⟨b,ys,e1,q1,q2⟩:=q
   cases e1
   obtain⟨_,_,p1,_⟩:=I.list q1
   obtain⟨_,_,p2,_⟩:=I.tuple h1
   exact absurd rfl (ne_of_list_tuple (s:=s) p1.isList p2)
  | _=>unfold Rep at q;cases q
theorem Reps.inj {X:Cx}{pins:List (Addr × Obj)}{σ:St}{H:Hp}{s:Shared}(I:Inv X pins σ H s):∀ (ds es:List D) {vs:List V},Reps X.K H ds vs->Reps X.K H es vs->ds=es
 | [],es,vs,h,q=>by
  unfold Reps at h;subst h
  cases es with
  | nil=>rfl
  | cons e es=>unfold Reps at q;obtain⟨_,_,q,_⟩:=q;cases q
 | d::ds,es,vs,h,q=>by
  unfold Reps at h
  obtain⟨v,r,rfl,h1,h2⟩:=h
  cases es with
  | nil=>unfold Reps at q;cases q
  | cons e es=>
   unfold Reps at q
   obtain⟨w,r',e1,q1,q2⟩:=q
   cases e1
   rw[Rep.inj I d e h1 q1,Reps.inj I ds es h2 q2]
end

section
variable {X:Cx}{pins:List (Addr × Obj)}{σ:St}{H:Hp}{s:Shared}
theorem zgZ {d:D}{x:V}(h:Rep X.K H d x)(f:zds x=true):(∃ b,d=.bl b/\x=.bl b)\/(∃ i,d=.int i/\x=.int i)\/(∃ z,d=.str z/\x=.str z)\/(d=.non/\x=.non):=by
 cases d with
 | non=>unfold Rep at h;exact .inr (.inr (.inr ⟨rfl,h⟩))
 | bl b=>unfold Rep at h;exact .inl ⟨b,rfl,h⟩
 | int b=>unfold Rep at h;exact .inr (.inl ⟨b,rfl,h⟩)
 | str b=>unfold Rep at h;exact .inr (.inr (.inl ⟨b,rfl,h⟩))
 | lst ds=>unfold Rep at h;obtain⟨a,xs,rfl,_⟩:=h;cases f
 | tup ds=>unfold Rep at h;obtain⟨a,xs,rfl,_⟩:=h;cases f
theorem zlL {d e:D}{x y:V}(h:Rep X.K H d x)(q:Rep X.K H e y)(fx:zds x=true)(fy:zds y=true):eqV x y=pyEq d e:=by
 rcases zgZ h fx with ⟨b,rfl,rfl⟩ | ⟨b,rfl,rfl⟩ | ⟨b,rfl,rfl⟩ | ⟨rfl,rfl⟩ <;> rcases zgZ q fy with ⟨c,rfl,rfl⟩ | ⟨c,rfl,rfl⟩ | ⟨c,rfl,rfl⟩ | ⟨rfl,rfl⟩ <;> unfold pyEq eqV <;> rfl
theorem zfh {A:Around}{ds es:List D}{xs ys:List V}{us vs:List Value}(hd:Reps X.K H ds xs)(he:Reps X.K H es ys)(ru:Vals xs us)(rv:Vals ys vs)
  (ih:∀ (d e:D) (x y:V) (u v:Value),d∈ds->Rep X.K H d x->Rep X.K H e y->RelV x u->RelV y v->EqAt A s u v (pyEq d e)) :
  ∀ j (h1:j<us.toArray.size) (h2:j<vs.toArray.size),EqAt A s us.toArray[j] vs.toArray[j] (pyEq (ds.getD j .non) (es.getD j .non)):=by
 intro j h1 h2
 simp only[zst] at h1 h2
 have l1:=hd.length
 have l2:=he.length
 have l3:=ru.length
 have l4:=rv.length
 have j1:j<ds.length:=by omega
 have j2:j<es.length:=by omega
 obtain⟨x,ex,rx⟩:=hd.get (i:=j) (d:=ds[j]) (by simp[j1])
 obtain⟨y,ey,ry⟩:=he.get (i:=j) (d:=es[j]) (by simp[j2])
 obtain⟨u,eu,ru'⟩:=ru.get ex
 obtain⟨v,ev,rv'⟩:=rv.get ey
 have e1:us.toArray[j]=u:=by
  obtain⟨_,q⟩:=zge.mp eu
  simpa using q
 have e2:vs.toArray[j]=v:=by
  obtain⟨_,q⟩:=zge.mp ev
  simpa using q
 rw[e1,e2,show ds.getD j .non=ds[j] by simp[List.getD,j1],show es.getD j .non=es[j] by simp[List.getD,j2]]
 exact ih _ _ x y u v (List.getElem_mem j1) rx ry ru' rv'
theorem zmD (I:Inv X pins σ H s):∀ (n:Nat) (d e:D) (A:Around) (x y:V) (u v:Value),dep d<=n->A.units+n<cLine->Rep X.K H d x->Rep X.K H e y->RelV x u->RelV y v->EqAt A s u v (pyEq d e):=by
 intro n
 induction n with
 | zero=>
  intro d e A x y u v hn hu hd he ru rv
  have fx:zds x=true:=by
   cases d with
   | non=>unfold Rep at hd;subst hd;rfl
   | bl b=>unfold Rep at hd;subst hd;rfl
   | int b=>unfold Rep at hd;subst hd;rfl
   | str b=>unfold Rep at hd;subst hd;rfl
   | lst ds=>unfold dep at hn;omega
   | tup ds=>unfold dep at hn;omega
  by_cases fy:zds y=true
  ·rw[<-zlL hd he fx fy]
   exact zmu ru rv fx fy
  ·cases e with
   | non=>unfold Rep at he;subst he;exact absurd rfl fy
   | bl b=>unfold Rep at he;subst he;exact absurd rfl fy
   | int b=>unfold Rep at he;subst he;exact absurd rfl fy
   | str b=>unfold Rep at he;subst he;exact absurd rfl fy
   | lst es=>
    unfold Rep at he
    obtain⟨a,ys,rfl,hq,_⟩:=he
    cases rv
    obtain⟨_,_,p,_⟩:=I.list hq
    rcases zgZ hd fx with ⟨b,rfl,rfl⟩ | ⟨b,rfl,rfl⟩ | ⟨b,rfl,rfl⟩ | ⟨rfl,rfl⟩
    ·cases ru;unfold pyEq;exact EqAt.bool_list b p.isList (by omega)
    ·obtain⟨t,rfl⟩:=ru;unfold pyEq;exact EqAt.int_list b t p.isList (by omega)
    ·obtain⟨t,rfl⟩:=ru;unfold pyEq;exact EqAt.str_list b t p.isList (by omega)
    ·cases ru;unfold pyEq;exact EqAt.none_list p.isList (by omega)
   | tup es=>
    unfold Rep at he
    obtain⟨a,ys,rfl,hq,_⟩:=he
    cases rv
    obtain⟨_,_,p,_⟩:=I.tuple hq
    rcases zgZ hd fx with ⟨b,rfl,rfl⟩ | ⟨b,rfl,rfl⟩ | ⟨b,rfl,rfl⟩ | ⟨rfl,rfl⟩
    ·cases ru;unfold pyEq;exact EqAt.bool_tuple b p (by omega)
    ·obtain⟨t,rfl⟩:=ru;unfold pyEq;exact EqAt.int_tuple b t p (by omega)
    ·obtain⟨t,rfl⟩:=ru;unfold pyEq;exact EqAt.str_tuple b t p (by omega)
    ·cases ru;unfold pyEq;exact EqAt.none_tuple p (by omega)
 | succ n ih=>
  intro d e A x y u v hn hu hd he ru rv
  by_cases h0:dep d<=n
  ·exact ih d e A x y u v h0 (by omega) hd he ru rv
  ·cases d with
   | non=>unfold dep at h0;omega
   | bl b=>unfold dep at h0;omega
   | int b=>unfold dep at h0;omega
   | str b=>unfold dep at h0;omega
   | lst ds=>
    unfold dep at hn
    have hd0:=hd
    unfold Rep at hd
    obtain⟨a,xs,rfl,hx,rx⟩:=hd
    cases ru
    obtain⟨its,vx,px,zx⟩:=I.list hx
    cases e with
    | non=>unfold Rep at he;subst he;cases rv;unfold pyEq;exact EqAt.list_none px.isList (by omega)
    | bl b=>unfold Rep at he;subst he;cases rv;unfold pyEq;exact EqAt.list_bool b px.isList (by omega)
    | int b=>unfold Rep at he;subst he;obtain⟨t,rfl⟩:=rv;unfold pyEq;exact EqAt.list_int b t px.isList (by omega)
    | str b=>unfold Rep at he;subst he;obtain⟨t,rfl⟩:=rv;unfold pyEq;exact EqAt.list_str b t px.isList (by omega)
    | tup es=>
     unfold Rep at he
     obtain⟨b,ys,rfl,hy,ry⟩:=he
     cases rv
     obtain⟨jts,vy,py,zy⟩:=I.tuple hy
     unfold pyEq
     exact EqAt.list_tuple px.isList py (by omega)
    | lst es=>
     have he0:=he
     unfold Rep at he
     obtain⟨b,ys,rfl,hy,ry⟩:=he
     cases rv
     obtain⟨jts,vy,py,zy⟩:=I.list hy
     by_cases hab:a=b
     ·subst hab
      rw[Rep.inj I _ _ hd0 he0,zdu]
      exact EqAt.same _
     ·refine EqAt.of_refs hab ?_
      unfold pyEq
      have l1:=rx.length
      have l2:=ry.length
      have l3:=vx.length
      have l4:=vy.length
      by_cases hl:ds.length=es.length
      ·have q:=RcAt.lists (A:=A) (e:=λj=>pyEq (ds.getD j .non) (es.getD j .non)) px.isList py.isList (by simp only[zst];omega) (by omega)
        (zfh rx ry vx vy λd e x y u v hm h1 h2 h3 h4=>ih d e A.in1 x y u v (Nat.le_trans (zep hm) (by omega)) (by show A.units+1+n<cLine;omega) h1 h2 h3 h4)
       rw[show its.toArray.size=ds.length by rw[zst];omega,zdw hl] at q
       exact q
      ·rw[show zbJ ds es=false by
        cases h:zbJ ds es with
        | false=>rfl
        | true=>exact absurd (zdv h) hl]
       exact RcAt.lists_lengths px.isList py.isList (by simp only[zst,bne_iff_ne];omega) (by omega)
   | tup ds=>
    unfold dep at hn
    have hd0:=hd
    unfold Rep at hd
    obtain⟨a,xs,rfl,hx,rx⟩:=hd
    cases ru
    obtain⟨its,vx,px,zx⟩:=I.tuple hx
    cases e with
    | non=>unfold Rep at he;subst he;cases rv;unfold pyEq;exact EqAt.tuple_none px (by omega)
    | bl b=>unfold Rep at he;subst he;cases rv;unfold pyEq;exact EqAt.tuple_bool b px (by omega)
    | int b=>unfold Rep at he;subst he;obtain⟨t,rfl⟩:=rv;unfold pyEq;exact EqAt.tuple_int b t px (by omega)
    | str b=>unfold Rep at he;subst he;obtain⟨t,rfl⟩:=rv;unfold pyEq;exact EqAt.tuple_str b t px (by omega)
    | lst es=>
     unfold Rep at he
     obtain⟨b,ys,rfl,hy,ry⟩:=he
     cases rv
     obtain⟨jts,vy,py,zy⟩:=I.list hy
     unfold pyEq
     exact EqAt.tuple_list px py.isList (by omega)
    | tup es=>
     have he0:=he
     unfold Rep at he
     obtain⟨b,ys,rfl,hy,ry⟩:=he
     cases rv
     obtain⟨jts,vy,py,zy⟩:=I.tuple hy
     by_cases hab:a=b
     ·subst hab
      rw[Rep.inj I _ _ hd0 he0,zdu]
      exact EqAt.same _
     ·refine EqAt.of_refs hab ?_
      unfold pyEq
      have l1:=rx.length
      have l2:=ry.length
      have l3:=vx.length
      have l4:=vy.length
      have q:=RcAt.tuples (A:=A) (e:=λj=>pyEq (ds.getD j .non) (es.getD j .non)) px py (by omega)
        (zfh rx ry vx vy λd e x y u v hm h1 h2 h3 h4=>ih d e A.in1 x y u v (Nat.le_trans (zep hm) (by omega)) (by show A.units+1+n<cLine;omega) h1 h2 h3 h4)
      by_cases hl:ds.length=es.length
      ·rw[show min its.toArray.size jts.toArray.size=ds.length by rw[zst,zst];omega,zdw hl,show (its.toArray.size == jts.toArray.size)=true by rw[zst,zst,beq_iff_eq];omega,Bool.and_true] at q
       exact q
      ·rw[show zbJ ds es=false by
        cases h:zbJ ds es with
        | false=>rfl
        | true=>exact absurd (zdv h) hl]
       rw[show (its.toArray.size == jts.toArray.size)=false by rw[zst,zst,beq_eq_false_iff_ne];omega,Bool.and_false] at q
       exact q
theorem zmE (I:Inv X pins σ H s){n:Nat}{d e:D}{A:Around}{a b:Addr}(hn:dep d<=n)(hu:A.units+n<cLine)(hd:Rep X.K H d (.ref a))(he:Rep X.K H e (.ref b)):RcAt A s (.ref a) (.ref b) (pyEq d e)/\RcNeAt A s (.ref a) (.ref b) (!pyEq d e):=by
 cases d with
 | non=>unfold Rep at hd;cases hd
 | bl _=>unfold Rep at hd;cases hd
 | int _=>unfold Rep at hd;cases hd
 | str _=>unfold Rep at hd;cases hd
 | lst ds=>
  unfold dep at hn
  unfold Rep at hd
  obtain⟨_,xs,e1,hx,rx⟩:=hd
  cases e1
  obtain⟨its,vx,px,zx⟩:=I.list hx
  cases e with
  | non=>unfold Rep at he;cases he
  | bl _=>unfold Rep at he;cases he
  | int _=>unfold Rep at he;cases he
  | str _=>unfold Rep at he;cases he
  | tup es=>
   unfold Rep at he
   obtain⟨_,ys,e1,hy,ry⟩:=he
   cases e1
   obtain⟨jts,vy,py,zy⟩:=I.tuple hy
   unfold pyEq
   exact⟨RcAt.list_tuple px.isList py (by omega),RcNeAt.list_tuple px.isList py (by omega)⟩
  | lst es=>
   unfold Rep at he
   obtain⟨_,ys,e1,hy,ry⟩:=he
   cases e1
   obtain⟨jts,vy,py,zy⟩:=I.list hy
   unfold pyEq
   have l1:=rx.length
   have l2:=ry.length
   have l3:=vx.length
   have l4:=vy.length
   by_cases hl:ds.length=es.length
   ·have it:=zfh (s:=s) (A:=A.in1) rx ry vx vy λd e x y u v hm h1 h2 h3 h4=>zmD I (n - 1) d e A.in1 x y u v (Nat.le_trans (zep hm) (by omega)) (by show A.units+1+(n - 1)<cLine;omega) h1 h2 h3 h4
    have q:=RcAt.lists (A:=A) px.isList py.isList (by simp only[zst];omega) (by omega) it
    have q2:=RcNeAt.lists (A:=A) px.isList py.isList (by simp only[zst];omega) (by omega) it
    rw[show its.toArray.size=ds.length by rw[zst];omega,zdw hl] at q q2
    exact⟨q,q2⟩
   ·rw[show zbJ ds es=false by
     cases h:zbJ ds es with
     | false=>rfl
     | true=>exact absurd (zdv h) hl]
    exact⟨RcAt.lists_lengths px.isList py.isList (by simp only[zst,bne_iff_ne];omega) (by omega),RcNeAt.lists_lengths px.isList py.isList (by simp only[zst,bne_iff_ne];omega) (by omega)⟩
 | tup ds=>
  unfold dep at hn
  unfold Rep at hd
  obtain⟨_,xs,e1,hx,rx⟩:=hd
  cases e1
  obtain⟨its,vx,px,zx⟩:=I.tuple hx
  cases e with
  | non=>unfold Rep at he;cases he
  | bl _=>unfold Rep at he;cases he
  | int _=>unfold Rep at he;cases he
  | str _=>unfold Rep at he;cases he
  | lst es=>
   unfold Rep at he
   obtain⟨_,ys,e1,hy,ry⟩:=he
   cases e1
   obtain⟨jts,vy,py,zy⟩:=I.list hy
   unfold pyEq
   exact⟨RcAt.tuple_list px py.isList (by omega),RcNeAt.tuple_list px py.isList (by omega)⟩
  | tup es=>
   unfold Rep at he
   obtain⟨_,ys,e1,hy,ry⟩:=he
   cases e1
   obtain⟨jts,vy,py,zy⟩:=I.tuple hy
   unfold pyEq
   have l1:=rx.length
   have l2:=ry.length
   have l3:=vx.length
   have l4:=vy.length
   have it:=zfh (s:=s) (A:=A.in1) rx ry vx vy λd e x y u v hm h1 h2 h3 h4=>zmD I (n - 1) d e A.in1 x y u v (Nat.le_trans (zep hm) (by omega)) (by show A.units+1+(n - 1)<cLine;omega) h1 h2 h3 h4
   have q:=RcAt.tuples (A:=A) px py (by omega) it
   have q2:=RcNeAt.tuples (A:=A) px py (by omega) it
   by_cases hl:ds.length=es.length
   ·rw[show min its.toArray.size jts.toArray.size=ds.length by rw[zst,zst];omega,zdw hl,show (its.toArray.size == jts.toArray.size)=true by rw[zst,zst,beq_iff_eq];omega,Bool.and_true] at q q2
    exact⟨q,q2⟩
   ·rw[show zbJ ds es=false by
     cases h:zbJ ds es with
     | false=>rfl
     | true=>exact absurd (zdv h) hl]
    rw[show (its.toArray.size == jts.toArray.size)=false by rw[zst,zst,beq_eq_false_iff_ne];omega,Bool.and_false] at q q2
    exact⟨q,q2⟩
end

def rEqD (K:Fg)(neg:Bool):R2:=λx y H Q=>∃ a b d e,x=.ref a/\y=.ref b/\Rep K H d (.ref a)/\Rep K H e (.ref b)/\dep d<=60/\Q (.bl (if neg then !pyEq d e else pyEq d e)) H
section
variable {X:Cx}{k:Nat}
theorem zoG (hr:Room k X.A):OpR X (compareOp .Eq) (rEqD X.K false):=by
 intro pins s σ H x y v u Q I rx ry h
 obtain⟨a,b,d,e,rfl,rfl,hd,he,hn,q⟩:=h
 cases rx;cases ry
 exact (zmE I (A:=X.A) hn (by have:=hr.units;omega) hd he).1 X.prog X.w X.xe _ ⟨.bl _,H,I,rfl,q⟩
theorem zoH (hr:Room k X.A):OpR X (compareOp .NotEq) (rEqD X.K true):=by
 intro pins s σ H x y v u Q I rx ry h
 obtain⟨a,b,d,e,rfl,rfl,hd,he,hn,q⟩:=h
 cases rx;cases ry
 exact (zmE I (A:=X.A) hn (by have:=hr.units;omega) hd he).2 X.prog X.w X.xe _ ⟨.bl _,H,I,rfl,q⟩
theorem ziB:zb2 X (.builtin "isinstance") (λxs H Q=>∃ x c t b,xs=[x,.ty c]/\TyOf X.K H x t/\PySem.W.kitOne X.K t (.type c)=some b/\Q (.bl b) H):=by
 intro pins s σ H xs us Q I r h
 obtain⟨x,c,t,b,rfl,ty,e,q⟩:=h
 obtain⟨u,v,rfl,ru,rv⟩:=zog r
 cases rv
 exact zko I ru ty e λtk=>⟨.bl b,H,I.tok tk,rfl,q⟩
end
end L2

namespace L2
open PySem PySem.Spec PyProof.Rows

mutual
def RepF (H:Hp):D->V->List Addr->Prop
 | .non,v,fp=>v=.non/\fp=[]
 | .bl b,v,fp=>v=.bl b/\fp=[]
 | .int i,v,fp=>v=.int i/\fp=[]
 | .str x,v,fp=>v=.str x/\fp=[]
 | .lst ds,v,fp=>∃ a xs r,v=.ref a/\fp=a::r/\H a=some (.lst xs)/\zai H ds xs r
 | .tup ds,v,fp=>∃ a xs,v=.ref a/\H a=some (.tup xs)/\zai H ds xs fp
def zai (H:Hp):List D->List V->List Addr->Prop
 | [],vs,fp=>vs=[]/\fp=[]
 | d::ds,vs,fp=>∃ v r f g,vs=v::r/\fp=f++g/\RepF H d v f/\zai H ds r g
end
mutual
theorem RepF.rep {K:Fg}{H:Hp} : ∀ (d:D) {v:V}{fp:List Addr},RepF H d v fp->Rep K H d v
 | .non,_,_,h=>by unfold RepF at h;unfold Rep;exact h.1
 | .bl _,_,_,h=>by unfold RepF at h;unfold Rep;exact h.1
 | .int _,_,_,h=>by unfold RepF at h;unfold Rep;exact h.1
 | .str _,_,_,h=>by unfold RepF at h;unfold Rep;exact h.1
 | .lst ds,_,_,h=>by
  unfold RepF at h;unfold Rep
  obtain⟨a,xs,r,h1,_,h2,h3⟩:=h
  exact⟨a,xs,h1,SqL.of h2,zai.reps ds h3⟩
 | .tup ds,_,_,h=>by
  unfold RepF at h;unfold Rep
  obtain⟨a,xs,h1,h2,h3⟩:=h
  exact⟨a,xs,h1,SqT.of h2,zai.reps ds h3⟩
theorem zai.reps {K:Fg}{H:Hp} : ∀ (ds:List D) {vs:List V}{fp:List Addr},zai H ds vs fp->Reps K H ds vs
 | [],_,_,h=>by unfold zai at h;unfold Reps;exact h.1
 | d::ds,_,_,h=>by
  unfold zai at h;unfold Reps
  obtain⟨v,r,f,g,h1,_,h2,h3⟩:=h
  exact⟨v,r,h1,RepF.rep d h2,zai.reps ds h3⟩
end
def Tups (H H':Hp):Prop:=∀ b xs,H b=some (.tup xs)->H' b=some (.tup xs)
theorem Same.tups {H H':Hp}(e:Same H H'):Tups H H':=λ_ _ h=>e _ _ h
theorem Tups.trans {H H1 H2:Hp}(a:Tups H H1)(b:Tups H1 H2):Tups H H2:=λc o h=>b c o (a c o h)
theorem zlM {H:Hp}{a:Addr}{o:HO}(h:∀ xs,H a≠some (.tup xs)):Tups H (upd H a o):=λb xs e=>by rw[zam (λz=>h xs (by rw[<-z];exact e))];exact e
theorem zg0 {H:Hp}{a:Addr}{o:HO}{ys:List V}(h:H a=some (.lst ys)):Tups H (upd H a o):=zlM λxs e=>by rw[h] at e;cases e
mutual
theorem RepF.frame {H H':Hp}(tk:Tups H H'):∀ (d:D) {v:V}{fp:List Addr},(∀ a∈fp,H' a=H a)->RepF H d v fp->RepF H' d v fp
 | .non,_,_,_,h=>by unfold RepF at *;exact h
 | .bl _,_,_,_,h=>by unfold RepF at *;exact h
 | .int _,_,_,_,h=>by unfold RepF at *;exact h
 | .str _,_,_,_,h=>by unfold RepF at *;exact h
 | .lst ds,_,_,k,h=>by
  unfold RepF at *
  obtain⟨a,xs,r,h1,h0,h2,h3⟩:=h
  subst h0
  exact⟨a,xs,r,h1,rfl,(k a List.mem_cons_self).trans h2,zai.frame tk ds (λb hb=>k b (List.mem_cons_of_mem _ hb)) h3⟩
 | .tup ds,_,_,k,h=>by
  unfold RepF at *
  obtain⟨a,xs,h1,h2,h3⟩:=h
  exact⟨a,xs,h1,tk _ _ h2,zai.frame tk ds k h3⟩
theorem zai.frame {H H':Hp}(tk:Tups H H'):∀ (ds:List D) {vs:List V}{fp:List Addr},(∀ a∈fp,H' a=H a)->zai H ds vs fp->zai H' ds vs fp
 | [],_,_,_,h=>by unfold zai at *;exact h
 | d::ds,_,_,k,h=>by
  unfold zai at *
  obtain⟨v,r,f,g,h1,h0,h2,h3⟩:=h
  subst h0
  exact⟨v,r,f,g,h1,rfl,RepF.frame tk d (λb hb=>k b (List.mem_append_left _ hb)) h2,zai.frame tk ds (λb hb=>k b (List.mem_append_right _ hb)) h3⟩
end
mutual
theorem RepF.has {H:Hp} : ∀ (d:D) {v:V}{fp:List Addr},RepF H d v fp->∀ a∈fp,∃ o,H a=some o
 | .non,_,_,h,a,m=>by unfold RepF at h;rw[h.2] at m;cases m
 | .bl _,_,_,h,a,m=>by unfold RepF at h;rw[h.2] at m;cases m
 | .int _,_,_,h,a,m=>by unfold RepF at h;rw[h.2] at m;cases m
 | .str _,_,_,h,a,m=>by unfold RepF at h;rw[h.2] at m;cases m
 | .lst ds,_,_,h,b,m=>by
  unfold RepF at h
  obtain⟨a,xs,r,h1,h0,h2,h3⟩:=h
  subst h0
  rcases List.mem_cons.mp m with m | m
  ·subst m;exact⟨_,h2⟩
  ·exact zai.has ds h3 b m
 | .tup ds,_,_,h,b,m=>by
  unfold RepF at h
  obtain⟨a,xs,h1,h2,h3⟩:=h
  exact zai.has ds h3 b m
theorem zai.has {H:Hp} : ∀ (ds:List D) {vs:List V}{fp:List Addr},zai H ds vs fp->∀ a∈fp,∃ o,H a=some o
 | [],_,_,h,a,m=>by unfold zai at h;rw[h.2] at m;cases m
 | d::ds,_,_,h,b,m=>by
  unfold zai at h
  obtain⟨v,r,f,g,h1,h0,h2,h3⟩:=h
  subst h0
  rcases zma.mp m with m | m
  ·exact RepF.has d h2 b m
  ·exact zai.has ds h3 b m
end
theorem zai.length {H:Hp} : ∀ {ds:List D}{vs:List V}{fp:List Addr},zai H ds vs fp->ds.length=vs.length
 | [],_,_,h=>by unfold zai at h;rw[h.1];rfl
 | d::ds,_,_,h=>by
  unfold zai at h
  obtain⟨v,r,f,g,rfl,_,_,h3⟩:=h
  simp[zai.length h3]
theorem zai.snoc {H:Hp} : ∀ {ds:List D}{vs:List V}{fp:List Addr}{d:D}{v:V}{f:List Addr},zai H ds vs fp->RepF H d v f->zai H (ds++[d]) (vs++[v]) (fp++f)
 | [],_,_,d,v,f,h,q=>by
  unfold zai at h
  obtain⟨rfl,rfl⟩:=h
  show zai H [d] [v] ([]++f)
  unfold zai
  exact⟨v,[],f,[],rfl,by simp,q,by unfold zai;exact⟨rfl,rfl⟩⟩
 | c::ds,_,_,d,v,f,h,q=>by
  unfold zai at h
  obtain⟨u,r,f1,g1,rfl,rfl,h2,h3⟩:=h
  rw[List.cons_append,List.cons_append,List.append_assoc]
  unfold zai
  exact⟨u,_,f1,_,rfl,rfl,h2,zai.snoc h3 q⟩
theorem zai.ints {H:Hp} : ∀ {ns:List Int},zai H (ns.map D.int) (ns.map V.int) []
 | []=>by unfold List.map zai;exact⟨rfl,rfl⟩
 | n::ns=>by
  rw[zmc,zmc]
  unfold zai
  exact⟨_,_,[],[],rfl,rfl,by unfold RepF;exact⟨rfl,rfl⟩,zai.ints⟩
theorem zai.ints_eq {H:Hp} : ∀ {ns:List Int}{vs:List V}{fp:List Addr},zai H (ns.map D.int) vs fp->vs=ns.map V.int/\fp=[]
 | [],_,_,h=>by unfold List.map zai at h;exact h
 | n::ns,_,_,h=>by
  rw[zmc] at h
  unfold zai at h
  obtain⟨v,r,f,g,rfl,rfl,h1,h2⟩:=h
  unfold RepF at h1
  obtain⟨rfl,rfl⟩:=h1
  obtain⟨rfl,rfl⟩:=zai.ints_eq h2
  exact⟨rfl,rfl⟩
theorem zeq:∀ ns:List Int,dep (.lst (ns.map D.int))<=1
 | []=>by unfold List.map dep deps;exact Nat.le_refl _
 | n::ns=>by
  have ih:=zeq ns
  unfold dep at ih ⊢
  rw[zmc]
  unfold deps dep
  omega
def New (H H':Hp)(d:D)(v:V):Prop:=∃ fp,RepF H' d v fp/\fp.Nodup/\∀ a∈fp,H a=none
abbrev nums (ns:List Int):D:=.lst (ns.map D.int)
theorem New.rep {K:Fg}{H H':Hp}{d:D}{v:V}(h:New H H' d v):Rep K H' d v:=let ⟨_,h,_⟩:=h;RepF.rep d h
theorem New.int {H H':Hp}{i:Int} : New H H' (.int i) (.int i):=⟨[],by unfold RepF;exact⟨rfl,rfl⟩,List.nodup_nil,λ_ m=>by cases m⟩
theorem New.bl {H H':Hp}{i:Bool} : New H H' (.bl i) (.bl i):=⟨[],by unfold RepF;exact⟨rfl,rfl⟩,List.nodup_nil,λ_ m=>by cases m⟩
theorem New.str {H H':Hp}{i:Str} : New H H' (.str i) (.str i):=⟨[],by unfold RepF;exact⟨rfl,rfl⟩,List.nodup_nil,λ_ m=>by cases m⟩
theorem New.non {H H':Hp} : New H H' .non .non:=⟨[],by unfold RepF;exact⟨rfl,rfl⟩,List.nodup_nil,λ_ m=>by cases m⟩
theorem New.back {H0 H H':Hp}{d:D}{v:V}(e:Same H0 H)(h:New H H' d v):New H0 H' d v:=by
 obtain⟨fp,h1,h2,h3⟩:=h
 exact⟨fp,h1,h2,λa m=>e.free (h3 a m)⟩
theorem New.same {H H' H2:Hp}{d:D}{v:V}(e:Same H' H2)(h:New H H' d v):New H H2 d v:=by
 obtain⟨fp,h1,h2,h3⟩:=h
 refine⟨fp,RepF.frame e.tups d (λa m=>?_) h1,h2,h3⟩
 obtain⟨o,ho⟩:=RepF.has d h1 a m
 rw[ho,e a o ho]
theorem New.iif {H H':Hp}{ns:List Int}{v:V} : New H H' (nums ns) v↔∃ a,v=.ref a/\H a=none/\H' a=some (.lst (ns.map V.int)):=by
 constructor
 ·rintro⟨fp,h1,h2,h3⟩
  unfold RepF at h1
  obtain⟨a,xs,r,e1,e2,e3,e4⟩:=h1
  obtain⟨rfl,rfl⟩:=zai.ints_eq e4
  subst e2
  exact⟨a,e1,h3 a List.mem_cons_self,e3⟩
 ·rintro⟨a,e1,e2,e3⟩
  refine⟨[a],?_,by simp,λb m=>by rw[zms.mp m];exact e2⟩
  unfold RepF
  exact⟨a,_,[],e1,rfl,e3,zai.ints⟩
theorem za5 {K:Fg}{H:Hp}{ns:List Int}{v:V} : Rep K H (nums ns) v↔∃ a,v=.ref a/\SqL K H a (ns.map V.int):=by
 unfold Rep
 constructor
 ·rintro⟨a,xs,e1,e2,e3⟩
  rw[Reps.ints.mp e3] at e2
  exact⟨a,e1,e2⟩
 ·rintro⟨a,e1,e2⟩
  exact⟨a,_,e1,e2,Reps.ints.mpr rfl⟩
theorem zaf {H:Hp}{p:Addr}(h:H p=none)(o:HO):Same H (upd H p o):=λb u q=>by rw[zam (zau q h)];exact q
theorem New.lst {H1 H':Hp}{ds:List D}{vs:List V}{fp:List Addr}{a:Addr}(h:zai H' ds vs fp)(nd:fp.Nodup)(hf:∀ b∈fp,H1 b=none)(ha:H1 a=none)(na:a∉fp)(hH:H' a=some (.lst vs)):New H1 H' (.lst ds) (.ref a):=by
 refine⟨a::fp,?_,List.nodup_cons.mpr ⟨na,nd⟩,λb m=>?_⟩
 ·unfold RepF;exact⟨a,vs,fp,rfl,rfl,hH,h⟩
 ·rcases List.mem_cons.mp m with m | m
  ·subst m;exact ha
  ·exact hf b m
theorem New.tup {H1 H':Hp}{ds:List D}{vs:List V}{fp:List Addr}{a:Addr}(h:zai H' ds vs fp)(nd:fp.Nodup)(hf:∀ b∈fp,H1 b=none)(hH:H' a=some (.tup vs)):New H1 H' (.tup ds) (.ref a):=by
 refine⟨fp,?_,nd,hf⟩
 unfold RepF;exact⟨a,vs,rfl,hH,h⟩
structure Goes (J:It)(H1:Hp)(n:Nat)(P:Nat->V->Hp->Prop):Prop where
 go:∀ i H,i<n->Same H1 H->J.go i H
 stop:∀ H,Same H1 H->J.stop n H
 yld:∀ i H x H',i<n->Same H1 H->J.yld i H x H'->Same H H'/\P i x H'
theorem zay {K:Fg}{a:Addr}{xs:List V}{H1:Hp}(h:SqL K H1 a xs):Goes (Itl K a) H1 xs.length (λi x _=>xs[i]?=some x) where
 go:=λi H hi e=>⟨xs,xs[i],e.seq h,by simp[hi]⟩
 stop:=λH e=>⟨xs,e.seq h,Nat.le_refl _⟩
 yld:=λi H x H' hi e q=>by
  obtain⟨rfl,q⟩:=q
  exact⟨Same.refl _,q xs (e.seq h)⟩
theorem zer {K:Fg}{a:Addr}{xs:List V}{H1:Hp}(h:SqT K H1 a xs):Goes (Itt K a) H1 xs.length (λi x _=>xs[i]?=some x) where
 go:=λi H hi e=>⟨xs,xs[i],e.tup h,by simp[hi]⟩
 stop:=λH e=>⟨xs,e.tup h,Nat.le_refl _⟩
 yld:=λi H x H' hi e q=>by
  obtain⟨rfl,q⟩:=q
  exact⟨Same.refl _,q xs (e.tup h)⟩
theorem zeP {lo:Int}{n:Nat}{H1:Hp} : Goes (Itr lo n) H1 n (λi x _=>x=.int (lo+i)) where
 go:=λi H hi e=>hi
 stop:=λH e=>Nat.le_refl _
 yld:=λi H x H' hi e q=>by
  obtain⟨rfl,q⟩:=q
  exact⟨Same.refl _,q⟩
theorem zjb {K:Fg}{a b:Addr}{xs ys:List V}{H1:Hp}{n:Nat}(h:SqL K H1 a xs)(h2:SqL K H1 b ys)(hn:n=min xs.length ys.length) :
  Goes (Itz K a b) H1 n (λi v H=>∃ T x y,v=.ref T/\H T=some (.tup [x,y])/\xs[i]?=some x/\ys[i]?=some y) where
 go:=λi H hi e=>⟨xs,ys,xs[i]'(by omega),ys[i]'(by omega),e.seq h,e.seq h2,by simp,by simp⟩
 stop:=λH e=>⟨xs,ys,e.seq h,e.seq h2,by
  rcases Nat.le_total xs.length ys.length with z | z
  ·exact .inl (by simp;omega)
  ·exact .inr (by simp;omega)⟩
 yld:=λi H x H' hi e q=>by
  obtain⟨T,nT,rfl,q⟩:=q
  have i1:i<xs.length:=by omega
  have i2:i<ys.length:=by omega
  have:=q xs ys xs[i] ys[i] (e.seq h) (e.seq h2) (by simp) (by simp)
  subst this
  exact⟨zaf nT _,T,_,_,rfl,zac,by simp,by simp⟩
def zjc (J:It)(g:TG)(tt:TT)(te:TE)(σ0:St)(H1:Hp)(Q:VK):Prop:=∀ D,H1 D=none->
 ∃ W:Nat->Nat->List V->Hp->Prop,(∃ m,W 0 m [] (upd H1 D (.lst [])))/\∀ i m ys H,W i m ys H->H D=some (.lst ys)/\
  ((J.stop i H/\Q (.ref D) H)\/(J.go i H/\ys.length<sizeLine/\∃ N:List V->Hp->Prop,(∀ ys' H',N ys' H'->∃ m',m'<m/\W (i+1) m' ys' H')/\
   ∀ x H',J.yld i H x H'->g x σ0 H' λσ2 H2=>tt σ2 H2 λb H3=>if b=true then te σ2 H3 λy H4=>H4 D=some (.lst ys)/\N (ys++[y]) (upd H4 D (.lst (ys++[y]))) else N ys H3))
def zkK (J:It)(g:TG)(tb:TS)(D:Ends)(σ:St)(H1:Hp):Prop:=∃ W:Nat->Nat->St->Hp->Prop,(∃ m,W 0 m σ H1)/\∀ i m σ H,W i m σ H->
 (J.stop i H/\D.nx σ H)\/(J.go i H/\∃ N:St->Hp->Prop,(∀ σ' H',N σ' H'->∃ m',m'<m/\W (i+1) m' σ' H')/\∀ x H',J.yld i H x H'->g x σ H' λσ2 H2=>tb {D with nx:=N,ct:=N,bk:=D.nx} σ2 H2)
theorem zaA {J:It}{H1:Hp}{n:Nat}{P:Nat->V->Hp->Prop}{g:TG}{te:TE}{σ0:St}{Q:VK}(wk:Goes J H1 n P)(ds:List D)(hn:ds.length=n)(hz:n<=sizeLine)
  (step:∀ i x d H' (R:VK),i<n->ds[i]?=some d->Same H1 H'->P i x H'->(∀ y H3,Same H' H3->New H' H3 d y->R y H3)->g x σ0 H' λσ2 H2=>te σ2 H2 R)
  (fin:∀ v H',Same H1 H'->New H1 H' (.lst ds) v->Q v H') :
  zjc J g zne te σ0 H1 Q:=by
 intro Da hD
 refine⟨λi m ys H=>m=n - i/\i<=n/\Same H1 H/\H Da=some (.lst ys)/\∃ fp,zai H (ds.take i) ys fp/\fp.Nodup/\Da∉fp/\∀ b∈fp,H1 b=none,⟨n,rfl,Nat.zero_le _,zaf hD _,zac,[],?_,List.nodup_nil,by simp,λ_ m=>by cases m⟩,?_⟩
 ·rw[List.take_zero];unfold zai;exact⟨rfl,rfl⟩
 rintro i m ys H ⟨rfl,hi,hs,hH,fp,hr,nd,na,hf⟩
 refine⟨hH,?_⟩
 have hl:=hr.length
 rw[List.length_take] at hl
 by_cases hlt:i<n
 ·refine .inr ⟨wk.go i H hlt hs,by omega,λys' H'=>(n - (i+1)<n - i/\i+1<=n/\Same H1 H'/\H' Da=some (.lst ys')/\∃ fp,zai H' (ds.take (i+1)) ys' fp/\fp.Nodup/\Da∉fp/\∀ b∈fp,H1 b=none),λys' H' ⟨q1,q2,q3,q4,q5⟩=>⟨n - (i+1),q1,rfl,q2,q3,q4,q5⟩,λx H' hy=>?_⟩
  obtain⟨s1,hp⟩:=wk.yld i H x H' hlt hs hy
  have hi':i<ds.length:=by omega
  refine step i x ds[i] H' _ hlt (by simp) (hs.trans s1) hp λy H3 s3 hn3=>?_
  have hD3:H3 Da=some (.lst ys):=s3 _ _ (s1 _ _ hH)
  refine⟨hD3,by omega,hlt,?_,zac,?_⟩
  ·intro b o e
   rw[zam (zau e hD)]
   exact s3 _ _ (s1 _ _ (hs _ _ e))
  ·obtain⟨fq,h1,h2,h3⟩:=hn3
   have keep:∀ b∈fp,(upd H3 Da (.lst (ys++[y]))) b=H b:=λb hb=>by
    obtain⟨o,ho⟩:=zai.has _ hr b hb
    rw[zam (show b≠Da from λz=>na (by rw[<-z];exact hb)),ho]
    exact s3 _ _ (s1 _ _ ho)
   have nDq:Da∉fq:=λz=>by
    have:=h3 Da z
    rw[s1 _ _ hH] at this;cases this
   have tk2:Tups H3 (upd H3 Da (.lst (ys++[y]))):=zg0 hD3
   have tk1:Tups H (upd H3 Da (.lst (ys++[y]))):=((s1.trans s3).tups).trans tk2
   have keep2:∀ b∈fq,(upd H3 Da (.lst (ys++[y]))) b=H3 b:=λb hb=>by rw[zam (show b≠Da from λz=>nDq (by rw[<-z];exact hb))]
   refine⟨fp++fq,?_,?_,?_,?_⟩
   ·have:=(zai.frame tk1 _ keep hr).snoc (RepF.frame tk2 _ keep2 h1)
    rw[List.take_add_one,show ds[i]?.toList=[ds[i]] by simp[hi']]
    exact this
   ·refine List.nodup_append.mpr ⟨nd,h2,λa ha b hb z=>?_⟩
    subst z
    obtain⟨o,ho⟩:=zai.has _ hr a ha
    have:=h3 a hb
    rw[s1 _ _ ho] at this;cases this
   ·exact λz=>(zma.mp z).elim na nDq
   ·intro b hb
    rcases zma.mp hb with z | z
    ·exact hf b z
    ·exact (hs.trans s1).free (h3 b z)
 ·have e:i=n:=by omega
  subst e
  refine .inl ⟨wk.stop H hs,fin _ _ hs ?_⟩
  rw[List.take_of_length_le (by omega)] at hr
  exact New.lst hr nd hf hD na hH
theorem zkL {J:It}{H1:Hp}{n:Nat}{P:Nat->V->Hp->Prop}{g:TG}{tt:TT}{te:TE}{σ0:St}{Q:VK}(wk:Goes J H1 n P)(k:Nat->Bool)(d:Nat->D)(hz:n<=sizeLine)
  (step:∀ i x H' (R1:VK) (R2:Hp->Prop),i<n->Same H1 H'->P i x H'->(k i=true->∀ y H3,Same H' H3->New H' H3 (d i) y->R1 y H3)->(k i=false->∀ H3,Same H' H3->R2 H3)->
   g x σ0 H' λσ2 H2=>tt σ2 H2 λb H3=>if b=true then te σ2 H3 R1 else R2 H3)
  (fin:∀ v H',Same H1 H'->New H1 H' (.lst (((List.range n).filter k).map d)) v->Q v H') :
  zjc J g tt te σ0 H1 Q:=by
 intro Da hD
 refine⟨λi m ys H=>m=n - i/\i<=n/\Same H1 H/\H Da=some (.lst ys)/\∃ fp,zai H (((List.range i).filter k).map d) ys fp/\fp.Nodup/\Da∉fp/\∀ b∈fp,H1 b=none,⟨n,rfl,Nat.zero_le _,zaf hD _,zac,[],?_,List.nodup_nil,by simp,λ_ m=>by cases m⟩,?_⟩
 ·simp only[List.range_zero,List.filter_nil,List.map_nil];unfold zai;exact⟨rfl,rfl⟩
 rintro i m ys H ⟨rfl,hi,hs,hH,fp,hr,nd,na,hf⟩
 refine⟨hH,?_⟩
 have hl:=hr.length
 have hl2:((List.range i).filter k).length<=i:=by
  have:=List.length_filter_le k (List.range i)
  rwa [List.length_range] at this
 rw[zlm] at hl
 by_cases hlt:i<n
 ·refine .inr ⟨wk.go i H hlt hs,by omega,λys' H'=>(n - (i+1)<n - i/\i+1<=n/\Same H1 H'/\H' Da=some (.lst ys')/\∃ fp,zai H' (((List.range (i+1)).filter k).map d) ys' fp/\fp.Nodup/\Da∉fp/\∀ b∈fp,H1 b=none),λys' H' ⟨q1,q2,q3,q4,q5⟩=>⟨n - (i+1),q1,rfl,q2,q3,q4,q5⟩,λx H' hy=>?_⟩
  obtain⟨s1,hp⟩:=wk.yld i H x H' hlt hs hy
  refine step i x H' _ _ hlt (hs.trans s1) hp (λhk y H3 s3 hn3=>?_) (λhk H3 s3=>?_)
  ·have hD3:H3 Da=some (.lst ys):=s3 _ _ (s1 _ _ hH)
   refine⟨hD3,by omega,hlt,?_,zac,?_⟩
   ·intro b o e
    rw[zam (zau e hD)]
    exact s3 _ _ (s1 _ _ (hs _ _ e))
   ·obtain⟨fq,h1,h2,h3⟩:=hn3
    have keep:∀ b∈fp,(upd H3 Da (.lst (ys++[y]))) b=H b:=λb hb=>by
     obtain⟨o,ho⟩:=zai.has _ hr b hb
     rw[zam (show b≠Da from λz=>na (by rw[<-z];exact hb)),ho]
     exact s3 _ _ (s1 _ _ ho)
    have nDq:Da∉fq:=λz=>by
     have:=h3 Da z
     rw[s1 _ _ hH] at this;cases this
    have tk2:Tups H3 (upd H3 Da (.lst (ys++[y]))):=zg0 hD3
    have tk1:Tups H (upd H3 Da (.lst (ys++[y]))):=((s1.trans s3).tups).trans tk2
    have keep2:∀ b∈fq,(upd H3 Da (.lst (ys++[y]))) b=H3 b:=λb hb=>by rw[zam (show b≠Da from λz=>nDq (by rw[<-z];exact hb))]
    refine⟨fp++fq,?_,?_,?_,?_⟩
    ·have:=(zai.frame tk1 _ keep hr).snoc (RepF.frame tk2 _ keep2 h1)
     rw[List.range_succ,List.filter_append,List.map_append,List.filter_cons,hk]
     exact this
    ·refine List.nodup_append.mpr ⟨nd,h2,λa ha b hb z=>?_⟩
     subst z
     obtain⟨o,ho⟩:=zai.has _ hr a ha
     have:=h3 a hb
     rw[s1 _ _ ho] at this;cases this
    ·exact λz=>(zma.mp z).elim na nDq
    ·intro b hb
     rcases zma.mp hb with z | z
     ·exact hf b z
     ·exact (hs.trans s1).free (h3 b z)
  ·refine⟨by omega,hlt,hs.trans (s1.trans s3),s3 _ _ (s1 _ _ hH),fp,?_,nd,na,hf⟩
   rw[List.range_succ,List.filter_append,List.map_append,List.filter_cons,hk]
   simp only[Bool.false_eq_true,if_false,List.filter_nil,List.map_nil,List.append_nil]
   refine zai.frame (s1.trans s3).tups _ (λb hb=>?_) hr
   obtain⟨o,ho⟩:=zai.has _ hr b hb
   rw[ho]
   exact s3 _ _ (s1 _ _ ho)
 ·have e:i=n:=by omega
  subst e
  exact .inl ⟨wk.stop H hs,fin _ _ hs (New.lst hr nd hf hD na hH)⟩
theorem zg1 {J:It}{H1:Hp}{n:Nat}{P:Nat->V->Hp->Prop}{g:TG}{tb:TS}{D:Ends}{σ:St}(wk:Goes J H1 n P)(Pv:Nat->St->Hp->Prop)(h0:Pv 0 σ H1)(hl:∀ i σ H,Pv i σ H->Same H1 H)
  (hs:∀ i x σ H H',i<n->Pv i σ H->Same H H'->P i x H'->g x σ H' λσ2 H2=>tb {D with nx:=Pv (i+1),ct:=Pv (i+1),bk:=D.nx} σ2 H2) (hd:∀ σ H,Pv n σ H->D.nx σ H) :
  zkK J g tb D σ H1:=by
 refine⟨λi m σ H=>m=n - i/\i<=n/\Pv i σ H,⟨n,by simp,Nat.zero_le _,h0⟩,?_⟩
 rintro i m σ H ⟨rfl,hi,p⟩
 have e:=hl i σ H p
 by_cases hlt:i<n
 ·refine .inr ⟨wk.go i H hlt e,Pv (i+1),λσ' H' p'=>⟨n - (i+1),by omega,rfl,hlt,p'⟩,λx H' y=>?_⟩
  obtain⟨s1,hp⟩:=wk.yld i H x H' hlt e y
  exact hs i x σ H H' hlt p s1 hp
 ·have e':i=n:=by omega
  subst e'
  exact .inl ⟨wk.stop H e,hd σ H p⟩
end L2

namespace L2
open PySem PySem.Spec PyProof.Rows

inductive E3 {α1 α2 α3:Type}(p:α1->α2->α3->Prop):Prop
 | mk (a1:α1) (a2:α2) (a3:α3) (h:p a1 a2 a3):E3 p
inductive E4 {α1 α2 α3 α4:Type}(p:α1->α2->α3->α4->Prop):Prop
 | mk (a1:α1) (a2:α2) (a3:α3) (a4:α4) (h:p a1 a2 a3 a4):E4 p
inductive E6 {α1 α2 α3 α4 α5 α6:Type}(p:α1->α2->α3->α4->α5->α6->Prop):Prop
 | mk (a1:α1) (a2:α2) (a3:α3) (a4:α4) (a5:α5) (a6:α6) (h:p a1 a2 a3 a4 a5 a6):E6 p
inductive E7 {α1 α2 α3 α4 α5 α6 α7:Type}(p:α1->α2->α3->α4->α5->α6->α7->Prop):Prop
 | mk (a1:α1) (a2:α2) (a3:α3) (a4:α4) (a5:α5) (a6:α6) (a7:α7) (h:p a1 a2 a3 a4 a5 a6 a7):E7 p
inductive A3 (p1 p2 p3:Prop):Prop
 | mk (h1:p1) (h2:p2) (h3:p3):A3 p1 p2 p3
inductive A4 (p1 p2 p3 p4:Prop):Prop
 | mk (h1:p1) (h2:p2) (h3:p3) (h4:p4):A4 p1 p2 p3 p4
inductive A6 (p1 p2 p3 p4 p5 p6:Prop):Prop
 | mk (h1:p1) (h2:p2) (h3:p3) (h4:p4) (h5:p5) (h6:p6):A6 p1 p2 p3 p4 p5 p6
inductive A7 (p1 p2 p3 p4 p5 p6 p7:Prop):Prop
 | mk (h1:p1) (h2:p2) (h3:p3) (h4:p4) (h5:p5) (h6:p6) (h7:p7):A7 p1 p2 p3 p4 p5 p6 p7
inductive A8 (p1 p2 p3 p4 p5 p6 p7 p8:Prop):Prop
 | mk (h1:p1) (h2:p2) (h3:p3) (h4:p4) (h5:p5) (h6:p6) (h7:p7) (h8:p8):A8 p1 p2 p3 p4 p5 p6 p7 p8
inductive A9 (p1 p2 p3 p4 p5 p6 p7 p8 p9:Prop):Prop
 | mk (h1:p1) (h2:p2) (h3:p3) (h4:p4) (h5:p5) (h6:p6) (h7:p7) (h8:p8) (h9:p9):A9 p1 p2 p3 p4 p5 p6 p7 p8 p9
inductive A10 (p1 p2 p3 p4 p5 p6 p7 p8 p9 p10:Prop):Prop
 | mk (h1:p1) (h2:p2) (h3:p3) (h4:p4) (h5:p5) (h6:p6) (h7:p7) (h8:p8) (h9:p9) (h10:p10):A10 p1 p2 p3 p4 p5 p6 p7 p8 p9 p10
structure Fn (P:Program)(w:World)(K:Fg)(mg:Str->Option Value)(base:Heap)(x:Str)(ps:List Str)(k:Nat)(sp:Sp):Prop where
 ex:∃ f fd,FnOk P w K mg base CX0 k f fd ps sp/\zdP K fd ps []/\PySem.W.keepIn K (.ref f)=true/\mg x=some (.ref f)
section
variable {X:Cx}{k j:Nat}{ps:List Str}{sp:Sp}{x:Str}{p pos:Pos}{e:Expr}{es:List Expr}{t:TA}
theorem zak (G:Fn X.prog X.w X.K X.mg X.base x ps j sp)(hr:Room k X.A)(hg:Gl X x)(ha:PA X (e::es) t)(hj:j<=k:=by decide)(hdb:(x == ("__debug__" : Str))=false:=by decide)
  (he:starEach (e::es) X.env=(false,eval e X.env)::starEach es X.env:=by rfl) (hpl:(backTo pos (starEach es X.env)).any (·.1)=false:=by rfl):PE X (.Call (.Name x p) (e::es) [] pos) (zhz sp [] E0 t):=by
 obtain⟨f,fd,F,hb,hk,hm⟩:=G.ex
 exact zkq (F.mono hj) hr hg hm hk hb .nil zdQ ha hdb he hpl
end
theorem Fn.of {P:Program}{w:World}{K:Fg}{mg:Str->Option Value}{base:Heap}{x:Str}{st:Stmt}{f:Addr}{fd:FuncData}{N ps:List Str}{k:Nat}{sp:Sp}(F:Fun K x x st f fd)(S:FSc N ps (zad st))(m:mg x=some (.ref f))
  (hb:∀ (kV doc pm:Value) (an:Option Addr) (cdv ct:Value) (us:List Value),us.length=ps.length->bindArgs (PySem.W.fnOf x x (zcV st) (zbO st) (zad st) .none kV doc pm an cdv ct) ⟨us,[]⟩=pure (ps.zip us))
  (len:∀ vs H Q E,sp vs H Q E->vs.length=ps.length)
  (hbody:∀ (cdv:Value) (A:Around) (outer:List Env) (s:Shared) (H:Hp) (vs:List V) (Q:VK) (E:XK),Room k (A.deeper (envOfC x (zad st) s.heap.objs.size f cdv))->sp vs H Q E->
   ∃ t,PSs (cxOf CX0 P w K mg base N x (zad st) f cdv A outer s H E).nox (zbO st) t/\t {nx:=λ_ H'=>Q .non H',rt:=Q} (start N vs) H):Fn P w K mg base x ps (k+1) sp:=
 ⟨f,fd,F.ok S len hbody,F.binds hb,F.kp,m⟩
section
variable {X:Cx}{k:Nat}
def zjI (K:Fg):R2:=λx y H Q=>rI0 (λi j=>.int (i+j)) x y H Q\/rCat x y H Q\/zom K x y H Q
theorem zni:OpR X (binaryOp .Add) (zjI X.K):=zob.or (zot.or zm5)
def zmF:R2:=λx y H Q=>rI CMul (λi j=>.int (i * j)) x y H Q\/rRep x y H Q
theorem zcP:OpR X (binaryOp .Mult) zmF:=zoc.or zou
def rEqA (K:Fg):R2:=λx y H Q=>rEq x y H Q\/rEqD K false x y H Q
def rNeA (K:Fg):R2:=λx y H Q=>rNe x y H Q\/rEqD K true x y H Q
theorem zoI (hr:Room k X.A):OpR X (compareOp .Eq) (rEqA X.K):=zod.or (zoG hr)
theorem zoJ (hr:Room k X.A):OpR X (compareOp .NotEq) (rNeA X.K):=op_ne.or (zoH hr)
end

def rLen (K:Fg):List V->Hp->VK->Prop:=λxs H Q=>∃ p ys,xs=[.ref p]/\(SqL K H p ys\/SqT K H p ys)/\Q (.int ys.length) H
def ziC (K:Fg):List V->Hp->VK->Prop:=λxs H Q=>∃ p ys,xs=[.ref p]/\(SqL K H p ys\/SqT K H p ys)/\∀ l,H l=none->Q (.ref l) (upd H l (.lst ys))
def zkM (K:Fg):List V->Hp->VK->Prop:=λxs H Q=>∃ p ys,xs=[.ref p]/\((SqL K H p ys/\∀ l,H l=none->Q (.ref l) (upd H l (.tup ys)))\/(SqT K H p ys/\Q (.ref p) H))
def rIsi (K:Fg):List V->Hp->VK->Prop:=λxs H Q=>∃ x c t b,xs=[x,.ty c]/\TyOf K H x t/\PySem.W.kitOne K t (.type c)=some b/\Q (.bl b) H
def rAll (K:Fg):List V->Hp->VK->Prop:=λxs H Q=>∃ (p:Addr) (bs:List Bool),xs=[.ref p]/\SqL K H p (bs.map V.bl)/\Q (.bl (bs.all id)) H
def rAny (K:Fg):List V->Hp->VK->Prop:=λxs H Q=>∃ (p:Addr) (bs:List Bool),xs=[.ref p]/\SqL K H p (bs.map V.bl)/\Q (.bl (bs.any id)) H
def rMin:List V->Hp->VK->Prop:=λxs H Q=>∃ i j,xs=[.int i,.int j]/\Q (.int (if j<i then j else i)) H
section
variable {X:Cx}
theorem c_len:zb2 X (.builtin "len") (rLen X.K):=zhE
theorem zoK:zb2 X (.type "list") (ziC X.K):=zhF
theorem znj:zb2 X (.type "tuple") (zkM X.K):=zgX
theorem c_isi:zb2 X (.builtin "isinstance") (rIsi X.K):=ziB
theorem c_all (hc:X.calm=true):zb2 X (.builtin "all") (rAll X.K):=zlJ hc
theorem c_any (hc:X.calm=true):zb2 X (.builtin "any") (rAny X.K):=zlK hc
theorem c_min (hc:X.calm=true):zb2 X (.builtin "min") rMin:=zkl hc
end

section
variable {K:Fg}{σ:St}{H:Hp}{Q:VK}{ta tb tc:TE}{D:Ends}
theorem zoL {i:Nat}{v:V}(h:σ[i]?=some (some v))(q:Q v H):tVar i σ H Q:=⟨v,h,q⟩
theorem i_c {v:V}(q:Q v H):tC v σ H Q:=q
theorem i_op {r:R2}(h:ta σ H λx H1=>tb σ H1 λy H2=>r x y H2 Q):tOp r ta tb σ H Q:=h
theorem i_un {r:V->Hp->VK->Prop}(h:ta σ H λx H1=>r x H1 Q):tUn r ta σ H Q:=h
theorem i_rI0 {g:Int->Int->V}{i j:Int}(q:Q (g i j) H):rI0 g (.int i) (.int j) H Q:=⟨i,j,rfl,rfl,q⟩
theorem i_mod {i j:Int}(c:0<j)(q:Q (.int (i % j)) H):rI (λ_ j=>0<j) (λi j=>.int (i % j)) (.int i) (.int j) H Q:=⟨i,j,rfl,rfl,c,q⟩
theorem zoM {i j:Int}(c:0<j)(c2:j<1073741824)(q:Q (.int (i / j)) H):rI CDiv (λi j=>.int (i / j)) (.int i) (.int j) H Q:=⟨i,j,rfl,rfl,⟨c,c2⟩,q⟩
theorem i_rU {g:Int->V}{i:Int}(q:Q (g i) H):rU g (.int i) H Q:=⟨i,rfl,q⟩
theorem znk {i j:Int}(q:Q (.int (i+j)) H):zjI K (.int i) (.int j) H Q:=.inl ⟨i,j,rfl,rfl,q⟩
theorem zbe {a b:Addr}{xs ys:List V}(h1:H a=some (.lst xs))(h2:H b=some (.lst ys))(z:xs.length+ys.length<=sizeLine)(q:∀ p,H p=none->Q (.ref p) (upd H p (.lst (xs++ys)))):zjI K (.ref a) (.ref b) H Q:=.inr (.inl ⟨a,b,xs,ys,rfl,rfl,h1,h2,z,q⟩)
theorem zjd {i j:Int}(c:CMul i j)(q:Q (.int (i * j)) H):zmF (.int i) (.int j) H Q:=.inl ⟨i,j,rfl,rfl,c,q⟩
theorem i_eqI {i j:Int}(q:Q (.bl (decide (i=j))) H):rEqA K (.int i) (.int j) H Q:=.inl ⟨rfl,by
 rw[show decide (V.int i=V.int j)=decide (i=j) by rw[decide_eq_decide];exact⟨λz=>by cases z;rfl,λz=>by rw[z]⟩];exact q⟩
theorem i_neI {i j:Int}(q:Q (.bl (!decide (i=j))) H):rNeA K (.int i) (.int j) H Q:=.inl ⟨rfl,by
 rw[show decide (V.int i=V.int j)=decide (i=j) by rw[decide_eq_decide];exact⟨λz=>by cases z;rfl,λz=>by rw[z]⟩];exact q⟩
theorem i_eqB {i j:Bool}(q:Q (.bl (decide (i=j))) H):rEqA K (.bl i) (.bl j) H Q:=.inl ⟨rfl,by
 rw[show decide (V.bl i=V.bl j)=decide (i=j) by rw[decide_eq_decide];exact⟨λz=>by cases z;rfl,λz=>by rw[z]⟩];exact q⟩
theorem i_eqS {i j:Str}(q:Q (.bl (decide (i=j))) H):rEqA K (.str i) (.str j) H Q:=.inl ⟨rfl,by
 rw[show decide (V.str i=V.str j)=decide (i=j) by rw[decide_eq_decide];exact⟨λz=>by cases z;rfl,λz=>by rw[z]⟩];exact q⟩
theorem znl {a b:Addr}{d e:L2.D}(h1:Rep K H d (.ref a))(h2:Rep K H e (.ref b))(n:dep d<=60)(q:Q (.bl (pyEq d e)) H):rEqA K (.ref a) (.ref b) H Q:=.inr ⟨a,b,d,e,rfl,rfl,h1,h2,n,q⟩
theorem zoN {a b:Addr}{d e:L2.D}(h1:Rep K H d (.ref a))(h2:Rep K H e (.ref b))(n:dep d<=60)(q:Q (.bl (!pyEq d e)) H):rNeA K (.ref a) (.ref b) H Q:=.inr ⟨a,b,d,e,rfl,rfl,h1,h2,n,q⟩
theorem zoO {Q:Bool->Hp->Prop}(h:ta σ H λx H'=>∃ k,x=.bl k/\Q k H'):zoe ta σ H Q:=h
theorem i_B {Q:Bool->Hp->Prop}(h:ta σ H λx H'=>∃ k,x=.bl k/\Q k H'):tB ta σ H Q:=h
theorem i_bl {P:Bool->Prop}{b:Bool}(h:P b):∃ k,V.bl b=.bl k/\P k:=⟨b,rfl,h⟩
theorem i_nil {Q:List V->Hp->Prop}(h:Q [] H):tNil σ H Q:=h
theorem zoP {Q:List V->Hp->Prop}{tr:TA}(h:ta σ H λx H1=>tr σ H1 λxs H2=>Q (x::xs) H2):zek ta tr σ H Q:=h
theorem zoQ {sp:Sp}{t:TA}(h:t σ H λvs H1=>sp vs H1 Q E0):zhz sp [] E0 t σ H Q:=by
 have e:(λ(vs:List V) (H1:Hp)=>sp (vs++[]) H1 Q E0)=λvs H1=>sp vs H1 Q E0:=by funext vs H1;rw[List.append_nil]
 show t σ H λvs H1=>sp (vs++[]) H1 Q E0
 rw[e];exact h
theorem i_CB {r:List V->Hp->VK->Prop}{t:TA}(h:t σ H λvs H1=>r vs H1 Q):tCB r t σ H Q:=h
theorem i_lst {t:TA}(h:t σ H λxs H1=>xs.length<=sizeLine/\∀ p,H1 p=none->Q (.ref p) (upd H1 p (.lst xs))):tLst t σ H Q:=h
theorem i_tup {t:TA}(h:t σ H λxs H1=>xs.length<=sizeLine/\∀ p,H1 p=none->Q (.ref p) (upd H1 p (.tup xs))):tTup t σ H Q:=h
theorem i_asg {g:TG}(h:ta σ H λx H1=>g x σ H1 D.nx):tAsg ta g D σ H:=h
theorem znm {i:Nat}{v:V}{Q:St->Hp->Prop}(h:Q (σ.set i (some v)) H):zlp i v σ H Q:=h
theorem i_ret (h:ta σ H D.rt):tRet ta D σ H:=h
theorem zoR (h:ta σ H λ_ H1=>D.nx σ H1):zmV ta D σ H:=h
theorem zoS (h:D.nx σ H):zmU D σ H:=h
theorem i_if {c:TT}(h:c σ H λb H1=>if b=true then ta σ H1 Q else tb σ H1 Q):tIf c ta tb σ H Q:=h
theorem zdR {a:Addr}{xs:List V}(h:SqL K H a xs\/SqT K H a xs)(q:Q (.int xs.length) H):rLen K [.ref a] H Q:=⟨a,xs,rfl,h,q⟩
theorem ix0 {α:Type}{x:α}{xs:List α} : ixN (x::xs).length 0=some 0:=by
 unfold ixN
 rw[if_pos (Int.le_refl 0),if_pos (by rw[List.length_cons];omega)]
 rfl
theorem zbs {α:Type}{x:α}{xs:List α} : atI (x::xs) (0:Int)=some x:=zaJ (j:=0) rfl
theorem zgf {a:Addr}{xs:List V}{i:Int}{v:V}(h:SqL K H a xs)(e:atI xs i=some v)(q:Q v H):rIx K (.ref a) (.int i) H Q:=.inl ⟨a,xs,i,v,rfl,rfl,h,e,q⟩
theorem zaO {a:Addr}{xs:List V}{i:Int}{v:V}(h:SqT K H a xs)(e:atI xs i=some v)(q:Q v H):rIx K (.ref a) (.int i) H Q:=.inr (.inl ⟨a,xs,i,v,rfl,rfl,h,e,q⟩)
end
section
variable {K:Fg}{σ:St}{H:Hp}{Q:VK}{ta tb tc:TE}{D:Ends}
theorem zeQ {p:Addr}{bs:List Bool}(h:SqL K H p (bs.map V.bl))(q:Q (.bl (bs.all id)) H):rAll K [.ref p] H Q:=⟨p,bs,rfl,h,q⟩
theorem zoT {p:Addr}{bs:List Bool}(h:SqL K H p (bs.map V.bl))(q:Q (.bl (bs.any id)) H):rAny K [.ref p] H Q:=⟨p,bs,rfl,h,q⟩
theorem i_min {i j:Int}(q:Q (.int (if j<i then j else i)) H):rMin [.int i,.int j] H Q:=⟨i,j,rfl,q⟩
theorem zoU (h:ta σ H λx H1=>∃ c,x=.bl c/\if c=true then tb σ H1 Q else Q (.bl false) H1):zn1 ta tb σ H Q:=h
theorem i_orV (h:ta σ H λx H1=>∃ c,x=.bl c/\if c=true then Q (.bl true) H1 else tb σ H1 Q):tOrV ta tb σ H Q:=h
theorem zoV (h:ta σ H λx H1=>∃ c,x=.bl c/\Q (.bl (!c)) H1):zmT ta σ H Q:=h
theorem i_and {t u:TT}{Q:Bool->Hp->Prop}(h:t σ H λc H1=>if c=true then u σ H1 Q else Q false H1):tAnd t u σ H Q:=h
theorem i_or {t u:TT}{Q:Bool->Hp->Prop}(h:t σ H λc H1=>if c=true then Q true H1 else u σ H1 Q):tOr t u σ H Q:=h
theorem i_not {t:TT}{Q:Bool->Hp->Prop}(h:t σ H λc H1=>Q (!c) H1):tNot t σ H Q:=h
theorem zjJ {x:V}{t:Value}{c:String}{b:Bool}(ty:TyOf K H x t)(e:PySem.W.kitOne K t (.type c)=some b)(q:Q (.bl b) H) :
  rIsi K [x,.ty c] H Q:=⟨x,c,t,b,rfl,ty,e,q⟩
theorem i_for {wi:TI}{g:TG}{tb:TS}(h:wi σ H λJ H1=>zkK J g tb D σ H1):tFor wi g tb D σ H:=h
theorem zoW {ms:List Bool}{wi:TI}{g:TG}{tt:TT}{te:TE}(h:wi σ H λJ H1=>zjc J g tt te (zcy ms σ) H1 Q):zjG ms wi g tt te σ H Q:=h
theorem znn {tl:TE}{R:It->Hp->Prop}(h:tl σ H λx H1=>∃ a,x=.ref a/\(∃ xs,SqL K H1 a xs)/\R (Itl K a) H1):zke K tl σ H R:=h
theorem zoX {tl:TE}{R:It->Hp->Prop}(h:tl σ H λx H1=>∃ a,x=.ref a/\(∃ xs,SqT K H1 a xs)/\R (Itt K a) H1):iTup K tl σ H R:=h
theorem i_zip {t:TA}{R:It->Hp->Prop}(h:t σ H λvs H1=>∃ a b,vs=[.ref a,.ref b]/\(∃ xs,SqL K H1 a xs)/\(∃ ys,SqL K H1 b ys)/\R (Itz K a b) H1):iZip K t σ H R:=h
theorem zoY {t:TA}{R:It->Hp->Prop}(h:t σ H λvs H1=>∃ a xs,vs=[.ref a]/\H1 a=some (.lst xs)/\R (Itn K a) H1):zng K t σ H R:=h
theorem zoZ {t:TA}{R:It->Hp->Prop}(h:t σ H λvs H1=>∃ j:Int,vs=[.int j]/\-(2 ^ 62)<=j/\j<2 ^ 62/\R (Itr 0 j.toNat) H1):zoa t σ H R:=h
theorem zd5 {P:Int->Prop}{j:Int}(h1:-(2 ^ 62)<=j)(h2:j<2 ^ 62)(h:P j):∃ k:Int,[V.int j]=[.int k]/\-(2 ^ 62)<=k/\k<2 ^ 62/\P k:=⟨j,rfl,h1,h2,h⟩
theorem i_sl {r:V->Option Int->Option Int->Hp->VK->Prop}{tl th:TO}(h:ta σ H λx H1=>tl σ H1 λl H2=>th σ H2 λu H3=>r x l u H3 Q):tSl r ta tl th σ H Q:=h
theorem zlN {Q:Option Int->Hp->Prop}(h:Q none H):zkt σ H Q:=h
theorem zo0 {Q:Option Int->Hp->Prop}(h:ta σ H λx H1=>∃ i,x=.int i/\Q (some i) H1):zok ta σ H Q:=h
theorem zno {P:Int->Prop}{i:Int}(h:P i):∃ j,V.int i=.int j/\P j:=⟨i,rfl,h⟩
theorem zo1 {to ti:TE}{t:TSet}{v:V}{Q:St->Hp->Prop}(h:to σ H λo H1=>ti σ H1 λi H2=>t o i v H2 λH3=>Q σ H3):gSub to ti t v σ H Q:=h
theorem zo2 {a:Addr}{xs:List V}{k:Int}{j:Nat}{v:V}{Q:Hp->Prop}(h:H a=some (.lst xs))(e:ixN xs.length k=some j)(q:Q (upd H a (.lst (xs.set j v)))):zoq (.ref a) (.int k) v H Q:=⟨a,xs,k,j,rfl,rfl,h,e,q⟩
theorem zg2 {a:Addr}{ys:List V}(h:SqL K H a ys\/SqT K H a ys)(q:∀ l,H l=none->Q (.ref l) (upd H l (.lst ys))) :
  ziC K [.ref a] H Q:=⟨a,ys,rfl,h,q⟩
end
section
variable {X:Cx}{k:Nat}{pos:Pos}
theorem zaV (K:Fg)(hK:X.K=K:=by rfl):OpR X (binaryOp .Add) (zjI K):=by subst hK;exact zni
theorem k_eq (K:Fg)(hr:Room k X.A)(hK:X.K=K:=by rfl):OpR X (compareOp .Eq) (rEqA K):=by subst hK;exact zoI hr
theorem k_ne (K:Fg)(hr:Room k X.A)(hK:X.K=K:=by rfl):OpR X (compareOp .NotEq) (rNeA K):=by subst hK;exact zoJ hr
theorem k_in (K:Fg)(hK:X.K=K:=by rfl):OpR X (compareOp .In) (rIn K false):=by subst hK;exact zkv
theorem zkN (K:Fg)(hK:X.K=K:=by rfl):OpR X (compareOp .NotIn) (rIn K true):=by subst hK;exact zhD
theorem k_ix (K:Fg)(hK:X.K=K:=by rfl):IxR X (rIx K):=by subst hK;exact zop
def rSl (K:Fg):V->Option Int->Option Int->Hp->VK->Prop:=λx lo hi H Q=>rSlL K x lo hi H Q\/rSlT K x lo hi H Q
theorem k_sl (K:Fg)(hK:X.K=K:=by rfl):SlR X (rSl K):=by subst hK;exact zm8.or zol
theorem zdm (K:Fg)(hK:X.K=K:=by rfl):zb2 X (.builtin "len") (rLen K):=by subst hK;exact c_len
theorem zkO (K:Fg)(hK:X.K=K:=by rfl):zb2 X (.type "list") (ziC K):=by subst hK;exact zoK
theorem znp (K:Fg)(hK:X.K=K:=by rfl):zb2 X (.type "tuple") (zkM K):=by subst hK;exact znj
theorem znq (K:Fg)(hK:X.K=K:=by rfl):zb2 X (.builtin "isinstance") (rIsi K):=by subst hK;exact c_isi
theorem zfa (K:Fg)(hc:X.calm=true)(hK:X.K=K:=by rfl):zb2 X (.builtin "all") (rAll K):=by subst hK;exact c_all hc
theorem znr (K:Fg)(hc:X.calm=true)(hK:X.K=K:=by rfl):zb2 X (.builtin "any") (rAny K):=by subst hK;exact c_any hc
theorem zaK (K:Fg){tg l:Expr}{tl:TE}(hl:PE X l tl)(hK:X.K=K:=by rfl):PI X tg l (zke K tl):=by subst hK;exact zmW hl
theorem zhP (K:Fg){tg l:Expr}{tl:TE}(hl:PE X l tl)(hK:X.K=K:=by rfl):PI X tg l (iTup K tl):=by subst hK;exact zn9 hl
theorem zmG (K:Fg){elts:List Expr}{kx:Nat}{tpos:Pos}{a b:Expr}{ta:TA}{p:Pos}(hg:Gl X "zip")(hm:X.mg "zip"=none)(ha:PA X [a,b] ta)(hK:X.K=K:=by rfl)(hs:starEach [a,b] X.env=[(false,eval a X.env),(false,eval b X.env)]:=by rfl)(hs2:starEach [b] X.env=[(false,eval b X.env)]:=by rfl) :
  PI X (.Tuple elts kx tpos) (.Call (.Name "zip" p) [a,b] [] pos) (iZip K ta):=by subst hK;exact zoE hg hm ha hs hs2
theorem zns (K:Fg){elts:List Expr}{kx:Nat}{tpos:Pos}{a:Expr}{ta:TA}{p:Pos}(hg:Gl X "enumerate")(hm:X.mg "enumerate"=none)(ha:PA X [a] ta)(hK:X.K=K:=by rfl)(hs:starEach [a] X.env=[(false,eval a X.env)]:=by rfl) :
  PI X (.Tuple elts kx tpos) (.Call (.Name "enumerate" p) [a] [] pos) (zng K ta):=by subst hK;exact znh hg hm ha hs
theorem zkP (K:Fg){es:List Expr}{kk:Nat}{t:TGs}{n:Nat}(hc:X.calm=true)(h:PGs X es t)(hK:X.K=K:=by rfl)(hn:(assignEach es X.env).length=n:=by rfl)(hst:(assignEach es X.env).findIdx? (·.1)=none:=by rfl) :
  PG X (.Tuple es kk pos) (gTup K n t):=by subst hK;exact zn5 hc h hn hst
theorem zbk (K:Fg){e:Expr}{f:Str}{ta:TE}(he:PE X e ta)(hb:attributeBase e f X.env (eval e X.env)=eval e X.env)(hK:X.K=K:=by rfl):PE X (.Attribute e f pos) (tFld K ta f):=by subst hK;exact zoh he hb
end
theorem zkQ {n:Nat}{f:Nat->D}{i:Nat}{d:D}(h:((List.range n).map f)[i]?=some d):d=f i:=by
 rw[zgm] at h
 obtain⟨j,hj,rfl⟩:=zme.mp h
 have hl:=(zge.mp hj).1
 rw[List.length_range] at hl
 have hi:i<n:=hl
 rw[List.getElem?_range hi] at hj
 cases hj;rfl
theorem zaY {X:Cx}{x:Str}{i:Int}{pos:Pos}(hg:Gl X x)(hm:∃ t,X.mg x=some (.int i t))(hd:(x == ("__debug__" : Str))=false:=by decide):PE X (.Name x pos) (tC (.int i)):=by
 obtain⟨t,hm⟩:=hm
 exact zj9 hg hm ⟨t,rfl⟩ hd
theorem iteNT {A B:Prop}(h:B):if (!true)=true then A else B:=iteF h
theorem iteNF {A B:Prop}(h:A):if (!false)=true then A else B:=iteT h
theorem zaj {n:Nat}(h:n<=1000):n<=sizeLine:=Nat.le_of_lt (zbr h)
theorem sl {n:Nat}(h:Nat.ble n 1000=true):n<=sizeLine:=zaj (Nat.le_of_ble_eq_true h)
theorem i_bm {K:Fg}{σ:St}{H:Hp}{Q:VK}{T:String}{r:V->List V->Hp->VK->Prop}{to:TE}{t:TA}(h:to σ H λx H1=>tyV K T x H1/\t σ H1 λxs H2=>r x xs H2 Q):tBM K T r to t σ H Q:=h
theorem tyL {K:Fg}{H:Hp}{a:Addr}{xs:List V}(h:H a=some (.lst xs)):tyV K "list" (.ref a) H:=.inl ⟨rfl,_,SqL.of h⟩
theorem zlO {H:Hp}{Q:VK}{a:Addr}{xs:List V}{y:V}(h:H a=some (.lst xs))(z:xs.length<sizeLine)(q:Q .non (upd H a (.lst (xs++[y])))):zkw (.ref a) [y] H Q:=⟨a,xs,y,rfl,rfl,h,z,q⟩
theorem zai.bls_eq {H:Hp} : ∀ {bs:List Bool}{vs:List V}{fp:List Addr},zai H (bs.map D.bl) vs fp->vs=bs.map V.bl/\fp=[]
 | [],_,_,h=>by unfold List.map zai at h;exact h
 | n::ns,_,_,h=>by
  rw[zmc] at h
  unfold zai at h
  obtain⟨v,r,f,g,rfl,rfl,h1,h2⟩:=h
  unfold RepF at h1
  obtain⟨rfl,rfl⟩:=h1
  obtain⟨rfl,rfl⟩:=zai.bls_eq h2
  exact⟨rfl,rfl⟩
theorem New.bls {H H':Hp}{bs:List Bool}{v:V}(h:New H H' (.lst (bs.map D.bl)) v):∃ a,v=.ref a/\H a=none/\H' a=some (.lst (bs.map V.bl)):=by
 obtain⟨fp,h1,h2,h3⟩:=h
 unfold RepF at h1
 obtain⟨a,xs,r,e1,e2,e3,e4⟩:=h1
 obtain⟨rfl,rfl⟩:=zai.bls_eq e4
 subst e2
 exact⟨a,e1,h3 a List.mem_cons_self,e3⟩
theorem New.lso {H H':Hp}{ds:List D}{v:V}(h:New H H' (.lst ds) v):∃ a vs fp,v=.ref a/\H a=none/\H' a=some (.lst vs)/\zai H' ds vs fp/\fp.Nodup/\a∉fp/\∀ b∈fp,H b=none:=by
 obtain⟨fp,h1,h2,h3⟩:=h
 unfold RepF at h1
 obtain⟨a,xs,r,e1,e2,e3,e4⟩:=h1
 subst e2
 exact⟨a,xs,r,e1,h3 a List.mem_cons_self,e3,e4,(List.nodup_cons.mp h2).2,(List.nodup_cons.mp h2).1,λb m=>h3 b (List.mem_cons_of_mem _ m)⟩
theorem zg3 {lo:Int}{n:Nat}{g:TG}{tb:TS}{D:Ends}{σ:St}{H:Hp}(Pv:Nat->St->Hp->Prop)(h0:Pv 0 σ H)
  (hs:∀ i σ H,i<n->Pv i σ H->g (.int (lo+i)) σ H λσ2 H2=>tb {D with nx:=Pv (i+1),ct:=Pv (i+1),bk:=D.nx} σ2 H2) (hd:∀ σ H,Pv n σ H->D.nx σ H):zkK (Itr lo n) g tb D σ H:=zkg Pv h0 hs hd
theorem zfH {K:Fg}{a:Addr}{xs:List V}{g:TG}{tb:TS}{D:Ends}{σ:St}{H:Hp}(Pv:Nat->St->Hp->Prop)(h0:Pv 0 σ H)(hl:∀ i σ H,i<=xs.length->Pv i σ H->SqL K H a xs)
  (hs:∀ i x σ H,xs[i]?=some x->Pv i σ H->g x σ H λσ2 H2=>tb {D with nx:=Pv (i+1),ct:=Pv (i+1),bk:=D.nx} σ2 H2) (hd:∀ σ H,Pv xs.length σ H->D.nx σ H):zkK (Itl K a) g tb D σ H:=zlt Pv h0 hl hs hd
theorem zkR {n:Nat} : ∀ {ds:List D},(∀ d∈ds,dep d<=n)->deps ds<=n
 | [],_=>by unfold deps;exact Nat.zero_le _
 | d::ds,h=>by
  unfold deps
  exact Nat.max_le.mpr ⟨h d List.mem_cons_self,zkR λe he=>h e (List.mem_cons_of_mem _ he)⟩
theorem zhQ (ls:List (List Int)):dep (.lst (ls.map nums))<=2:=by
 unfold dep
 refine Nat.succ_le_succ (zkR λd hd=>?_)
 obtain⟨l,_,rfl⟩:=zmm.mp hd
 exact zeq l
theorem boot_len:bootBuiltins "len"=some (.builtin "len"):=PySem.boot_len
theorem zc1:bootBuiltins "list"=some (.type "list"):=by decide +kernel
theorem zjK:bootBuiltins "tuple"=some (.type "tuple"):=by decide +kernel
theorem zkS:bootBuiltins "bool"=some (.type "bool"):=by decide +kernel
theorem zcz:bootBuiltins "isinstance"=some (.builtin "isinstance"):=by decide +kernel
theorem zby:bootBuiltins "all"=some (.builtin "all"):=by decide +kernel
theorem zg4:bootBuiltins "any"=some (.builtin "any"):=by decide +kernel
theorem zlP:bootBuiltins "min"=some (.builtin "min"):=by decide +kernel
theorem zg5 {K:Fg}{t:Value} : PySem.W.kitOne K t t=some true:=by unfold PySem.W.kitOne;simp
end L2

namespace L2
open PySem PySem.Spec PyProof.Rows
structure Mkr (P:Program)(w:World)(K:Fg)(mg:Str->Option Value)(base:Heap)(x:Str)(C:Addr)(ps:List Str)(k:Nat)(sp:Sp):Prop where
 ex:∃ f fd,Mk K C f/\FnOk P w K mg base CX0 k f fd ps sp/\zdP K fd ps []/\mg x=some (.ref C)
section
variable {X:Cx}{k j:Nat}{C:Addr}{ps:List Str}{sp:Sp}{x:Str}{p pos:Pos}{e:Expr}{es:List Expr}{t:TA}
theorem zo3 (G:Mkr X.prog X.w X.K X.mg X.base x C ps j sp)(hr:Room k X.A)(hg:Gl X x)(ha:PA X (e::es) t)(hj:j+1<=k:=by decide)(hdb:(x == ("__debug__" : Str))=false:=by decide)
  (he:starEach (e::es) X.env=(false,eval e X.env)::starEach es X.env:=by rfl) (hpl:(backTo pos (starEach es X.env)).any (·.1)=false:=by rfl):PE X (.Call (.Name x p) (e::es) [] pos) (zkp C sp [] E0 t):=by
 obtain⟨f,fd,M,F,hb,hm⟩:=G.ex
 exact zm4 M F (hr.mono hj) hg hm hb .nil zdQ ha hdb he hpl
theorem zo4 {σ:St}{H:Hp}{Q:VK}(h:t σ H λvs H1=>∀ y dx,H1 y=none->H1 dx=none->dx≠y->sp (.ref y::vs) (upd (upd H1 dx (.own y)) y (.ins C dx [])) (λv H2=>v=.non/\Q (.ref y) H2) E0):zkp C sp [] E0 t σ H Q:=by
 have e:(λ(vs:List V) (H1:Hp)=>∀ y dx,H1 y=none->H1 dx=none->dx≠y->sp (.ref y::(vs++[])) (upd (upd H1 dx (.own y)) y (.ins C dx [])) (λv H2=>v=.non/\Q (.ref y) H2) E0)
   = λvs H1=>∀ y dx,H1 y=none->H1 dx=none->dx≠y->sp (.ref y::vs) (upd (upd H1 dx (.own y)) y (.ins C dx [])) (λv H2=>v=.non/\Q (.ref y) H2) E0:=by funext vs H1;rw[List.append_nil]
 show t σ H λvs H1=>∀ y dx,H1 y=none->H1 dx=none->dx≠y->sp (.ref y::(vs++[])) (upd (upd H1 dx (.own y)) y (.ins C dx [])) (λv H2=>v=.non/\Q (.ref y) H2) E0
 rw[e];exact h
end
section
variable {K:Fg}{σ:St}{H:Hp}{Q:VK}{ta tv:TE}{D:Ends}{f:Str}
theorem i_fld (h:ta σ H λx H1=>FldI K f x H1 Q):tFld K ta f σ H Q:=h
theorem zo5 (h:tv σ H λy H1=>ta σ H1 λx H2=>FldS K f y x H2 (D.nx σ)):sFld K ta tv f D σ H:=h
end
theorem znt {r r':R2}{σ:St}{H:Hp}{Q:VK}{ta tb tc:TE}(h:ta σ H λx H1=>tb σ H1 λy H2=>r x y H2 λz H3=>∃ k,z=.bl k/\if k=true then tc σ H3 λw H4=>r' y w H4 Q else Q (.bl false) H3):zmr r r' ta tb tc σ H Q:=h
theorem zai.nil {H:Hp} : zai H [] [] []:=by unfold zai;exact⟨rfl,rfl⟩
theorem zai.cint {H:Hp}{i:Int}{ds:List D}{xs:List V}{fp:List Addr}(h:zai H ds xs fp):zai H (.int i::ds) (.int i::xs) fp:=by
 unfold zai;exact⟨_,_,[],fp,rfl,rfl,by unfold RepF;exact⟨rfl,rfl⟩,h⟩
theorem zai.cany {H:Hp}{d:D}{v:V}{f:List Addr}{ds:List D}{xs:List V}{fp:List Addr}(q:RepF H d v f)(h:zai H ds xs fp):zai H (d::ds) (v::xs) (f++fp):=by
 unfold zai;exact⟨_,_,f,fp,rfl,rfl,q,h⟩
theorem RepF.line {H:Hp}{a:Addr}{ns:List Int}(h:H a=some (.lst (ns.map V.int))):RepF H (nums ns) (.ref a) [a]:=by
 unfold RepF;exact⟨a,_,[],rfl,rfl,h,zai.ints⟩
theorem RepF.pair {H:Hp}{t:Addr}{i j:Int}(h:H t=some (.tup [.int i,.int j])):RepF H (.tup [.int i,.int j]) (.ref t) []:=by
 unfold RepF;exact⟨t,_,rfl,h,zai.nil.cint.cint⟩
theorem zai.lines {H:Hp} : ∀ {ls:List (List Int)}{vs:List V}{fp:List Addr},zai H (ls.map nums) vs fp->vs=fp.map V.ref/\fp.length=ls.length/\∀ (i:Nat) (a:Addr),fp[i]?=some a->∃ l,ls[i]?=some l/\H a=some (.lst (l.map V.int))
 | [],_,_,h=>by
  rw[List.map_nil] at h;unfold zai at h
  obtain⟨rfl,rfl⟩:=h
  exact⟨rfl,rfl,λi a e=>by simp at e⟩
 | l::ls,_,_,h=>by
  rw[zmc] at h;unfold zai at h
  obtain⟨v,r,f,g,rfl,rfl,h1,h2⟩:=h
  obtain⟨rfl,e2,e3⟩:=zai.lines h2
  unfold RepF at h1
  obtain⟨a,xs,r,rfl,rfl,e4,e5⟩:=h1
  obtain⟨rfl,rfl⟩:=zai.ints_eq e5
  refine⟨rfl,by simp[e2],λi b e=>?_⟩
  cases i with
  | zero=>simp at e;subst e;exact⟨l,rfl,e4⟩
  | succ i=>exact e3 i b (by simpa using e)
theorem zhR {K:Fg} : PySem.W.kitOne K (.type "int") (.type "list")=some false:=by rfl
theorem zhS {K:Fg} : PySem.W.kitOne K (.type "str") (.type "list")=some false:=by rfl
theorem zgg {K:Fg} : PySem.W.kitOne K (.type "tuple") (.type "list")=some false:=by rfl
theorem zlQ {K:Fg}{H:Hp}{Q:VK}{a:Addr}{ys:List V}(h:SqL K H a ys)(q:∀ l,H l=none->Q (.ref l) (upd H l (.tup ys))):zkM K [.ref a] H Q:=⟨a,ys,rfl,.inl ⟨h,q⟩⟩
theorem i_in {K:Fg}{H:Hp}{Q:VK}{neg:Bool}{x:V}{a:Addr}{xs:List V}(h:SqL K H a xs\/SqT K H a xs)(f1:zds x=true)(f2:xs.all zds=true)(q:Q (.bl (if neg then !inV x xs else inV x xs)) H):rIn K neg x (.ref a) H Q:=⟨a,xs,rfl,h,f1,f2,q⟩
theorem zcW {X:Cx}{x:Str}{a:Addr}{pos:Pos}(hg:Gl X x)(hm:X.mg x=some (.ref a))(hd:(x == ("__debug__" : Str))=false:=by decide):PE X (.Name x pos) (tC (.ref a)):=zj9 hg hm rfl hd
def News (H H':Hp)(ds:List D)(vs:List V):Prop:=∃ fp,zai H' ds vs fp/\fp.Nodup/\∀ a∈fp,H a=none
theorem News.nil {H H':Hp} : News H H' [] []:=⟨[],zai.nil,List.nodup_nil,λ_ m=>by cases m⟩
theorem New.news {H H':Hp}{ds:List D}{v:V}(h:New H H' (.lst ds) v):∃ a vs,v=.ref a/\H a=none/\H' a=some (.lst vs)/\News H H' ds vs:=by
 obtain⟨a,vs,fp,e1,e2,e3,e4,e5,_,e6⟩:=New.lso h
 exact⟨a,vs,e1,e2,e3,fp,e4,e5,e6⟩
end L2

namespace L2
open PySem PySem.Spec PyProof.Rows
def seqO:HO->Bool
 | .lst _=>true
 | .tup _=>true
 | .frz _ _=>true
 | _=>false
def Sq (H H':Hp):Prop:=∀ b o,H b=some o->seqO o=true->H' b=some o
theorem Same.sq {H H':Hp}(e:Same H H'):Sq H H':=λb o h _=>e b o h
theorem Sq.trans {H H1 H2:Hp}(a:Sq H H1)(b:Sq H1 H2):Sq H H2:=λc o h q=>b c o (a c o h q) q
theorem zfI {H:Hp}{p:Addr}{o u:HO}(h:H p=some u)(n:seqO u=false):Sq H (upd H p o):=λb w e q=>by
 rw[zam (λz=>by rw[z,h] at e;cases e;rw[n] at q;cases q)];exact e
theorem Sq.lst {K:Fg}{H H':Hp}{a:Addr}{xs:List V}(e:Sq H H')(h:SqL K H a xs):SqL K H' a xs:=by
 rcases h with (h | ⟨o,h⟩) | h
 ·exact .inl (.inl (e _ _ h rfl))
 ·exact .inl (.inr ⟨o,e _ _ h rfl⟩)
 ·exact .inr h
theorem Sq.tup {K:Fg}{H H':Hp}{a:Addr}{xs:List V}(e:Sq H H')(h:SqT K H a xs):SqT K H' a xs:=by
 rcases h with (h | ⟨o,h⟩) | h
 ·exact .inl (.inl (e _ _ h rfl))
 ·exact .inl (.inr ⟨o,e _ _ h rfl⟩)
 ·exact .inr h
mutual
theorem Rep.sq {K:Fg}{H H':Hp}(e:Sq H H'):∀ (d:D) {v:V},Rep K H d v->Rep K H' d v
 | .non,_,h=>by unfold Rep at *;exact h
 | .bl _,_,h=>by unfold Rep at *;exact h
 | .int _,_,h=>by unfold Rep at *;exact h
 | .str _,_,h=>by unfold Rep at *;exact h
 | .lst ds,_,h=>by
  unfold Rep at *
  obtain⟨a,xs,h1,h2,h3⟩:=h
  exact⟨a,xs,h1,e.lst h2,Reps.sq e ds h3⟩
 | .tup ds,_,h=>by
  unfold Rep at *
  obtain⟨a,xs,h1,h2,h3⟩:=h
  exact⟨a,xs,h1,e.tup h2,Reps.sq e ds h3⟩
theorem Reps.sq {K:Fg}{H H':Hp}(e:Sq H H'):∀ (ds:List D) {vs:List V},Reps K H ds vs->Reps K H' ds vs
 | [],_,h=>by unfold Reps at *;exact h
 | d::ds,_,h=>by
  unfold Reps at *
  obtain⟨v,r,h1,h2,h3⟩:=h
  exact⟨v,r,h1,Rep.sq e d h2,Reps.sq e ds h3⟩
end
mutual
theorem RepF.sq {H H':Hp}(e:Sq H H'):∀ (d:D) {v:V}{fp:List Addr},RepF H d v fp->RepF H' d v fp
 | .non,_,_,h=>by unfold RepF at *;exact h
 | .bl _,_,_,h=>by unfold RepF at *;exact h
 | .int _,_,_,h=>by unfold RepF at *;exact h
 | .str _,_,_,h=>by unfold RepF at *;exact h
 | .lst ds,_,_,h=>by
  unfold RepF at *
  obtain⟨a,xs,r,h1,h0,h2,h3⟩:=h
  exact⟨a,xs,r,h1,h0,e _ _ h2 rfl,zai.sq e ds h3⟩
 | .tup ds,_,_,h=>by
  unfold RepF at *
  obtain⟨a,xs,h1,h2,h3⟩:=h
  exact⟨a,xs,h1,e _ _ h2 rfl,zai.sq e ds h3⟩
theorem zai.sq {H H':Hp}(e:Sq H H'):∀ (ds:List D) {vs:List V}{fp:List Addr},zai H ds vs fp->zai H' ds vs fp
 | [],_,_,h=>by unfold zai at *;exact h
 | d::ds,_,_,h=>by
  unfold zai at *
  obtain⟨v,r,f,g,h1,h0,h2,h3⟩:=h
  exact⟨v,r,f,g,h1,h0,RepF.sq e d h2,zai.sq e ds h3⟩
end
def Free (H H':Hp):Prop:=∀ a,H' a=none->H a=none
theorem Same.fr {H H':Hp}(e:Same H H'):Free H H':=λ_ h=>e.free h
theorem Free.trans {H H1 H2:Hp}(a:Free H H1)(b:Free H1 H2):Free H H2:=λc h=>a c (b c h)
theorem zfi {H:Hp}{p:Addr}{o:HO} : Free H (upd H p o):=λa h=>by
 by_cases e:a=p
 ·subst e;rw[zac] at h;cases h
 ·rw[zam e] at h;exact h
theorem News.sq {H H1 H2:Hp}{ds:List D}{vs:List V}(e:Sq H1 H2)(h:News H H1 ds vs):News H H2 ds vs:=by
 obtain⟨fp,h1,h2,h3⟩:=h
 exact⟨fp,zai.sq e ds h1,h2,h3⟩
theorem New.sq {H H1 H2:Hp}{d:D}{v:V}(e:Sq H1 H2)(h:New H H1 d v):New H H2 d v:=by
 obtain⟨fp,h1,h2,h3⟩:=h
 exact⟨fp,RepF.sq e d h1,h2,h3⟩
theorem News.snoc' {H H1 H2:Hp}{ds:List D}{vs:List V}{d:D}{v:V}(h:News H H1 ds vs)(e:Free H H1)(e2:Same H1 H2)(n:New H1 H2 d v):News H H2 (ds++[d]) (vs++[v]):=by
 obtain⟨fp,h1,h2,h3⟩:=h
 obtain⟨fq,g1,g2,g3⟩:=n
 refine⟨fp++fq,(zai.sq e2.sq ds h1).snoc g1,List.nodup_append.mpr ⟨h2,g2,λa ha b hb z=>?_⟩,λa m=>?_⟩
 ·subst z
  obtain⟨o,ho⟩:=zai.has ds h1 a ha
  have:=g3 a hb
  rw[ho] at this;cases this
 ·rcases zma.mp m with m | m
  ·exact h3 a m
  ·exact e a (g3 a m)
def Part (H:Hp)(d:D)(x:V):Prop:=(∃ i,d=.int i/\x=.int i)\/(∃ s,d=.str s/\x=.str s)\/(∃ b l,d=nums l/\x=.ref b/\H b=some (.lst (l.map V.int)))\/∃ b i j,d=.tup [.int i,.int j]/\x=.ref b/\H b=some (.tup [.int i,.int j])
def zaW (H:Hp)(d:D)(v:V):Prop:=∃ t xs ds,d=.tup ds/\v=.ref t/\H t=some (.tup xs)/\ds.length=xs.length/\ds.length<=8/\∀ (i:Nat) dd x,ds[i]?=some dd->xs[i]?=some x->Part H dd x
theorem Part.sq {H H':Hp}(e:Sq H H'){d:D}{x:V}(h:Part H d x):Part H' d x:=by
 rcases h with h | h | ⟨b,l,h1,h2,h3⟩ | ⟨b,i,j,h1,h2,h3⟩
 ·exact .inl h
 ·exact .inr (.inl h)
 ·exact .inr (.inr (.inl ⟨b,l,h1,h2,e _ _ h3 rfl⟩))
 ·exact .inr (.inr (.inr ⟨b,i,j,h1,h2,e _ _ h3 rfl⟩))
theorem zaW.sq {H H':Hp}(e:Sq H H'){d:D}{v:V}(h:zaW H d v):zaW H' d v:=by
 obtain⟨t,xs,ds,h1,h2,h3,h4,h5,h6⟩:=h
 exact⟨t,xs,ds,h1,h2,e _ _ h3 rfl,h4,h5,λi dd x e1 e2=>(h6 i dd x e1 e2).sq e⟩
def zkT (d:D):Prop:=(∃ i,d=.int i)\/(∃ s,d=.str s)\/(∃ l,l.length=9/\d=nums l)\/∃ i j,d=.tup [.int i,.int j]
theorem znu {H:Hp}{d:D}{v:V}{fp:List Addr}(s:zkT d)(h:RepF H d v fp):Part H d v:=by
 rcases s with ⟨i,rfl⟩ | ⟨i,rfl⟩ | ⟨l,_,rfl⟩ | ⟨i,j,rfl⟩
 ·unfold RepF at h;exact .inl ⟨i,rfl,h.1⟩
 ·unfold RepF at h;exact .inr (.inl ⟨i,rfl,h.1⟩)
 ·unfold RepF at h
  obtain⟨a,xs,r,h1,_,h2,h3⟩:=h
  obtain⟨rfl,_⟩:=zai.ints_eq h3
  exact .inr (.inr (.inl ⟨a,l,rfl,h1,h2⟩))
 ·unfold RepF at h
  obtain⟨a,xs,h1,h2,h3⟩:=h
  have q:=zai.ints_eq (ns:=[i,j]) h3
  rw[q.1] at h2
  exact .inr (.inr (.inr ⟨a,i,j,rfl,h1,h2⟩))
theorem zje {H:Hp} : ∀ {ds:List D}{xs:List V}{fp:List Addr},(∀ d∈ds,zkT d)->zai H ds xs fp->∀ (i:Nat) dd x,ds[i]?=some dd->xs[i]?=some x->Part H dd x
 | [],_,_,_,_,i,dd,x,e,_=>by simp at e
 | d::ds,_,_,s,h,i,dd,x,e1,e2=>by
  unfold zai at h
  obtain⟨v,r,f,g,rfl,_,h1,h2⟩:=h
  cases i with
  | zero=>simp at e1 e2;subst e1;subst e2;exact znu (s d List.mem_cons_self) h1
  | succ i=>exact zje (λc hc=>s c (List.mem_cons_of_mem _ hc)) h2 i dd x (by simpa using e1) (by simpa using e2)
def Deed (d:D):Prop:=∃ ds,d=.tup ds/\ds.length<=8/\∀ c∈ds,zkT c
theorem znv {H:Hp}{d:D}{v:V}{fp:List Addr}(s:Deed d)(h:RepF H d v fp):zaW H d v:=by
 obtain⟨ds,rfl,h8,hs⟩:=s
 unfold RepF at h
 obtain⟨a,xs,h1,h2,h3⟩:=h
 exact⟨a,xs,ds,rfl,h1,h2,h3.length,h8,zje hs h3⟩
def Acc (H:Hp)(da:Addr)(H2:Hp)(ds:List D)(vs:List V):Prop:=∃ fp,H2 da=some (.lst vs)/\zai H2 ds vs fp/\fp.Nodup/\da∉fp/\∀ b∈fp,H b=none
theorem Acc.new {H H2:Hp}{da:Addr}{ds:List D}{vs:List V}(a:Acc H da H2 ds vs)(h:H da=none):New H H2 (.lst ds) (.ref da):=by
 obtain⟨fp,h1,h2,h3,h4,h5⟩:=a
 exact New.lst h2 h3 h5 h h4 h1
theorem zo6 {H:Hp}{d1 d2 d3 d4:D}{vs:List V}{fp:List Addr}(h:zai H [d1,d2,d3,d4] vs fp):∃ x1 x2 x3 x4 f1 f2 f3 f4,vs=[x1,x2,x3,x4]/\RepF H d1 x1 f1/\RepF H d2 x2 f2/\RepF H d3 x3 f3/\RepF H d4 x4 f4:=by
 unfold zai at h
 obtain⟨x1,_,f1,_,rfl,_,h1,h⟩:=h
 unfold zai at h
 obtain⟨x2,_,f2,_,rfl,_,h2,h⟩:=h
 unfold zai at h
 obtain⟨x3,_,f3,_,rfl,_,h3,h⟩:=h
 unfold zai at h
 obtain⟨x4,_,f4,_,rfl,_,h4,h⟩:=h
 unfold zai at h
 obtain⟨rfl,_⟩:=h
 exact⟨x1,x2,x3,x4,f1,f2,f3,f4,rfl,h1,h2,h3,h4⟩
theorem RepF.lso {H:Hp}{ds:List D}{x:V}{fp:List Addr}(h:RepF H (.lst ds) x fp):∃ b xs r,x=.ref b/\H b=some (.lst xs)/\zai H ds xs r:=by
 unfold RepF at h
 obtain⟨b,xs,r,e1,_,e3,e4⟩:=h
 exact⟨b,xs,r,e1,e3,e4⟩
theorem zai.item {H:Hp} : ∀ {ds:List D}{xs:List V}{fp:List Addr},zai H ds xs fp->∀ (i:Nat) d x,ds[i]?=some d->xs[i]?=some x->∃ f,RepF H d x f
 | [],_,_,_,i,d,x,e,_=>by simp at e
 | c::ds,_,_,h,i,d,x,e1,e2=>by
  unfold zai at h
  obtain⟨v,r,f,g,rfl,_,h1,h2⟩:=h
  cases i with
  | zero=>simp at e1 e2;subst e1;subst e2;exact⟨f,h1⟩
  | succ i=>exact zai.item h2 i d x (by simpa using e1) (by simpa using e2)
theorem zc2 {b:Bool}{X Y:Prop}(h1:b=true->X)(h2:b=false->Y):∃ c,V.bl b=.bl c/\(if c=true then X else Y):=by
 cases b with
 | true=>exact⟨true,rfl,iteT (h1 rfl)⟩
 | false=>exact⟨false,rfl,iteF (h2 rfl)⟩
theorem zdS {b:Bool}{X Y:Prop}(h1:b=true->X)(h2:b=false->Y):(if b=true then X else Y):=by
 cases b with
 | true=>exact iteT (h1 rfl)
 | false=>exact iteF (h2 rfl)
theorem zo7 {K:Fg}{H:Hp}{Q:VK}{a b:Addr}{xs ys:List V}(h1:SqT K H a xs)(h2:SqT K H b ys)(nx:xs≠[])(ny:ys≠[])(z:xs.length+ys.length<=sizeLine)(q:∀ p,H p=none->Q (.ref p) (upd H p (.tup (xs++ys)))):zjI K (.ref a) (.ref b) H Q:=
 .inr (.inr ⟨a,b,xs,ys,rfl,rfl,h1,h2,nx,z,λe=>absurd e ny,λ_=>q⟩)
theorem zd6 {K:Fg}{H:Hp}{ds:List D}{v:V}(h:Rep K H (.tup ds) v):∃ a xs,v=.ref a/\SqT K H a xs/\Reps K H ds xs:=by unfold Rep at h;exact h
end L2

namespace L2
open PySem PySem.Spec PyProof.Rows PySem.W
theorem zbv.has {P:Program}{w:World}{H:Hp}{h:Heap}{a:Addr}{o:HO}(x:zbv P w H h a o):∃ u,h.get? a=some u:=by
 cases o with
 | lst xs=>obtain⟨_,_,_,_,e⟩:=x;exact⟨_,e⟩
 | tup xs=>obtain⟨_,_,_,_,e,_⟩:=x;exact⟨_,e⟩
 | dK kvs=>obtain⟨_,_,_,_,o,_,_,e,_⟩:=x;exact⟨_,e⟩
 | dT kvs=>obtain⟨_,_,_,_,o,_,_,e,_⟩:=x;exact⟨_,e⟩
 | set S n=>obtain⟨o,_,_,_,e,_⟩:=x;exact⟨_,e⟩
 | ins C dx fs=>obtain⟨_,_,_,e,_⟩:=x;exact⟨_,e⟩
 | own y=>obtain⟨_,e⟩:=x;exact⟨_,e⟩
 | xd fs=>obtain⟨_,⟨_,_,_,e,_⟩,_⟩:=x;exact⟨_,e⟩
 | rng lo hi=>obtain⟨_,_,_,e⟩:=x;exact⟨_,e⟩
 | frz ob u=>obtain⟨e,_⟩:=x;exact⟨_,e⟩
 | tbl ps=>exact⟨_,show h.get? a=some _ from x⟩
 | met f y=>exact⟨_,show h.get? a=some _ from x⟩
 | ext φ=>obtain⟨_,⟨_,e⟩,_⟩:=x;exact⟨_,e⟩
def NoC (o:Obj):Prop:=∃ fs,o.data=.fields fs/\fs[2]?=some .none
def zhT (h:Heap)(e T:Addr)(cls fl:Value):Prop:=∃ oe vs oT ts,h.get? e=some oe/\oe.cls=cls/\oe.dict=none/\oe.data=.fields vs/\vs[1]?=some (.ref T)/\T≠e/\h.get? T=some oT/\oT.data=.fields ts/\ts[3]?=some fl/\vs[2]?=some .none
def zfJ (fr as:List Addr)(h h':Heap):Prop:=(∀ b o,h.get? b=some o->b∉fr->b∉as->h'.get? b=some o)/\∀ b o,h.get? b=some o->b∈fr->b∉as->∃ sl,h'.get? b=some {o with slots:=sl}
theorem zfJ.up {fr as:List Addr}{h h':Heap}(k:zfJ fr as h h'){b:Addr}{o:Obj}(e:h.get? b=some o)(n:b∉as):∃ sl,h'.get? b=some {o with slots:=sl}:=by
 by_cases m:b∈fr
 ·exact k.2 b o e m n
 ·exact⟨o.slots,k.1 b o e m n⟩
section
variable {M:Model}{A:Around}{E:Value->Shared->Prop}{s:Shared}
theorem zhU {base:Heap}{env:Env}{outer:List Env}{L e:Addr}{oe:Obj}{vs:Array Value}{head:Value}{hadNext:Bool}{Q:Unit->Shared->Prop}(hfr:A.frames=some (env::outer))(hl:s.heap.FunFrames base (env::outer))(hf:env.frame=some L)
  (he:s.heap.get? e=some oe) (hd:oe.data=.fields vs) (hsz:1<vs.size) (hdi:oe.dict=none) (h2:vs[2]?=some .none)
  (h:∀ h' T,s.heap.get? T=none->zhT h' e T oe.cls (rawInt L)->zfJ (frs (env::outer)) [e] s.heap h'->Q () {s with heap:=h'}) :
  wpAny M A (do let a <-frameOf env;let pl <-entryPlaceOf L hadNext;let b <-EntryCells.newEntry head a .none (rawInt L) .none pl;setField (.ref e) 1 b) Q E s:=by
 have hene:e∉(env::outer).filterMap (·.frame):=λhm=>by
  obtain⟨_,o,ho,hnf⟩:=hl.mem hm
  rw[he] at ho;injection ho with ho;subst ho;exact hnf vs hd
 refine wpAny_bind (wpAny_frameOf_fun hfr hl hf λh₁ hs₁=>?_)
 refine wpAny_bind (wpAny_entryPlaceOf λpl hpl=>?_)
 unfold EntryCells.newEntry newFields
 refine wpAny_bind (wpAny_newObj_type ?_ (hpl.sizeOk5 _ _ _ _ _))
 have he₁:h₁.get? e=some oe:=(hs₁.2.1 e hene).trans he
 have he₂:=Heap.get?_push_of_some (h:=h₁) {cls:=.type "traceback",dict:=none,data:=.fields ([head,.ref L,.none,rawInt L,.none]++(if pl.isEmpty then List.replicate 6 Value.none else pl)).toArray} he₁
 refine wpAny_setField he₂ hd hsz (h _ h₁.objs.size (Heap.get?_none_of_le (by rw[hs₁.1];exact Nat.le_refl _)) ?_ ?_)
 ·have hTe:h₁.objs.size≠e:=Nat.ne_of_gt (Heap.lt_size he₁)
  have hd₃:=Obj.data_mapFields hd (·.setIfInBounds 1 (Value.ref h₁.objs.size))
  have he₃:=Heap.get?_update_self (Obj.mapFields (·.setIfInBounds 1 (Value.ref h₁.objs.size))) he₂ (Obj.isFreed_of_fields hd₃)
  have hT₃:=(Heap.get?_update_other (h₁.push {cls:=.type "traceback",dict:=none,data:=.fields ([head,.ref L,.none,rawInt L,.none]++(if pl.isEmpty then List.replicate 6 Value.none else pl)).toArray})
   (Obj.mapFields (·.setIfInBounds 1 (Value.ref h₁.objs.size))) (Ne.symm hTe)).trans (Heap.get?_push_size h₁ rfl)
  refine⟨_,_,_,_,he₃,Obj.cls_mapFields _ _,?_,hd₃,by simp[hsz],hTe,hT₃,rfl,by first | (simp;done) | (rcases hpl with rfl | ⟨_,_,_,_,_,_,_,rfl⟩ <;> simp),by simp[Array.getElem?_setIfInBounds,h2]⟩
  obtain⟨c,di,dt,sl⟩:=oe
  cases hd
  exact hdi
 ·have keep:∀ b o,b≠e->h₁.get? b=some o->((h₁.push {cls:=.type "traceback",dict:=none,data:=.fields ([head,.ref L,.none,rawInt L,.none]++(if pl.isEmpty then List.replicate 6 Value.none else pl)).toArray}).update e (Obj.mapFields (·.setIfInBounds 1 (Value.ref h₁.objs.size)))).get? b=some o:=λb o hbe hb=>by
   rw[Heap.get?_update_other _ _ (Ne.symm hbe)]
   exact Heap.get?_push_of_some _ hb
  refine⟨λb o eb n1 n2=>keep b o (λz=>n2 (by simp[z])) ((hs₁.2.1 b n1).trans eb),λb o eb m n=>?_⟩
  obtain⟨sl,hsl⟩:=hs₁.2.2 b o eb
  exact⟨sl,keep b _ (λz=>n (by simp[z])) hsl⟩
theorem zfj {fr:List Addr}{e T:Addr}{cls fl:Value}{Q:Unit->Shared->Prop}(F:zhT s.heap e T cls fl)(h:∀ h',zhT h' e T cls .none->zfJ fr [T] s.heap h'->Q () {s with heap:=h'}):wpAny M A (setFlight (.ref e) none) Q E s:=by
 obtain⟨oe,vs,oT,ts,he,hcls,hdi,hd,h1,hTe,hT,hdT,h3,h2⟩:=F
 have hsz3:3<ts.size:=(Array.getElem?_eq_some_iff.mp h3).1
 have other:∀ b,b≠T->(s.heap.update T (Obj.mapFields (·.setIfInBounds 3 ((none:Option Addr).elim Value.none λf=>rawInt f)))).get? b=s.heap.get? b:=λb hb=>Heap.get?_update_other _ _ (Ne.symm hb)
 unfold setFlight
 refine wpAny_bind (wpAny_field he hd h1 ?_)
 rw[if_pos (show (Value.ref T != Value.none)=true from by simp)]
 refine wpAny_setField hT hdT hsz3 (h _ ?_ ⟨λb o e n1 n2=>(other b (λz=>n2 (by simp[z]))).trans e,λb o e m n=>⟨o.slots,(other b (λz=>n (by simp[z]))).trans e⟩⟩)
 exact⟨oe,vs,_,_,(other e (Ne.symm hTe)).trans he,hcls,hdi,hd,h1,hTe,Heap.get?_update_self _ hT (Obj.isFreed_of_fields (Obj.data_mapFields hdT _)),Obj.data_mapFields hdT _,by simp[hsz3],h2⟩
theorem zjf {base:Heap}{env:Env}{outer:List Env}{L e T:Addr}{cls:Value}{Q:Unit->Shared->Prop}(hfr:A.frames=some (env::outer))(hl:s.heap.FunFrames base (env::outer))(hf:env.frame=some L)(F:zhT s.heap e T cls .none)
  (h:∀ h' T',s.heap.get? T'=none->zhT h' e T' cls (rawInt L)->zfJ (frs (env::outer)) [e,T] s.heap h'->Q () {s with heap:=h'}):wpAny M A (noteFrame (.ref e) env) Q E s:=by
 obtain⟨oe,vs,oT,ts,he,hcls,hdi,hd,h1,hTe,hT,hdT,h3,h2⟩:=F
 subst hcls
 have hsz3:3<ts.size:=(Array.getElem?_eq_some_iff.mp h3).1
 have other:∀ b,b≠T->(s.heap.update T (Obj.mapFields (·.setIfInBounds 3 Value.none))).get? b=s.heap.get? b:=λb hb=>Heap.get?_update_other _ _ (Ne.symm hb)
 have noRecord:∀ b o,s.heap.get? b=some o->(∀ vs,o.data≠.fields vs)->b≠T:=λb o hb hnf q=>by
  rw[q,hT] at hb;injection hb with hb;subst hb;exact hnf ts hdT
 unfold noteFrame
 simp only[hf]
 refine wpAny_bind (wpAny_field he hd h1 ?_)
 rw[if_pos (show (Value.ref T != Value.none)=true from by simp)]
 refine wpAny_bind (wpAny_field hT hdT h3 ?_)
 rw[if_neg (show ¬ ((Value.none == rawInt L)=true) from by simp[rawInt])]
 refine wpAny_bind (wpAny_setField hT hdT hsz3 ?_)
 refine zhU hfr (hl.of_keeps λb o hb hnf=>⟨o,(other b (noRecord b o hb hnf)).trans hb,rfl⟩) hf ((other e (Ne.symm hTe)).trans he) hd (Array.getElem?_eq_some_iff.mp h1).1 hdi h2 λh' T' n F' k=>?_
 have nT':s.heap.get? T'=none:=by
  by_cases z:T'=T
  ·subst z
   rw[Heap.get?_update_self _ hT (Obj.isFreed_of_fields (Obj.data_mapFields hdT _))] at n
   cases n
  ·rw[<-other T' z];exact n
 refine h h' T' nT' F' ⟨λb o eb n1 n2=>k.1 b o ((other b (λz=>n2 (by simp[z]))).trans eb) n1 (λz=>n2 (by simp at z;simp[z])),λb o eb m n2=>k.2 b o ((other b (λz=>n2 (by simp[z]))).trans eb) m (λz=>n2 (by simp at z;simp[z]))⟩
end
def Fly (h0 h:Heap)(H:Hp)(e:Addr)(cls:Value):Prop:=∃ T,zhT h e T cls .none/\H e=none/\H T=none/\h0.get? e=none/\h0.get? T=none
def CX1 (P:Program)(w:World):CXT:=λouter H s E e s'=>∃ a C H',e=.ref a/\s'.os=s.os/\AllBare s'.gens/\Un (frs outer) [] H H' s.heap s'.heap/\HOk P w H' s'.heap/\Fly s.heap s'.heap H' a C/\E C none H'
section
variable {P:Program}{w:World}{K:Fg}{mg:Str->Option Value}{base:Heap}{N:List Str}{qual:Str}{scope:Scope}{f:Addr}{cd:Value}{A:Around}{outer:List Env}{s:Shared}{H:Hp}{E:XK}
theorem zjg {X:Cx}{pins:List (Addr × Obj)}{σ:St}{H2:Hp}{s2:Shared}(I:Inv X pins σ H2 s2)(hex:X.ex=[]){b:Addr}(n:s2.heap.get? b=none):X.s₀.heap.get? b=none:=by
 cases z:X.s₀.heap.get? b with
 | none=>rfl
 | some o=>
  obtain⟨u,hu⟩:=I.base.there b o z (by rw[hex];simp)
  rw[n] at hu;cases hu
theorem zo8 {X:Cx}{pins:List (Addr × Obj)}{σ:St}{H2:Hp}{s2:Shared}(I:Inv X pins σ H2 s2){b:Addr}(n:s2.heap.get? b=none):H2 b=none:=by
 cases z:H2 b with
 | none=>rfl
 | some o=>
  obtain⟨u,hu⟩:=(I.hok b o z).has
  rw[n] at hu;cases hu
theorem zkU {pins:List (Addr × Obj)}{σ:St}{H2:Hp}{s2:Shared}{h':Heap}{as:List Addr}{a T:Addr}{C:Value}(I:Inv (cxOf (CX1 P w) P w K mg base N qual scope f cd A outer s H E) pins σ H2 s2)(hx:H2 a=none)(hx0:s.heap.get? a=none)(has:∀ b∈as,H2 b=none/\s.heap.get? b=none)
  (nT:s2.heap.get? T=none) (F:zhT h' a T C .none) (L:zfJ (frs (cxOf (CX1 P w) P w K mg base N qual scope f cd A outer s H E).stack) as s2.heap h') (q:E C none H2):CX1 P w outer H s E (.ref a) {s2 with heap:=h'}:=by
 have fr:∀ b,b∈frs (cxOf (CX1 P w) P w K mg base N qual scope f cd A outer s H E).stack->b=s.heap.objs.size\/b∈frs outer:=λb hb=>by
  obtain⟨ev,he,hf⟩:=List.mem_filterMap.mp hb
  rcases List.mem_cons.mp he with z | z
  ·subst z;exact .inl (Option.some.inj hf).symm
  ·exact .inr (List.mem_filterMap.mpr ⟨ev,z,hf⟩)
 have nsz:s.heap.get? s.heap.objs.size=none:=Heap.get?_none_of_le (Nat.le_refl _)
 have hidden:∀ b,s.heap.get? b≠none->b∉as:=λb n m=>n (has b m).2
 refine⟨a,C,H2,rfl,I.os,I.bare,⟨λb o e n nf _=>?_,λb o e n nf _=>?_,λb o e n _=>I.base.free b o e n (by intro m;cases m),λb o e _=>?_,I.base.tups,I.base.frzs,I.base.tbls⟩,λb u e=>?_,⟨T,F,hx,zo8 I nT,hx0,zjg I rfl nT⟩,q⟩
 ·refine L.1 b o (I.base.keep b o e n nf (by intro m;cases m)) (λm=>?_) (hidden b (by rw[e];simp))
  rcases fr b m with z | z
  ·subst z;rw[nsz] at e;cases e
  ·exact nf z
 ·obtain⟨sl,e'⟩:=I.base.slot b o e n nf (by intro m;cases m)
  obtain⟨sl2,e2⟩:=L.up e' (hidden b (by rw[e];simp))
  exact⟨sl2,e2⟩
 ·obtain⟨o2,h2⟩:=I.base.there b o e (by intro m;cases m)
  obtain⟨sl,e5⟩:=L.up h2 (hidden b (by rw[e];simp))
  exact⟨_,e5⟩
 ·refine (I.hok b u e).stay (λc v hc q=>L.1 c v q (λm=>?_) (λm=>?_)) (λ_ q=>q) λ_ _ q=>q
  ·have:=I.stkFree c m
   rcases hc with z | z
   ·subst z;rw[e] at this;cases this
   ·rw[z] at this;cases this
  ·have:=(has c m).1
   rcases hc with z | z
   ·subst z;rw[e] at this;cases this
   ·rw[z] at this;cases this
theorem zlR {pins:List (Addr × Obj)}{σ:St}{H2:Hp}{s2:Shared}{a:Addr}{C:Value}(I:Inv (cxOf (CX1 P w) P w K mg base N qual scope f cd A outer s H E) pins σ H2 s2)(F:Fly s.heap s2.heap H2 a C)(q:E C none H2):(cxOf (CX1 P w) P w K mg base N qual scope f cd A outer s H E).xe (.ref a) s2:=by
 obtain⟨T,F,hx,hT,hx0,hT0⟩:=F
 show wpAny _ _ (leaving _ _) _ _ _
 unfold leaving
 refine wpAny_bind (zjf (outer:=outer) I.ok.frames I.stack rfl F λh1 T1 n1 F1 k1=>?_)
 refine zfj (fr:=frs (cxOf (CX1 P w) P w K mg base N qual scope f cd A outer s H E).stack) F1 λh2 F2 k2=>?_
 refine zkU (s2:=s2) (h':=h2) (as:=[a,T]) I hx hx0 (λb m=>?_) n1 F2 ⟨λb o e m n=>k2.1 b o (k1.1 b o e m n) m (λz=>by rw[zms.mp z,n1] at e;cases e),λb o e m n=>?_⟩ q
 ·rcases List.mem_cons.mp m with z | z
  ·subst z;exact⟨hx,hx0⟩
  ·rw[zms.mp z];exact⟨hT,hT0⟩
 ·obtain⟨sl,e1⟩:=k1.2 b o e m n
  obtain⟨sl2,e2⟩:=k2.up e1 (λz=>by rw[zms.mp z,n1] at e;cases e)
  exact⟨sl2,e2⟩
theorem pass1 {pins:List (Addr × Obj)}{σ:St}{H2:Hp}{s2:Shared}{e:Value}{s3:Shared}(I:Inv (cxOf (CX1 P w) P w K mg base N qual scope f cd A outer s H E) pins σ H2 s2)(h:CX1 P w (cxOf (CX1 P w) P w K mg base N qual scope f cd A outer s H E).stack H2 s2 E e s3):(cxOf (CX1 P w) P w K mg base N qual scope f cd A outer s H E).xe e s3:=by
 obtain⟨a,C,H3,rfl,os,bare,un,hok,⟨T,F,hx,hT,hx0,hT0⟩,q⟩:=h
 exact zlR (I.call' os un hok bare (λb z=>absurd z (by simp))) ⟨T,F,hx,hT,zjg I rfl hx0,zjg I rfl hT0⟩ q
theorem zg6:zdl (CX1 P w) (cxOf (CX1 P w) P w K mg base N qual scope f cd A outer s H E) E:=λ_ _ _ _ _ _ I h=>pass1 I h
theorem zkV {pins:List (Addr × Obj)}{σ:St}{H2:Hp}{s2:Shared}{h3:Heap}{a:Addr}{C:Value}{args:List Value}(I:Inv (cxOf (CX1 P w) P w K mg base N qual scope f cd A outer s H E) pins σ H2 s2)(M:Heap.MadeExcOf s2.heap h3 a C args)(q:E C none H2):(cxOf (CX1 P w) P w K mg base N qual scope f cd A outer s H E).xe (.ref a) {s2 with heap:=h3}:=by
 obtain⟨t,he,htn,ht⟩:=M.there
 have I3:Inv (cxOf (CX1 P w) P w K mg base N qual scope f cd A outer s H E) pins σ H2 {s2 with heap:=h3}:=I.un (h':=h3) (t':=s2.toks) (Un.kept M.keeps) (I.hok.kept M.keeps)
 have hx:=zo8 I M.new
 have hx0:s.heap.get? a=none:=zjg I rfl M.new
 show wpAny _ _ (leaving _ _) _ _ _
 unfold leaving noteFrame
 show wpAny _ _ ((do let head <-field (.ref a) 1;_) >>= _) _ _ _
 refine wpAny_bind (wpAny_bind (wpAny_field he rfl (x:=.none) rfl ?_))
 rw[if_neg (by decide)]
 refine zhU (outer:=outer) I3.ok.frames I3.stack rfl he rfl (by simp) rfl rfl λh1 T1 n1 F1 k1=>?_
 refine zfj (fr:=frs (cxOf (CX1 P w) P w K mg base N qual scope f cd A outer s H E).stack) F1 λh2 F2 k2=>?_
 have n1':h3.get? T1=none:=n1
 refine zkU (s2:={s2 with heap:=h3}) (h':=h2) (as:=[a]) I3 hx hx0 (λb m=>by rw[zms.mp m];exact⟨hx,hx0⟩) n1' F2 ⟨λb o e m n=>k2.1 b o (k1.1 b o e m n) m (λz=>by rw[zms.mp z] at e;rw[show h3.get? T1=some o from e] at n1';cases n1'),λb o e m n=>?_⟩ q
 obtain⟨sl,e1⟩:=k1.2 b o e m n
 obtain⟨sl2,e2⟩:=k2.up e1 (λz=>by rw[zms.mp z] at e;rw[show h3.get? T1=some o from e] at n1';cases n1')
 exact⟨sl2,e2⟩
end
end L2

namespace L2
open PySem PySem.Spec PyProof.Rows PySem.W
structure Err (K:Fg)(C:Addr)(anc:List Value):Prop where
 ob:∃ nm q N bs hdct sn sub ab col dd k0 k1 k2 k3 k5,K.lookup C=some (excClassObj nm q C N bs anc hdct sn sub ab col dd k0 k1 k2 k3 k5 "ValueError.__new__")
 ex:excIn K C zbA "ValueError.__new__"=true
theorem Err.obj {K:Fg}{C:Addr}{anc:List Value}{h:Heap}(X:K.In h)(e:Err K C anc):∃ nm q N bs hdct sn sub ab col dd k0 k1 k2 k3 k5 mN,h.get? C=some (excClassObj nm q C N bs anc hdct sn sub ab col dd k0 k1 k2 k3 k5 "ValueError.__new__")/\h.Ns N mN/\mN "__init__"=none/\OwnTail h zbA anc:=by
 obtain⟨⟨nm,q,N,bs,hdct,sn,sub,ab,col,dd,k0,k1,k2,k3,k5,l⟩,x⟩:=e
 unfold excIn at x
 rw[l] at x
 simp only[Bool.and_eq_true,beq_iff_eq,Bool.not_eq_true'] at x
 obtain⟨⟨⟨_,ht⟩,hok⟩,hni⟩:=x
 exact⟨nm,q,N,bs,hdct,sn,sub,ab,col,dd,k0,k1,k2,k3,k5,_,X _ _ l,.of_isNs (isNs_of_in X hok),nsMap_none_of_in X hok hni,tail_of_in X ht⟩
def zmH (X:Cx)(E:XK):Prop:=∀ (pins:List (Addr × Obj)) (σ:St) (H:Hp) (s:Shared) (h':Heap) (a:Addr) (C:Value) (args:List Value),Inv X pins σ H s->Heap.MadeExcOf s.heap h' a C args->E C none H->X.xe (.ref a) {s with heap:=h'}
theorem ziD {P:Program}{w:World}{K:Fg}{mg:Str->Option Value}{base:Heap}{N:List Str}{qual:Str}{scope:Scope}{f:Addr}{cd:Value}{A:Around}{outer:List Env}{s:Shared}{H:Hp}{E:XK} :
  zmH (cxOf (CX1 P w) P w K mg base N qual scope f cd A outer s H E) E:=λ_ _ _ _ _ _ _ _ I M q=>zkV I M q
def zmI (C:Value)(E:XK)(t:TA):TS:=λ_ σ H=>t σ H λvs H1=>vs.length<=sizeLine/\E C none H1
section
variable {X:Cx}{x:Str}{np cpos pos:Pos}{e0:Expr}{rest:List Expr}{C:Addr}{anc:List Value}{E:XK}{t:TA}
theorem zg7 (c:Err X.K C anc)(hg:Gl X x)(hm:X.mg x=some (.ref C))(hc:X.calm=true)(ht:zmH X E)(ha:PA X (e0::rest) t)(he:starEach (e0::rest) X.env=(false,eval e0 X.env)::starEach rest X.env:=by rfl)
  (hpl:(backTo cpos (starEach rest X.env)).any (·.1)=false:=by rfl) (hd:(x == ("__debug__" : Str))=false:=by decide):PS X (.Raise (some (.Call (.Name x np) (e0::rest) [] cpos)) none pos) (zmI (.ref C) E t):=by
 intro pins s σ H D I h
 obtain⟨nm,q,N,bs,hdct,sn,sub,ab,col,dd,k0,k1,k2,k3,k5,mN,hC,hN,hni,T⟩:=c.obj I.ok.mod.kin
 refine wpAny_Raise_call_subT (C:=C) (nm:=nm) (q:=q) (N:=N) (bs:=bs) (bm:=anc) (hdct:=hdct) (sn:=sn) (sub:=sub) (ab:=ab) (col:=col) (dd:=dd) (k0:=k0) (k1:=k1) (k2:=k2) (k3:=k3) (k5:=k5)
  PySem.F.excBase_ValueError (mN:=mN) (T.hasType PySem.F.excBase_ValueError.hasBase) (I.ok.hd hc) (by rw[he];show (false || (backTo cpos (starEach rest X.env)).any (·.1))=false;rw[hpl];rfl) hni (zd1 I hg hm ⟨rfl,?_⟩ hd)
 have h2:=ha cpos pins s σ H _ I h
 rw[he] at h2 ⊢
 refine Calls.evalArgs_plain (wpAny_mono h2 (λus s2 h2=>?_) λ_ _ y=>y)
 obtain⟨vs,H1,I1,r,z,q⟩:=h2
 exact⟨rfl,by rw[<-r.length];exact z,I1.bk _ _ hC,hN.keeps I1.bk,T.keeps I1.bk,λh' e M=>ht pins σ H1 s2 h' e _ _ I1 M q⟩
end
section
variable {P:Program}{w:World}{K:Fg}{mg:Str->Option Value}{base:Heap}
theorem Fun.okx {x qual:Str}{st:Stmt}{f:Addr}{fd:FuncData}{N ps:List Str}{k:Nat}{sp:Sp}(F:Fun K x qual st f fd)(S:FSc N ps (zad st))(len:∀ vs H Q E,sp vs H Q E->vs.length=ps.length)
  (hbody:∀ (cdv:Value) (A:Around) (outer:List Env) (s:Shared) (H:Hp) (vs:List V) (Q:VK) (E:XK),Room k (A.deeper (envOfC qual (zad st) s.heap.objs.size f cdv))->sp vs H Q E->
   ∃ t,PSs (cxOf (CX1 P w) P w K mg base N qual (zad st) f cdv A outer s H E) (zbO st) t/\t {nx:=λ_ H'=>Q .non H',rt:=Q} (start N vs) H):FnOk P w K mg base (CX1 P w) (k+1) f fd ps sp:=by
 obtain⟨oc,od,kV,doc,pm,an,cdv,ct,osl,rfl,lk,hcd⟩:=F.ex
 exact zoi lk hcd S len λA outer s H vs Q E hr hsp=>hbody cdv A outer s H vs Q E hr hsp
end
structure Fnx (P:Program)(w:World)(K:Fg)(mg:Str->Option Value)(base:Heap)(x:Str)(ps:List Str)(k:Nat)(sp:Sp):Prop where
 ex:∃ f fd,FnOk P w K mg base (CX1 P w) k f fd ps sp/\zdP K fd ps []/\PySem.W.keepIn K (.ref f)=true/\mg x=some (.ref f)
structure Mth (CX:CXT)(P:Program)(w:World)(K:Fg)(mg:Str->Option Value)(base:Heap)(C:Addr)(m:Str)(ps:List Str)(k:Nat)(sp:Sp):Prop where
 ex:∃ f fd,Meth K C m f/\FnOk P w K mg base CX k f fd ps sp/\zdP K fd ps []
section
variable {X:Cx}{CX:CXT}{k j:Nat}{C:Addr}{ps:List Str}{sp:Sp}{E:XK}{x m:Str}{p pos apos:Pos}{e o:Expr}{es:List Expr}{ta:TE}{t:TA}
theorem zo9 (G:Fnx X.prog X.w X.K X.mg X.base x ps j sp)(hr:Room k X.A)(hg:Gl X x)(hx:zdl (CX1 X.prog X.w) X E)(ha:PA X (e::es) t)(hj:j<=k:=by decide)(hdb:(x == ("__debug__" : Str))=false:=by decide)
  (he:starEach (e::es) X.env=(false,eval e X.env)::starEach es X.env:=by rfl) (hpl:(backTo pos (starEach es X.env)).any (·.1)=false:=by rfl):PE X (.Call (.Name x p) (e::es) [] pos) (zhz sp [] E t):=by
 obtain⟨f,fd,F,hb,hk,hm⟩:=G.ex
 exact zkq (F.mono hj) hr hg hm hk hb .nil hx ha hdb he hpl
theorem zch {pl:Sem Bool}(G:Mth CX X.prog X.w X.K X.mg X.base C m ps j sp)(c:Cls X.K C)(hr:Room k X.A)(hx:zdl CX X E)(he:PE X o ta)(ha:PA X (e::es) t)(hj:j<=k:=by decide)
  (hst:starEach (e::es) X.env=(false,eval e X.env)::starEach es X.env:=by rfl) (hpl:(backTo pos (starEach es X.env)).any (·.1)=false:=by rfl)
  (ht:eval (.Call (.Attribute o m apos) (e::es) [] pos) X.env=(do
   let ov <-eval o X.env
   standAt apos.atName
   let (f,first) <-holding [ov] (getMethod ov m pl)
   callWith pos f first (backTo pos (starEach (e::es) X.env)) (backToKw pos (keywordEach [] X.env))):=by rfl) :
  PE X (.Call (.Attribute o m apos) (e::es) [] pos) (zlz C m sp [] E ta t):=by
 obtain⟨f,fd,M,F,hb⟩:=G.ex
 exact zm3 he c M (F.mono hj) hr hb .nil hx ha hst hpl ht
end
end L2

namespace L2
open PySem PySem.Spec PyProof.Rows PySem.W
section
variable {M:Model}{A:Around}{E:Value->Shared->Prop}{h:Heap}{g:Array GenState}{d:Drawn}{t:Nat}{os:OsState}
variable {nm q nm' q':Str}{C N D N':Addr}{bs bm bs' bm':List Value}{hdct hdct':Bool}{sn sn':List Str}{sub sub':List Value}{ab ab':Bool}{col col':Option Bool}{dd dd':Option Addr}{k0 k1 k2 k3 k5 l0 l1 l2 l3 l5:Option Value}{newId newId':String}
theorem zgh {e:Addr}{oe:Obj}{Q:Bool->Shared->Prop}(hC:h.get? C=some (excClassObj nm q C N bs bm hdct sn sub ab col dd k0 k1 k2 k3 k5 newId))(hD:h.get? D=some (excClassObj nm' q' D N' bs' bm' hdct' sn' sub' ab' col' dd' l0 l1 l2 l3 l5 newId'))
  (he:h.get? e=some oe) (hcls:oe.cls=.ref C) (hbase:bm'.contains (.type "BaseException")=true) (hq:Q ((Value.ref C::bm).contains (.ref D)) ⟨h,g,d,t,os⟩):wpAny M A (excMatches (.ref e) (.ref D)) Q E ⟨h,g,d,t,os⟩:=by
 have hcB:(Value.ref D::bm').contains (.type "BaseException")=true:=by rw[List.contains_cons,hbase,Bool.or_true]
 have f:=tc_notTuple
 unfold excMatches
 generalize hb:(Value.ref C::bm).contains (.ref D)=b at hq
 repeat (first | (with_reducible refine wpAny_loadPart_at he ?_;rw[hcls]) | with_reducible refine wpAny_loadPart_at hD ?_ | (with_reducible refine wpAny_isSubtype_exc hD ?_;rw[hcB]) | (with_reducible refine wpAny_isSubtype_exc hC ?_;rw[hb]) | wp_step)
 cases b <;> (wp_walk;exact hq)
end
section
variable {X:Cx}{pins:List (Addr × Obj)}{σ:St}{H:Hp}{s:Shared}
def zjL (X:Cx)(pins:List (Addr × Obj))(H:Hp)(b:Addr):Prop:=H b=none/\X.s₀.heap.get? b=none/\b≠X.env.locals/\(∀ x c,X.env.cells.lookup x=some c->c≠b)/\(∀ p∈X.pn++pins,p.1≠b)
theorem zjh {H1:Hp}{b:Addr}(I:Inv X pins σ H1 s)(hex:X.ex=[])(n:s.heap.get? b=none)(hH:H b=none):zjL X pins H b:=by
 refine⟨hH,?_,λz=>?_,λx c e z=>?_,λp hp z=>?_⟩
 ·cases q:X.s₀.heap.get? b with
  | none=>rfl
  | some o=>
   obtain⟨u,hu⟩:=I.base.there b o q (by rw[hex];simp)
   rw[n] at hu;cases hu
 ·subst z
  obtain⟨m,⟨o,es,ep,ho,_⟩,_⟩:=I.loc
  rw[n] at ho;cases ho
 ·subst z
  obtain⟨v,o,ho,_⟩:=I.cell x c e
  rw[n] at ho;cases ho
 ·have:=(I.pin p hp).1
  rw[z,n] at this;cases this
theorem Inv.shift {h':Heap}{as:List Addr}(I:Inv X pins σ H s)(keep:∀ b o,s.heap.get? b=some o->b∉frs X.stack->b∉as->h'.get? b=some o)(slot:∀ b o,s.heap.get? b=some o->b∈frs X.stack->b∉as->∃ sl,h'.get? b=some {o with slots:=sl})
  (has:∀ b∈as,zjL X pins H b):Inv X pins σ H {s with heap:=h'}:=by
 have up:∀ b o,s.heap.get? b=some o->b∉as->∃ sl,h'.get? b=some {o with slots:=sl}:=λb o e n=>by
  by_cases m:b∈frs X.stack
  ·exact slot b o e m n
  ·exact⟨o.slots,keep b o e m n⟩
 have neL:∀ b o,X.s₀.heap.get? b=some o->b≠X.env.locals:=λb o e=>Nat.ne_of_lt (Nat.lt_of_lt_of_le (Heap.lt_size e) I.ok.above)
 have neA:∀ b o,X.s₀.heap.get? b=some o->b∉as:=λb o e m=>by rw[(has b m).2.1] at e;cases e
 have stk:∀ b,b≠X.env.locals->b∉X.fs->b∉frs X.stack:=λb n1 n m=>(List.mem_cons.mp (I.stkSub b m)).elim n1 n
 have cellK:∀ x c,X.env.cells.lookup x=some c->∀ v,s.heap.IsCell c v->h'.IsCell c v:=λx c e v ⟨o,ho,hd⟩=>by
  obtain⟨sl,q⟩:=up c o ho (λz=>(has c z).2.2.2.1 x c e rfl)
  exact⟨_,q,hd⟩
 refine⟨I.ok,I.os,I.bare,⟨λb o e n hb hx=>?_,λb o e n hb hx=>?_,I.base.free,λb o e hx=>?_,I.base.tups,I.base.frzs,I.base.tbls⟩,?_,λx c e=>?_,I.free,I.freeC,λp hp=>?_,λb u e=>?_,I.len⟩
 ·exact keep b o (I.base.keep b o e n hb hx) (stk b (neL b o e) hb) (neA b o e)
 ·obtain⟨sl,e1⟩:=I.base.slot b o e n hb hx
  obtain⟨sl',e2⟩:=up b _ e1 (neA b o e)
  exact⟨sl',e2⟩
 ·obtain⟨o',e1⟩:=I.base.there b o e hx
  obtain⟨sl,e2⟩:=up b o' e1 (neA b o e)
  exact⟨_,e2⟩
 ·obtain⟨m,⟨o,es,ep,ho,r⟩,hl⟩:=I.loc
  obtain⟨sl,hL⟩:=up _ o ho (λz=>(has _ z).2.2.1 rfl)
  refine⟨m,⟨_,es,ep,hL,r⟩,λi x v e1 e2 e3=>?_⟩
  obtain⟨u,r,l⟩:=hl i x v e1 e2 e3
  refine⟨u,r,?_⟩
  rcases l with l | ⟨l,c,e,z⟩
  ·exact .inl l
  ·exact .inr ⟨l,c,e,cellK x c e _ z⟩
 ·obtain⟨v,z⟩:=I.cell x c e
  exact⟨v,cellK x c e v z⟩
 ·obtain⟨e,n,ne,nf,d⟩:=I.pin p hp
  exact⟨keep _ _ e (stk _ ne nf) (λm=>(has _ m).2.2.2.2 p hp rfl),n,ne,nf,d⟩
 ·refine (I.hok b u e).stay (λc v hc q=>keep c v q (λm=>?_) (λm=>?_)) (λ_ q=>q) λ_ _ q=>q
  ·have:=I.stkFree c m
   rcases hc with z | z
   ·subst z;rw[e] at this;cases this
   ·rw[z] at this;cases this
  ·have:=(has c m).1
   rcases hc with z | z
   ·subst z;rw[e] at this;cases this
   ·rw[z] at this;cases this
end
def XP (X:Cx)(pins:List (Addr × Obj))(σ:St)(E:XK)(e:Value)(s':Shared):Prop:=∃ a C H' s1 H1,e=.ref a/\Inv X pins σ H1 s1/\Inv X pins σ H' s'/\Fly s1.heap s'.heap H' a C/\E C none H'
def PEx (X:Cx)(e:Expr)(t:XK->TE):Prop:=
 ∀ (pins:List (Addr × Obj)) (s:Shared) (σ:St) (H:Hp) (Q:VK) (E:XK),Inv X pins σ H s->t E σ H Q->wpAny (model X.prog X.w) X.A (eval e X.env) (EP X pins σ Q) (XP X pins σ E) s
def PSx (X:Cx)(st:Stmt)(t:XK->TS):Prop:=
 ∀ (pins:List (Addr × Obj)) (s:Shared) (σ:St) (H:Hp) (D:Ends) (E:XK),Inv X pins σ H s->t E D σ H->wpAny (model X.prog X.w) X.A (exec st X.env) (SP X pins D) (XP X pins σ E) s
def PSxs (X:Cx)(st:List Stmt)(t:XK->TS):Prop:=
 ∀ (pins:List (Addr × Obj)) (s:Shared) (σ:St) (H:Hp) (D:Ends) (E:XK),Inv X pins σ H s->t E D σ H->wpAny (model X.prog X.w) X.A (execs st X.env) (SP X pins D) (XP X pins σ E) s
theorem nxm {α:Type}{t:Sem α}{Q Q':α->Shared->Prop}{M:Model}{A:Around}{E:Value->Shared->Prop}{s:Shared}(h:wpAny M A t Q (λ_ _=>False) s)(hQ:∀ a s,Q a s->Q' a s):wpAny M A t Q' E s:=wpAny_mono h hQ λ_ _ x=>x.elim
section
variable {X:Cx}{k j:Nat}{f C:Addr}{fd:FuncData}{ps:List Str}{sp:Sp}{x m:Str}{p pos apos:Pos}{e o:Expr}{es:List Expr}{ta:TE}{t:TA}{E:XK}{pins:List (Addr × Obj)}{σ:St}{H:Hp}{s:Shared}{Q:VK}{us:List Value}{vs:List V}
theorem znw (F:FnOk X.prog X.w X.K X.mg X.base (CX1 X.prog X.w) k f fd ps sp)(hr:Room k X.A)(hb:zdP X.K fd ps [])(I:Inv X pins σ H s)(r:Vals vs us)(h:sp vs H Q E) :
  wpAny (model X.prog X.w) X.A (call (.ref f) us) (EP X pins σ Q) (XP X pins σ E) s:=by
 have hl:(us++[]).length=ps.length:=by rw[List.append_nil,<-r.length];exact F.len _ _ _ _ h
 refine wpAny_call (codeAny_mono (F.run X.A X.stack s H ⟨us,[]⟩ us vs Q E hr I.env0 (by have:=hb s us I.kIn hl;rwa [List.append_nil] at this) r h) λr s' hq=>?_)
 cases r with
 | error e=>
  obtain⟨a,C,H3,rfl,os,bare,un,hok,F,q⟩:=hq
  exact⟨a,C,H3,s,H,rfl,I,I.call' os un hok bare (λb z=>absurd z (by simp)),F,q⟩
 | ok fl=>
  cases fl with
  | ret u=>exact I.after hq
  | next=>exact False.elim hq
  | brk=>exact False.elim hq
  | cont=>exact False.elim hq
theorem znx {pl:Sem Bool}(G:Mth (CX1 X.prog X.w) X.prog X.w X.K X.mg X.base C m ps j sp)(c:Cls X.K C)(hr:Room k X.A)(ho:PE X.nox o ta)(ha:PA X.nox (e::es) t)(hj:j<=k:=by decide)
  (hst:starEach (e::es) X.env=(false,eval e X.env)::starEach es X.env:=by rfl) (hpl:(backTo pos (starEach es X.env)).any (·.1)=false:=by rfl)
  (ht:eval (.Call (.Attribute o m apos) (e::es) [] pos) X.env=(do
   let ov <-eval o X.env
   standAt apos.atName
   let (f,first) <-holding [ov] (getMethod ov m pl)
   callWith pos f first (backTo pos (starEach (e::es) X.env)) (backToKw pos (keywordEach [] X.env))):=by rfl) :
  PEx X (.Call (.Attribute o m apos) (e::es) [] pos) (λE=>zlz C m sp [] E ta t):=by
 obtain⟨f,fd,M,F,hb⟩:=G.ex
 intro pins s σ H Q E I h
 refine PySem.W.methodCall_KW (pl:=pl) (nxm (ho pins s σ H _ (I.wish _) h) λu s1 ⟨x,H1,I1,rx,a,dx,fs,ex,ea,l,q⟩=>?_) ht
 subst ex
 obtain rfl:u=Value.ref a:=rx
 refine zeJ I1.unwish ea c M l ?_
 refine PySem.W.callWith_K (first:=[.ref a]) (h₀:=X.base) I.ok.mod.kin M.kp (nxm (ha pos pins s1 σ H1 _ I1 q) λus s2 ⟨vs,H2,I2,r,q2⟩=>⟨I2.unwish.kIn,?_⟩) hst hpl
 have q':sp (V.ref a::(vs++[])) H2 Q E:=q2
 rw[List.append_nil] at q'
 exact znw (us:=.ref a::us) (vs:=.ref a::vs) F (hr.mono hj) hb I2.unwish (.cons rfl r) q'
variable {te:XK->TE}{st:Stmt}{tt uu:XK->TS}
theorem zlS (he:PEx X e te)(hs:swapsWith e none pos.line X.env=pure false:=by rfl):PSx X (.Expr e pos) (λE=>zmV (te E)):=by
 intro pins s σ H D E I h
 exact wpAny_Expr_any (thn (he pins s σ H _ E I h) λv s1 ⟨x,H1,I1,r1,q1⟩=>⟨σ,H1,I1,q1⟩) I.quiet hs
theorem zlT (h1:PSx X st tt):PSxs X [st] tt:=by
 intro pins s σ H D E I h
 refine wpAny_execs_cons (thn (h1 pins s σ H D E I h) λf s1 q=>?_)
 cases f with
 | next=>exact wpAny_execs_nil q
 | ret v=>exact q
 | brk=>exact q
 | cont=>exact q
end
end L2

namespace L2
open PySem PySem.Spec PyProof.Rows PySem.W
section
variable {X:Cx}{pins:List (Addr × Obj)}{σ:St}{H:Hp}{a:Addr}{C:Value}{s:Shared}
structure Ready (X:Cx)(pins:List (Addr × Obj))(σ:St)(H:Hp)(a:Addr)(C:Value)(s:Shared):Prop where
 ex:∃ (s':Shared) (T T':Addr),Inv X pins σ H s'/\zjL X pins H a/\zjL X pins H T/\s'.heap.get? T'=none/\(∃ h',s={s' with heap:=h'})/\zhT s.heap a T' C .none/\zfJ (frs X.stack) [a,T] s'.heap s.heap
theorem Ready.inv (R:Ready X pins σ H a C s):Inv X pins σ H s:=by
 obtain⟨s',T,T',I,ha,hT,_,⟨h',rfl⟩,F,U⟩:=R.ex
 refine I.shift (as:=[a,T]) U.1 U.2 (λb m=>?_)
 rcases List.mem_cons.mp m with z | z
 ·subst z;exact ha
 ·rw[zms.mp z];exact hT
theorem Ready.apart (R:Ready X pins σ H a C s):zjL X pins H a:=by
 obtain⟨s',T,T',I,ha,hT,_,⟨h',rfl⟩,F,U⟩:=R.ex
 exact ha
theorem Ready.obj (R:Ready X pins σ H a C s):∃ oe vs,s.heap.get? a=some oe/\(oe.cls=C/\oe.dict=none)/\oe.data=.fields vs:=by
 obtain⟨s',T,T',I,ha,hT,_,_,F,U⟩:=R.ex
 obtain⟨oe,vs,oT,ts,h1,h2,h3,h4,_⟩:=F
 exact⟨oe,vs,h1,⟨h2,h3⟩,h4⟩
theorem Ready.objN (R:Ready X pins σ H a C s):∃ oe vs,s.heap.get? a=some oe/\(oe.cls=C/\oe.dict=none)/\oe.data=.fields vs/\vs[2]?=some .none:=by
 obtain⟨s',T,T',I,ha,hT,_,_,F,U⟩:=R.ex
 obtain⟨oe,vs,oT,ts,h1,h2,h3,h4,_,_,_,_,_,h5⟩:=F
 exact⟨oe,vs,h1,⟨h2,h3⟩,h4,h5⟩
theorem Ready.again {M:Model}{A:Around}{E:Value->Shared->Prop}{Q:Unit->Shared->Prop}(R:Ready X pins σ H a C s)(k:∀ s2,Ready X pins σ H a C s2->Q () s2):wpAny M A (setFlight (.ref a) none) Q E s:=by
 obtain⟨s',T,T',I,ha,hT,n,⟨h',rfl⟩,F,U⟩:=R.ex
 refine zfj (fr:=frs X.stack) F λh2 F2 U2=>k _ ⟨s',T,T',I,ha,hT,n,⟨h2,rfl⟩,F2,⟨λb o e m1 m2=>U2.1 b o (U.1 b o e m1 m2) m1 (λz=>by rw[zms.mp z,n] at e;cases e),λb o e m1 m2=>?_⟩⟩
 obtain⟨sl,e1⟩:=U.2 b o e m1 m2
 obtain⟨sl2,e2⟩:=U2.up e1 (λz=>by rw[zms.mp z,n] at e;cases e)
 exact⟨sl2,e2⟩
theorem ziE {E:XK}{E':Value->Shared->Prop}{e:Value}{Q:Shared->Prop}(hex:X.ex=[])(hst:X.stack=X.env::X.outer)(hf:X.env.frame=some X.env.locals)(h:XP X pins σ E e s)
  (k:∀ a C H' s3,e=.ref a->Ready X pins σ H' a C s3->E C none H'->Q s3) :
  wpAny (model X.prog X.w) X.A (noteFrame e X.env) (λ_ s2=>wpAny (model X.prog X.w) X.A (setFlight e none) (λ_ s3=>Q s3) E' s2) E' s:=by
 obtain⟨a,C,H',s1,H1,rfl,I1,I',⟨T,F,hx,hT,hx0,hT0⟩,q⟩:=h
 have hfr:X.A.frames=some (X.env::X.outer):=by rw[<-hst];exact I'.ok.frames
 refine zjf (outer:=X.outer) (base:=X.base) hfr (by rw[<-hst];exact I'.stack) hf F λh1 T1 n1 F1 U1=>?_
 rw[<-hst] at U1
 refine zfj (fr:=frs X.stack) F1 λh2 F2 U2=>k a C H' _ rfl ⟨s,T,T1,I',zjh I1 hex hx0 hx,zjh I1 hex hT0 hT,n1,⟨h2,rfl⟩,F2,⟨λb o e m1 m2=>U2.1 b o (U1.1 b o e m1 m2) m1 (λz=>by rw[zms.mp z,n1] at e;cases e),λb o e m1 m2=>?_⟩⟩ q
 obtain⟨sl,e1⟩:=U1.2 b o e m1 m2
 obtain⟨sl2,e2⟩:=U2.up e1 (λz=>by rw[zms.mp z,n1] at e;cases e)
 exact⟨sl2,e2⟩
def XH (X:Cx)(a:Addr)(o:Obj):Cx:={X with A:=X.A.mark (some (.ref a)),calm:=false,pn:=(a,o)::X.pn,xe:=λ_ _=>False}
theorem Inv.held {o:Obj}(I:Inv X pins σ H s)(ho:s.heap.get? a=some o)(ap:zjL X pins H a)(nc:∀ v,o.data≠.cell v):Inv (XH X a o) pins σ H s:=by
 have ok:=I.ok
 refine⟨⟨ok.mod,ok.kind,ok.glob,ok.blt,ok.above,ok.inj,ok.has,ok.cab,(λz=>absurd z Bool.false_ne_true),ok.frames,ok.stk,ok.exf,ok.bs,ok.bsz,ok.noex,ok.exfs,ok.funs,ok.frf⟩,I.os,I.bare,I.base,I.loc,I.cell,I.free,I.freeC,λp hp=>?_,I.hok,I.len⟩
 have hp':p∈(a,o)::(X.pn++pins):=hp
 rcases List.mem_cons.mp hp' with z | z
 ·subst z
  refine⟨ho,ap.1,ap.2.2.1,λm=>?_,nc⟩
  obtain⟨_,o2,h2,_⟩:=ok.funs.mem m
  have:=ap.2.1
  rw[h2] at this;cases this
 ·exact I.pin p z
theorem Inv.unheld {o:Obj}(ok:X.Ok)(I:Inv (XH X a o) pins σ H s):Inv X pins σ H s:=
 ⟨ok,I.os,I.bare,I.base,I.loc,I.cell,I.free,I.freeC,λp hp=>I.pin p (List.mem_cons_of_mem _ hp),I.hok,I.len⟩
theorem SP.unheld {o:Obj}{D:Ends}{f:Flow}(ok:X.Ok)(h:SP (XH X a o) pins D f s):SP X pins D f s:=by
 cases f with
 | next=>obtain⟨σ',H',I,q⟩:=h;exact⟨σ',H',I.unheld ok,q⟩
 | brk=>obtain⟨σ',H',I,q⟩:=h;exact⟨σ',H',I.unheld ok,q⟩
 | cont=>obtain⟨σ',H',I,q⟩:=h;exact⟨σ',H',I.unheld ok,q⟩
 | ret u=>obtain⟨v,σ',H',I,r,q⟩:=h;exact⟨v,σ',H',I.unheld ok,r,q⟩
end
def PH (X:Cx)(hs:List ExceptHandler)(t:Value->Addr->TS):Prop:=
 ∀ (pins:List (Addr × Obj)) (s:Shared) (σ:St) (H:Hp) (D:Ends) (a:Addr) (C:Value),Ready X pins σ H a C s->t C a D σ H->wpAny (model X.prog X.w) X.A (handleBy (.ref a) X.env hs) (SP X pins D) X.xe s
def tHand (K:Fg)(D:Addr)(th tr:Value->Addr->TS):Value->Addr->TS:=λC a E σ H=>∃ Cc anc,C=.ref Cc/\Err K Cc anc/\if (Value.ref Cc::anc).contains (.ref D)=true then th C a E σ H else tr C a E σ H
section
variable {X:Cx}{x:Str}{np pos:Pos}{b0:Stmt}{suite:List Stmt}{rest:List ExceptHandler}{D:Addr}{anc:List Value}{tb tr:Value->Addr->TS}
theorem zpa:PH X [] (λ_ _=>zn4):=λ_ _ _ _ _ _ _ _ h=>h.elim
theorem zny (eD:Err X.K D anc)(hg:Gl X x)(hm:X.mg x=some (.ref D))(hb:∀ a o,o.dict=none->NoC o->PSs (XH X a o) (b0::suite) (tb o.cls a))(hr:PH X rest tr)(hd:(x == ("__debug__" : Str))=false:=by decide) :
  PH X (.ExceptHandler (some (.Name x np)) none (b0::suite) pos::rest) (tHand X.K D tb tr):=by
 intro pins s σ H E a C R h
 obtain⟨Cc,ancC,rfl,eC,h⟩:=h
 have I:=R.inv
 obtain⟨oe,vs,ho,⟨hc,_⟩,hdt⟩:=R.obj
 obtain⟨nm,q,N,bs,hdct,sn,sub,ab,col,dd,k0,k1,k2,k3,k5,mN,hC,_,_,TC⟩:=eC.obj I.kIn
 obtain⟨nm',q',N',bs',hdct',sn',sub',ab',col',dd',l0,l1,l2,l3,l5,mN',hD,_,_,TD⟩:=eD.obj I.kIn
 refine wpAny_handleBy_cons (codeAny_handlers_test (zd1 (X:=XH X a oe) (I.held ho R.apart (λv z=>by rw[hdt] at z;cases z)) hg hm ?_ hd)) (by intro q;cases q)
 obtain⟨hp,g,d,tk,os⟩:=s
 refine zgh hC hD ho hc (TD.hasType PySem.F.excBase_ValueError.hasBase) ?_
 by_cases b:(Value.ref Cc::ancC).contains (.ref D)=true
 ·rw[if_pos b] at h
  rw[b]
  show codeAny _ _ _ _ _
  refine codeAny_handlers_suite (R.again λs2 R2=>?_)
  obtain⟨o2,vs2,ho2,⟨hc2,hi2⟩,hd2,hn2⟩:=R2.objN
  rw[<-hc2] at h
  exact nxm (hb a o2 hi2 ⟨vs2,hd2,hn2⟩ pins s2 σ H E (R2.inv.held ho2 R2.apart (λv z=>by rw[hd2] at z;cases z)) h) λf s3 q=>q.unheld I.ok
 ·rw[if_neg b] at h
  rw[Bool.not_eq_true] at b
  rw[b]
  exact hr pins _ σ H E a _ R h
def tTry (tb:XK->TS)(th:Value->Addr->TS):TS:=λD σ H=>tb (λC _ H'=>∀ a,th C a D σ H') D σ H
theorem zpb {body:List Stmt}{h0:ExceptHandler}{hs:List ExceptHandler}{tx:XK->TS}{th:Value->Addr->TS}(hex:X.ex=[])(hst:X.stack=X.env::X.outer)(hf:X.env.frame=some X.env.locals)(hb:PSxs X body tx)(hh:PH X (h0::hs) th):PS X (.Try body (h0::hs) [] [] pos) (tTry tx th):=by
 intro pins s σ H D I h
 refine wpAny_Try_except (wpAny_mono (hb pins s σ H D _ I h) (λf s1 q=>?_) λe s1 q=>?_)
 ·cases f with
  | next=>exact wpAny_execs_nil q
  | ret v=>exact q
  | brk=>exact q
  | cont=>exact q
 ·exact ziE hex hst hf q λa C H' s3 ee R q2=>by
   subst ee
   exact hh pins s3 σ H' D a C R (q2 a)
end
end L2

namespace L2
open PySem PySem.Spec PyProof.Rows PySem.W
def zbb:Nat:=10 ^ 30
theorem zhV {i:Int}(h:i.natAbs<zbb):i.natAbs.log2<1920:=by
 by_cases z:i.natAbs=0
 ·rw[z];decide
 ·refine (Nat.log2_lt z).mpr (Nat.lt_of_lt_of_le h ?_)
  unfold zbb
  exact Nat.le_trans (by decide:10 ^ 30<=2 ^ 100) (Nat.pow_le_pow_right (n:=2) (by decide) (by decide:100<=1920))
section
variable {X:Cx}{pins:List (Addr × Obj)}{σ:St}{H:Hp}{s:Shared}
end
theorem zfK {i:Int}(h:i.natAbs<zbb):(Str.ofString (toString i)).length<=32:=by
 have e:=int_text_length_le10 (k:=30) (by decide) h
 rw[PySem.ofString_length];omega
end L2

namespace L2
open PySem PySem.Spec PyProof.Rows PySem.W
section
variable {prog:Program}{w:World}{A:Around}{E:Value->Shared->Prop}
end
section
variable {X:Cx}{pos:Pos}
end
end L2

namespace L2
open PySem PySem.Spec PyProof.Rows PySem.W
theorem zai.append {H:Hp} : ∀ {ds1:List D}{vs1:List V}{f1:List Addr}{ds2:List D}{vs2:List V}{f2:List Addr},zai H ds1 vs1 f1->zai H ds2 vs2 f2->zai H (ds1++ds2) (vs1++vs2) (f1++f2)
 | [],_,_,_,_,_,h1,h2=>by
  unfold zai at h1
  obtain⟨rfl,rfl⟩:=h1
  exact h2
 | d::ds,_,_,_,_,_,h1,h2=>by
  unfold zai at h1
  obtain⟨v,r,f,g,rfl,rfl,q1,q2⟩:=h1
  rw[List.append_assoc]
  exact zai.cany q1 (zai.append q2 h2)
theorem zai.cut {H:Hp} : ∀ (i:Nat) {ds:List D}{vs:List V}{fp:List Addr},zai H ds vs fp->∃ f1 f2,fp=f1++f2/\zai H (ds.take i) (vs.take i) f1/\zai H (ds.drop i) (vs.drop i) f2
 | 0,ds,vs,fp,h=>⟨[],fp,rfl,zai.nil,h⟩
 | i+1,[],_,_,h=>by
  unfold zai at h
  obtain⟨rfl,rfl⟩:=h
  exact⟨[],[],rfl,zai.nil,zai.nil⟩
 | i+1,d::ds,_,_,h=>by
  unfold zai at h
  obtain⟨v,r,f,g,rfl,rfl,q1,q2⟩:=h
  obtain⟨f1,f2,rfl,h1,h2⟩:=zai.cut i q2
  exact⟨f++f1,f2,(List.append_assoc _ _ _).symm,zai.cany q1 h1,h2⟩
theorem New.acc {H H':Hp}{ds:List D}{v:V}(h:New H H' (.lst ds) v):∃ a vs,v=.ref a/\H a=none/\Acc H a H' ds vs:=by
 obtain⟨a,vs,fp,e1,e2,e3,e4,e5,e7,e6⟩:=New.lso h
 exact⟨a,vs,e1,e2,fp,e3,e4,e5,e7,e6⟩
theorem Acc.get {H H2:Hp}{da:Addr}{ds:List D}{vs:List V}(a:Acc H da H2 ds vs):H2 da=some (.lst vs):=by obtain⟨fp,h,_⟩:=a;exact h
theorem Acc.len {H H2:Hp}{da:Addr}{ds:List D}{vs:List V}(a:Acc H da H2 ds vs):ds.length=vs.length:=by obtain⟨fp,_,h,_⟩:=a;exact h.length
end L2

namespace L2
open PySem PySem.Spec PyProof.Rows PySem.W
section
variable {X:Cx}{es:List Expr}{pos:Pos}{te:TE}{t:TA}
theorem zab {x:Str}(h:PE X (.Name x pos) te)(r:PA X es t):PA X (.Name x pos::es) (zek te t):=zbd h r rfl
theorem zao {c:Const}{k:Nat}(h:PE X (.Constant c k pos) te)(r:PA X es t):PA X (.Constant c k pos::es) (zek te t):=zbd h r rfl
theorem ziF {o:UnaryOp}{a:Expr}(h:PE X (.UnaryOp o a pos) te)(r:PA X es t):PA X (.UnaryOp o a pos::es) (zek te t):=zbd h r rfl
theorem zbn {a:Expr}{g:List Comprehension}{sc:Scope}(h:PE X (.ListComp a g sc pos) te)(r:PA X es t):PA X (.ListComp a g sc pos::es) (zek te t):=zbd h r rfl
theorem za3 {a b:Expr}(h:PE X (.Subscript a b pos) te)(r:PA X es t):PA X (.Subscript a b pos::es) (zek te t):=zbd h r rfl
theorem zcQ {a:List Expr}(h:PE X (.List a pos) te)(r:PA X es t):PA X (.List a pos::es) (zek te t):=zbd h r rfl
theorem ze4 {a:List Expr}{k:Nat}(h:PE X (.Tuple a k pos) te)(r:PA X es t):PA X (.Tuple a k pos::es) (zek te t):=zbd h r rfl
theorem zbt {a b:Expr}{o:Operator}(h:PE X (.BinOp a o b pos) te)(r:PA X es t):PA X (.BinOp a o b pos::es) (zek te t):=zbd h r rfl
theorem zaF {f:Expr}{a:List Expr}{k:List Keyword}(h:PE X (.Call f a k pos) te)(r:PA X es t):PA X (.Call f a k pos::es) (zek te t):=zbd h r rfl
theorem zbo {a:Expr}{x:Str}(h:PE X (.Attribute a x pos) te)(r:PA X es t):PA X (.Attribute a x pos::es) (zek te t):=zbd h r rfl
end
section
variable {X:Cx}{e a b:Expr}{es:List Expr}{pos:Pos}{te ta tb:TE}{t:TA}{r:R2}
end
section
variable {X:Cx}{e:Expr}{st:Stmt}{rest a b:List Stmt}{pos:Pos}{te:TE}{t u:TS}{tc:TT}
end
theorem zdV {t u:TS}{D:Ends}{σ:St}{H:Hp}(M:St->Hp->Prop)(h:∀ NX:St->Hp->Prop,(∀ σ H,M σ H->NX σ H)->t {D with nx:=NX} σ H)(tail:∀ σ H,M σ H->u D σ H):tSeq t u D σ H:=h _ tail
theorem zcA {c:TT}{t u:TS}{D:Ends}{σ:St}{H:Hp}(h:∀ Q:Bool->Hp->Prop,Q false H->c σ H Q)(k:u D σ H):tSeq (tIfS c t zmU) u D σ H:=h _ (iteF k)
theorem zhW {c:TT}{t e u:TS}{D:Ends}{σ:St}{H:Hp}(h:∀ Q:Bool->Hp->Prop,Q true H->c σ H Q)(k:∀ NX:St->Hp->Prop,t {D with nx:=NX} σ H):tSeq (tIfS c t e) u D σ H:=h _ (iteT (k _))
theorem zkW {a:Addr} : decide (V.ref a=V.non)=false:=decide_eq_false (by intro z;cases z)
theorem znz:decide (V.non=V.non)=true:=decide_eq_true rfl
theorem i_slL {K:Fg}{H:Hp}{Q:VK}{a:Addr}{xs:List V}{lo hi:Option Int}(h:SqL K H a xs)(q:∀ p,H p=none->Q (.ref p) (upd H p (.lst (cutV xs lo hi)))):rSl K (.ref a) lo hi H Q:=.inl ⟨a,xs,rfl,h,q⟩
theorem cut_take {xs:List V}{k:Nat}(h:k<=xs.length):cutV xs none (some (k:Int))=xs.take k:=by
 unfold cutV
 rw[HT.sIx_none,HT.sIx_nat,List.drop_zero,Nat.sub_zero,Nat.min_eq_left h]
theorem zlU {xs:List V}{k:Nat}(h:k<=xs.length):cutV xs (some (k:Int)) none=xs.drop k:=by
 unfold cutV
 rw[HT.sIx_none,HT.sIx_nat,Nat.min_eq_left h,List.take_of_length_le (by rw[List.length_drop];exact Nat.le_refl _)]
theorem Same.put {H0 H:Hp}{w:Addr}{o:HO}(s:Same H0 H)(h:H0 w=none):Same H0 (upd H w o):=λb u e=>by rw[zam (zau e h)];exact s _ _ e
theorem zkX {α:Type}{xs:List α}{k:Int}{x:α}(h0:0<=k)(h:xs[k.toNat]?=some x):atI xs k=some x:=by
 have:=zaJ (j:=k.toNat) h
 rwa [show ((k.toNat:Nat):Int)=k by omega] at this
def Ls (H:Hp)(ka:Addr)(ls:List (List Int)):Prop:=∃ as:List Addr,H ka=some (.lst (as.map V.ref))/\as.length=ls.length/\∀ (i:Nat) a l,as[i]?=some a->ls[i]?=some l->H a=some (.lst (l.map V.int))
theorem zlV {H:Hp}{a:Addr}{l:List Int}{as:List Addr}(h1:H a=some (.lst (l.map V.int)))(h2:H a=some (.lst (as.map V.ref))):l=[]:=by
 rw[h1] at h2
 cases l with
 | nil=>rfl
 | cons i l=>
  cases as with
  | nil=>simp at h2
  | cons b as=>simp at h2
theorem Ls.same {H H':Hp}{ka:Addr}{ls:List (List Int)}(e:Same H H')(h:Ls H ka ls):Ls H' ka ls:=by
 obtain⟨as,h1,h2,h3⟩:=h
 exact⟨as,e _ _ h1,h2,λi a l e1 e2=>e _ _ (h3 i a l e1 e2)⟩
theorem Ls.len {H:Hp}{ka:Addr}{ls:List (List Int)}(h:Ls H ka ls):∃ xs,H ka=some (.lst xs)/\xs.length=ls.length:=by
 obtain⟨as,h1,h2,h3⟩:=h
 exact⟨_,h1,by rw[zlm];exact h2⟩
theorem Ls.out {K:Fg}{H:Hp}{ka:Addr}{ls:List (List Int)}(h:Ls H ka ls):∃ xs,H ka=some (.lst xs)/\xs.length=ls.length/\Reps K H (ls.map nums) xs:=by
 obtain⟨as,h1,h2,h3⟩:=h
 refine⟨_,h1,by rw[zlm];exact h2,Reps.of (by simp[h2]) λi d v e1 e2=>?_⟩
 rw[zgm] at e1 e2
 obtain⟨l,hl,rfl⟩:=zme.mp e1
 obtain⟨a,ha,rfl⟩:=zme.mp e2
 exact za5.mpr ⟨a,rfl,SqL.of (h3 i a l ha hl)⟩
theorem Ls.rep {K:Fg}{H:Hp}{ka:Addr}{ls:List (List Int)}(h:Ls H ka ls):Rep K H (.lst (ls.map nums)) (.ref ka):=by
 obtain⟨xs,h1,_,h2⟩:=h.out (K:=K)
 unfold Rep
 exact⟨ka,xs,rfl,SqL.of h1,h2⟩
theorem Ls.item {H:Hp}{ka:Addr}{ls:List (List Int)}{xs:List V}{i:Nat}{x:V}(h:Ls H ka ls)(e:H ka=some (.lst xs))(hx:xs[i]?=some x):∃ a l,x=.ref a/\ls[i]?=some l/\H a=some (.lst (l.map V.int)):=by
 obtain⟨as,h1,h2,h3⟩:=h
 rw[h1] at e;cases e
 rw[zgm] at hx
 obtain⟨a,ha,rfl⟩:=zme.mp hx
 have hi:=(zge.mp ha).1
 refine⟨a,ls[i]'(by omega),rfl,by simp,h3 i a _ ha (by simp)⟩
theorem New.ls {H H':Hp}{ls:List (List Int)}{v:V}(h:New H H' (.lst (ls.map nums)) v):∃ ka,v=.ref ka/\H ka=none/\Ls H' ka ls:=by
 obtain⟨a,vs,fp,rfl,ha,h1,h2,_⟩:=New.lso h
 obtain⟨e1,e2,e3⟩:=zai.lines h2
 subst e1
 refine⟨a,rfl,ha,fp,h1,e2,λi b l q1 q2=>?_⟩
 obtain⟨l',z1,z2⟩:=e3 i b q1
 rw[q2] at z1;cases z1
 exact z2
theorem New.cat {H H1 H2:Hp}{a b p:Addr}{ds1 ds2:List D}{xs ys:List V}(n1:New H H1 (.lst ds1) (.ref a))(e1:Same H H1)(s:Same H1 H2)(n2:New H1 H2 (.lst ds2) (.ref b))(h1:H2 a=some (.lst xs))(h2:H2 b=some (.lst ys))(hp:H2 p=none):New H (upd H2 p (.lst (xs++ys))) (.lst (ds1++ds2)) (.ref p):=by
 obtain⟨a',vs,fp,ea,ha,g1,g2,g3,g4,g5⟩:=New.lso n1
 cases ea
 obtain⟨b',vs',fq,eb,hb,k1,k2,k3,k4,k5⟩:=New.lso n2
 cases eb
 have ev:xs=vs:=by rw[s _ _ g1] at h1;injection h1 with h1;injection h1 with h1;exact h1.symm
 have ev':ys=vs':=by rw[k1] at h2;injection h2 with h2;injection h2 with h2;exact h2.symm
 subst ev;subst ev'
 have sp:=zaf hp (.lst (xs++ys))
 have hf:∀ b∈fp,∃ o,H1 b=some o:=zai.has _ g2
 refine New.lst ((zai.sq (s.trans sp).sq _ g2).append (zai.sq sp.sq _ k2)) (List.nodup_append.mpr ⟨g3,k3,λx hx y hy z=>?_⟩) (λc hc=>?_) ((e1.trans s).free hp) (λm=>?_) zac
 ·subst z
  obtain⟨o,ho⟩:=hf x hx
  have:=k5 x hy
  rw[ho] at this;cases this
 ·rcases zma.mp hc with hc | hc
  ·exact g5 c hc
  ·exact e1.free (k5 c hc)
 ·rcases zma.mp m with m | m
  ·obtain⟨o,ho⟩:=hf p m
   rw[s _ _ ho] at hp;cases hp
  ·obtain⟨o,ho⟩:=zai.has _ k2 p m
   rw[ho] at hp;cases hp
theorem New.item {H H':Hp}{ds:List D}{a:Addr}{xs:List V}{i:Nat}{d:D}{x:V}(n:New H H' (.lst ds) (.ref a))(e:H' a=some (.lst xs))(hd:ds[i]?=some d)(hx:xs[i]?=some x):New H H' d x:=by
 obtain⟨a',vs,fp,ea,ha,g1,g2,g3,g4,g5⟩:=New.lso n
 cases ea
 rw[g1] at e;cases e
 obtain⟨f1,f2,rfl,r1,r2⟩:=zai.cut i g2
 have hi:=(zge.mp hd).1
 have hj:=(zge.mp hx).1
 rw[List.drop_eq_getElem_cons hi,List.drop_eq_getElem_cons hj] at r2
 unfold zai at r2
 obtain⟨v,r,f,g,e1,rfl,q1,q2⟩:=r2
 cases e1
 rw[List.getElem?_eq_getElem hi] at hd;cases hd
 rw[List.getElem?_eq_getElem hj] at hx;cases hx
 have n2:=(List.nodup_append.mp g3).2.1
 exact⟨f,q1,(List.nodup_append.mp n2).1,λb hb=>g5 b (List.mem_append_right _ (List.mem_append_left _ hb))⟩
theorem New.pairT {H H1:Hp}{w:Int}{ws:List Int}{a t:Addr}(n:New H H1 (nums ws) (.ref a))(ht:H1 t=none):New H (upd H1 t (.tup [.int w,.ref a])) (.tup [.int w,nums ws]) (.ref t):=by
 obtain⟨a',e,h1,h2⟩:=New.iif.mp n
 cases e
 have s:=zaf ht (.tup [.int w,.ref a])
 refine New.tup (fp:=[a]) (zai.cint (zai.cany (f:=[a]) (fp:=[]) (RepF.line (s _ _ h2)) zai.nil)) (by simp) (λb hb=>?_) zac
 rw[zms.mp hb];exact h1
section
variable {H0 H:Hp}{ga ka wa:Addr}{goal:List Int}{known:List (List Int)}{ws:List Int}{m n:Nat}
end
end L2

namespace L2
open PySem PySem.Spec PyProof.Rows PySem.W
theorem znA {J:It}{H1:Hp}{n:Nat}{P:Nat->V->Hp->Prop}{g:TG}{te:TE}{σ0:St}{Q:VK}(wk:Goes J H1 n P)(ls:List (List Int))(hn:ls.length=n)(hz:n<=sizeLine)(h9:∀ l∈ls,l.length=9)
  (step:∀ i x l H' (R:VK),i<n->ls[i]?=some l->Same H1 H'->P i x H'->(∀ a H3,Same H' H3->H3 a=some (.lst (l.map V.int))->R (.ref a) H3)->g x σ0 H' λσ2 H2=>te σ2 H2 R)
  (fin:∀ a H',Same H1 H'->H1 a=none->Ls H' a ls->Q (.ref a) H'):zjc J g zne te σ0 H1 Q:=by
 intro Da hD
 refine⟨λi m ys H=>m=n - i/\i<=n/\Same H1 H/\H Da=some (.lst ys)/\Ls H Da (ls.take i),⟨n,rfl,Nat.zero_le _,zaf hD _,zac,[],zac,rfl,λi a l e _=>by simp at e⟩,?_⟩
 rintro i m ys H ⟨rfl,hi,hs,hH,hL⟩
 refine⟨hH,?_⟩
 obtain⟨as,h1,h2,h3⟩:=hL
 have ey:ys=as.map V.ref:=by rw[hH] at h1;injection h1 with h1;injection h1
 subst ey
 rw[List.length_take] at h2
 by_cases hlt:i<n
 ·refine .inr ⟨wk.go i H hlt hs,by rw[zlm];omega,λys' H'=>(n - (i+1)<n - i/\i+1<=n/\Same H1 H'/\H' Da=some (.lst ys')/\Ls H' Da (ls.take (i+1))),λys' H' ⟨q1,q2,q3,q4,q5⟩=>⟨n - (i+1),q1,rfl,q2,q3,q4,q5⟩,λx H' hy=>?_⟩
  obtain⟨s1,hp⟩:=wk.yld i H x H' hlt hs hy
  have hi':i<ls.length:=by omega
  refine step i x ls[i] H' _ hlt (by simp) (hs.trans s1) hp λa H3 s3 ha=>?_
  have hD3:H3 Da=some (.lst (as.map V.ref)):=s3 _ _ (s1 _ _ hH)
  refine⟨hD3,by omega,hlt,λb o e=>?_,zac,as++[a],by rw[zac,List.map_append];rfl,by rw[List.length_append,List.length_take];simp;omega,λj b l e1 e2=>?_⟩
  ·rw[zam (zau e hD)]
   exact s3 _ _ (s1 _ _ (hs _ _ e))
  ·have key:H3 b=some (.lst (l.map V.int))/\l.length=9:=by
    refine⟨?_,h9 l (List.mem_of_mem_take (zmg e2))⟩
    rw[List.getElem?_append] at e1
    split at e1
    ·rename_i hj
     have hji:j<i:=by omega
     refine s3 _ _ (s1 _ _ (h3 j b l e1 ?_))
     rw[List.getElem?_take] at e2 ⊢
     rw[if_pos (by omega)] at e2
     rw[if_pos hji];exact e2
    ·rename_i hj
     have hj0:j - as.length=0:=by
      have:=(zge.mp e1).1
      simp at this;omega
     have hji:j=i:=by omega
     rw[hj0] at e1
     simp at e1
     subst e1
     rw[List.getElem?_take,if_pos (by omega),hji,List.getElem?_eq_getElem hi'] at e2
     cases e2
     exact ha
   rw[zam (λz=>by
    have q:=key.1
    rw[z] at q
    have:=zlV q hD3
    rw[this] at key;exact absurd key.2 (by decide))]
   exact key.1
 ·have e:i=n:=by omega
  subst e
  refine .inl ⟨wk.stop H hs,fin _ _ hs hD ⟨as,hH,by omega,λj a l e1 e2=>h3 j a l e1 ?_⟩⟩
  rw[List.take_of_length_le (by omega)];exact e2
theorem hr_u {k:Nat}{A:Around}(hr:Room k A):A.units+1<cLine:=by have:=hr.units;omega
section
variable {σ:St}{H:Hp}{Q:VK}{td ty tx tv:TE}{D:Ends}
theorem znB (h:td σ H λx H1=>∃ a,x=.ref a/\IsD H1 a/\ty σ H1 λy H2=>tx σ H2 λz H3=>∃ o,DGet H3 a y o/\Q (o.getD z) H3):zmy td ty tx σ H Q:=h
theorem zpc (h:td σ H λx H1=>ty σ H1 λy H2=>∃ a v,x=.ref a/\DGet H2 a y (some v)/\Q v H2):zoz td ty σ H Q:=h
theorem i_din (h:ty σ H λy H1=>td σ H1 λx H2=>∃ a o,x=.ref a/\DGet H2 a y o/\Q (.bl o.isSome) H2):tDIn ty td σ H Q:=h
theorem zlW (h:ty σ H λy H1=>td σ H1 λx H2=>∃ a o,x=.ref a/\DGet H2 a y o/\Q (.bl (!o.isSome)) H2):zkz ty td σ H Q:=h
theorem zpd (h:tv σ H λv H1=>td σ H1 λx H2=>ty σ H2 λy H3=>∃ a H4,x=.ref a/\DPut H3 a y v H4/\D.nx σ H4):zoA td ty tv D σ H:=h
theorem zgL {trs:List (TE × TE)}(h:∀ p,H p=none->zfz trs σ (upd H p (.dK [])) λps H2=>H2 p=some (.dK [])/\∃ kvs:List (Key × V),ps=kvs.map (λkv=>(kV kv.1,kv.2))/\kvs.length<=15/\Q (.ref p) (upd H2 p (.dK (zbB [] kvs)))):zoB trs σ H Q:=h
theorem zlX {R:List (V × V)->Hp->Prop}(h:R [] H):zfz [] σ H R:=h
theorem znC {tk:TE}{r:List (TE × TE)}{R:List (V × V)->Hp->Prop}(h:tk σ H λx H1=>tv σ H1 λy H2=>zfz r σ H2 λps H3=>R ((x,y)::ps) H3):zfz ((tk,tv)::r) σ H R:=h
end
end L2
namespace L2
open PySem PySem.Spec PyProof.Rows PySem.W
theorem Ls.more {H:Hp}{na p:Addr}{ls ms:List (List Int)}{xs:List V}{bs:List Addr}(h:Ls H na ls)(e:H na=some (.lst xs))(hl:bs.length=ms.length)(hb:∀ (i:Nat) a l,bs[i]?=some a->ms[i]?=some l->H a=some (.lst (l.map V.int)))(hp:H p=none):Ls (L2.upd H p (.lst (xs++bs.map V.ref))) p (ls++ms):=by
 obtain⟨as,h1,h2,h3⟩:=h
 rw[h1] at e;cases e
 refine⟨as++bs,by rw[zac,List.map_append],by simp[h2,hl],λi a l e1 e2=>zaf hp _ _ _ ?_⟩
 rw[List.getElem?_append] at e1 e2
 rw[<-h2] at e2
 split at e1
 ·rename_i z;rw[if_pos z] at e2;exact h3 i a l e1 e2
 ·rename_i z;rw[if_neg z] at e2;exact hb _ a l e1 e2
theorem zfk {H:Hp}{a:Addr}{l:List Int}(h:H a=some (.lst (l.map V.int))):∀ (i:Nat) b m,[a][i]?=some b->[l][i]?=some m->H b=some (.lst (m.map V.int)):=λi b m e1 e2=>by
 cases i with
 | zero=>simp at e1 e2;subst e1;subst e2;exact h
 | succ i=>simp at e1
theorem zcB {H:Hp}{a c:Addr}{l k:List Int}(h:H a=some (.lst (l.map V.int)))(h':H c=some (.lst (k.map V.int))):∀ (i:Nat) b m,[a,c][i]?=some b->[l,k][i]?=some m->H b=some (.lst (m.map V.int)):=λi b m e1 e2=>by
 cases i with
 | zero=>simp at e1 e2;subst e1;subst e2;exact h
 | succ i=>
  cases i with
  | zero=>simp at e1 e2;subst e1;subst e2;exact h'
  | succ i=>simp at e1
theorem zc3 {K:Fg}{H:Hp}{a:Addr}{bs:List Addr}{ms:List (List Int)}(e:H a=some (.lst (bs.map V.ref)))(hl:bs.length=ms.length)(hb:∀ (i:Nat) b l,bs[i]?=some b->ms[i]?=some l->H b=some (.lst (l.map V.int))):Rep K H (.lst (ms.map nums)) (.ref a):=(show Ls H a ms from ⟨bs,e,hl,hb⟩).rep
end L2

namespace L2
open PySem PySem.Spec PyProof.Rows PySem.W
def tFs (te:TE):TE:=λσ H Q=>te σ H λx H1=>∃ i:Int,x=.int i/\i.natAbs<zbb/\∀ z,Q (.str z) H1
section
variable {X:Cx}{e:Expr}{te:TE}{a b:Str}{k1 k2:Nat}{p1 p2 p3 pos:Pos}
theorem zpe (he:PE X e te)(ha:a.length<=400)(hb:b.length<=400):PE X (.JoinedStr [.Constant (.str a) k1 p1,.FormattedValue e (-1) none p2,.Constant (.str b) k2 p3] pos) (tFs te):=by
 intro pins s σ H Q I h
 have e0:(Str.empty++a).length=a.length:=by rw[strLen_append];show 0+a.length=_;omega
 refine PySem.wpAny_JoinedStr ?_
 show Joins _ _ _ [eval (.Constant (.str a) k1 p1) X.env,eval (.FormattedValue e (-1) none p2) X.env,eval (.Constant (.str b) k2 p3) X.env] _ _ _
 refine Calls.Constant_str ⟨a,_,rfl,by rw[e0];exact zaj (by omega),?_⟩
 refine PySem.wpAny_FormattedValue_plain (thn (he pins _ σ H _ (I.tok _) h) λv s1 ⟨x,H1,I1,rx,i,ex,hi,q⟩=>?_)
 subst ex
 obtain⟨t,rfl⟩:=rx
 have l2:=zfK hi
 have e1:((Str.empty++a)++Str.ofString (toString i)).length=a.length+(Str.ofString (toString i)).length:=by rw[strLen_append,e0]
 have e2:(((Str.empty++a)++Str.ofString (toString i))++b).length=a.length+(Str.ofString (toString i)).length+b.length:=by rw[strLen_append,e1]
 refine PySem.wpAny_formatField_int (zhV hi) ⟨_,_,rfl,by rw[show ((Str.empty++a)++_).length=_ from e1];exact zaj (by omega),?_⟩
 refine Calls.Constant_str ⟨b,_,rfl,by rw[show (((Str.empty++a)++_)++b).length=_ from e2];exact zaj (by omega),?_⟩
 exact⟨by rw[show (((Str.empty++a)++_)++b).length=_ from e2];exact zaj (by omega),.str _,H1,(((I1.tok _).tok _).tok _).tok _,⟨_,rfl⟩,q _⟩
theorem i_fs {σ:St}{H:Hp}{Q:VK}(h:te σ H λx H1=>∃ i:Int,x=.int i/\i.natAbs<zbb/\∀ z,Q (.str z) H1):tFs te σ H Q:=h
end
theorem zmJ {P:Program}{w:World}{X:Cx} : zdl (CX1 P w) X E0:=λ_ _ _ _ _ _ _ h=>by
 obtain⟨_,_,_,_,_,_,_,_,_,h⟩:=h
 exact h.elim
theorem znD {sp:Sp}{t:TA}{E:XK}{σ:St}{H:Hp}{Q:VK}(h:t σ H λvs H1=>sp vs H1 Q E):zhz sp [] E t σ H Q:=by
 have e:(λ(vs:List V) (H1:Hp)=>sp (vs++[]) H1 Q E)=λvs H1=>sp vs H1 Q E:=by funext vs H1;rw[List.append_nil]
 show t σ H λvs H1=>sp (vs++[]) H1 Q E
 rw[e];exact h
theorem znE {C:Value}{E:XK}{t:TA}{D:Ends}{σ:St}{H:Hp}(h:t σ H λvs H1=>vs.length<=sizeLine/\E C none H1):zmI C E t D σ H:=h
end L2
namespace L2
open PySem PySem.Spec PyProof.Rows PySem.W
theorem Acc.ext {H H2 H3:Hp}{da b:Addr}{ds ds2:List D}{vs zs:List V}(a:Acc H da H2 ds vs)(f:Free H H2)(s:Same H2 H3)(n:New H2 H3 (.lst ds2) (.ref b))(hb:H3 b=some (.lst zs)):Acc H da (upd H3 da (.lst (vs++zs))) (ds++ds2) (vs++zs):=by
 obtain⟨fp,h1,h2,h3,h4,h5⟩:=a
 obtain⟨b',zs',fq,e,b0,g1,g2,g3,g4,g5⟩:=New.lso n
 cases e
 have ez:zs'=zs:=by rw[g1] at hb;injection hb with hb;injection hb
 subst ez
 have hd3:=s _ _ h1
 have tk:=zg0 (o:=.lst (vs++zs')) hd3
 have ndq:da∉fq:=λm=>by have:=g5 da m;rw[h1] at this;cases this
 have k1:∀ c∈fp,(upd H3 da (.lst (vs++zs'))) c=H2 c:=λc hc=>by
  obtain⟨o,ho⟩:=zai.has ds h2 c hc
  rw[zam (show c≠da from λz=>h4 (by rw[<-z];exact hc)),ho]
  exact s _ _ ho
 have k2:∀ c∈fq,(upd H3 da (.lst (vs++zs'))) c=H3 c:=λc hc=>by rw[zam (show c≠da from λz=>ndq (by rw[<-z];exact hc))]
 refine⟨fp++fq,zac,(zai.frame (s.tups.trans tk) ds k1 h2).append (zai.frame tk ds2 k2 g2),List.nodup_append.mpr ⟨h3,g3,λx hx y hy z=>?_⟩,λm=>(zma.mp m).elim h4 ndq,λc m=>?_⟩
 ·subst z
  obtain⟨o,ho⟩:=zai.has ds h2 x hx
  have:=g5 x hy
  rw[ho] at this;cases this
 ·rcases zma.mp m with m | m
  ·exact h5 c m
  ·exact f c (g5 c m)
end L2
namespace L2
open PySem PySem.Spec PyProof.Rows PySem.W
theorem i_try {tb:XK->TS}{th:Value->Addr->TS}{D:Ends}{σ:St}{H:Hp}(h:tb (λC _ H'=>∀ a,th C a D σ H') D σ H):tTry tb th D σ H:=h
end L2

namespace L2
open PySem PySem.Spec PyProof.Rows PySem.W PySem.Calls
theorem ziG:∀ {ns:List Int}{us:List Value},ns.length=us.length->(∀ (j:Nat) (u:Value),us[j]?=some u->∃ (i:Int) (t:Tok),ns[j]?=some i/\u=Value.int i t)->Vals (ns.map V.int) us
 | [],[],_,_=>.nil
 | [],_::_,e,_=>by simp at e
 | _::_,[],e,_=>by simp at e
 | n::ns,u::us,e,h=>by
  obtain⟨i,t,e1,e2⟩:=h 0 u rfl
  have e1:n=i:=by simpa using e1
  subst e1
  exact .cons ⟨t,e2⟩ (ziG (by simpa using e) λj v hv=>by
   obtain⟨i,t,q1,q2⟩:=h (j+1) v (by simpa using hv)
   exact⟨i,t,by simpa using q1,q2⟩)
def zmK:List V->Hp->VK->Prop:=λxs H Q=>∃ (a:Addr) (kvs:List (Key × V)) (ns:List Int),xs=[.ref a]/\H a=some (.dK kvs)/\kvs.map (·.1)=ns.map Sum.inl/\ns.length<64/\∀ (l:Addr) (ns':List Int),H l=none->ns'.Perm ns->ns'.Pairwise (·<=·)->Q (.ref l) (upd H l (.lst (ns'.map V.int)))
theorem zci {X:Cx}(hc:X.calm=true):zb2 X (.builtin "sorted") zmK:=by
 intro pins s σ H xs us Q I r h
 obtain⟨a,kvs,ns,rfl,ha,hk,h64,q⟩:=h
 obtain⟨u,rfl,rx⟩:=zfq r
 cases rx
 obtain⟨z,hd,vs,rel,dd⟩:=zix I.hok ha
 obtain⟨ep,hat⟩:=dd.dictAt
 have hl:=rel.length
 have lk:kvs.length=ns.length:=by
  have:=congrArg List.length hk
  simpa using this
 refine call_function_entry kind_sorted plain_sorted entry_sorted (args_sorted1 _) ?_
 unfold Builtin.«sorted»
 refine wpAny_bind (m:=checkCount "sorted" 1 1 _) (wpAny_pure ?_)
 refine wpAny_bind (kdu_collect (A:=X.A.in1) (kdl_dict (knd:=za2 X.prog X.w) (kvs:=vs) (ep:=ep) hd) (show X.A.in1.handled=none from I.ok.hd hc) hat (by rw[<-hl];exact z) λh' tk acc hk' hacc=>?_)
 have hla:acc.toList.length=vs.length:=by rw[Array.length_toList];exact hacc.1
 have vl:Vals (ns.map V.int) acc.toList:=ziG (by omega) λj u hu=>by
  obtain⟨k,x,hx,hk2⟩:=hacc.2 j u (by rw[<-Array.getElem?_toList];exact hu)
  have e:(vs.map (·.1))[j]?=some k:=by rw[zgm,hx];rfl
  rw[<-rel.keys,hk,zgm] at e
  obtain⟨i,hi,rfl⟩:=zme.mp e
  rcases za1 (show zhu (Sum.inl i) u=true from hk2) with ⟨i',t,e,rfl⟩ | ⟨x',t,e,rfl⟩
  ·cases e;exact⟨i,t,hi,rfl⟩
  ·cases e
 refine wpAny_bind (wpAny_newList ?_ (by rw[hla,<-hl];exact z))
 have hoL:(h'.push {cls:=.type "list",data:=.seq acc.toList.toArray}).get? h'.objs.size=some (seqObj "list" acc.toList.toArray 0):=Heap.get?_push_size _ rfl
 have I1:Inv X pins σ H {s with heap:=h',toks:=tk}:=I.kept hk'
 refine wpAny_bind (wpAny_holding (wpAny_call_entry slot_list_sort ⟨_,hoL,rfl⟩ entry_list_sort (list_sort_tree hoL (zgE vl) (by omega) λout ns' a1 a2 a3=>⟨_,rfl,?_⟩) (args_list_sort _)))
 refine wpAny_pure ⟨_,rfl,?_⟩
 obtain⟨e,he⟩:=sortedHeap_at (out:=out) hoL
 have zn:(ns'.map V.int).length<=sizeLine:=by rw[zlm,a2.length_eq];exact zaj (by omega)
 refine⟨.ref h'.objs.size,_,I1.laid (a:=h'.objs.size) (t':=tk) (λb u hu=>?_) (Nat.le_refl _) (show zbv X.prog X.w _ _ _ (.lst (ns'.map V.int)) from ⟨zn,out.toList,e,zeo a1,by rw[Array.toArray_toList];exact he⟩),rfl,q _ _ I1.fresh a2 a3⟩
 have hu:h'.get? b=some u:=hu
 have hlt:=Heap.lt_size hu
 show (sortedHeap (h'.push {cls:=.type "list",data:=.seq acc.toList.toArray}) h'.objs.size acc.toList out).get? b=some u
 rw[sortedHeap_old (Nat.ne_of_lt hlt) (by rw[size_push'];exact Nat.lt_succ_of_lt hlt)]
 exact Heap.get?_push_of_some _ hu
def zmL:List V->Hp->VK->Prop:=λxs H Q=>∃ (a:Addr) (kvs:List (Key × V)) (ns:List Int),xs=[.ref a]/\H a=some (.dK kvs)/\kvs.map (·.1)=ns.map Sum.inl/\∀ (l:Addr),H l=none->Q (.ref l) (upd H l (.lst (ns.map V.int)))
theorem zjM {X:Cx}(hc:X.calm=true):zb2 X (.type "list") zmL:=by
 intro pins s σ H xs us Q I r h
 obtain⟨a,kvs,ns,rfl,ha,hk,q⟩:=h
 obtain⟨u,rfl,rx⟩:=zfq r
 cases rx
 obtain⟨z,hd,vs,rel,dd⟩:=zix I.hok ha
 obtain⟨ep,hat⟩:=dd.dictAt
 have hl:=rel.length
 have lk:kvs.length=ns.length:=by
  have:=congrArg List.length hk
  simpa using this
 refine kdl_call (kdl_dict (knd:=za2 X.prog X.w) (kvs:=vs) (ep:=ep) hd) (I.ok.hd hc) hat (by rw[<-hl];exact z) λh' tk acc c' hk' hS' hacc=>?_
 have hla:acc.toList.length=vs.length:=by rw[Array.length_toList];exact hacc.1
 have vl:Vals (ns.map V.int) acc.toList:=ziG (by omega) λj u hu=>by
  obtain⟨k,x,hx,hk2⟩:=hacc.2 j u (by rw[<-Array.getElem?_toList];exact hu)
  have e:(vs.map (·.1))[j]?=some k:=by rw[zgm,hx];rfl
  rw[<-rel.keys,hk,zgm] at e
  obtain⟨i,hi,rfl⟩:=zme.mp e
  rcases za1 (show zhu (Sum.inl i) u=true from hk2) with ⟨i',t,e,rfl⟩ | ⟨x',t,e,rfl⟩
  ·cases e;exact⟨i,t,hi,rfl⟩
  ·cases e
 exact⟨.ref s.heap.objs.size,_,I.laid (t':=tk) hk' (Nat.le_refl _) (show zbv X.prog X.w _ _ _ (.lst (ns.map V.int)) from ⟨by rw[zlm];omega,acc.toList,c',vl,by rw[Array.toArray_toList];exact hS'⟩),rfl,q _ I.fresh⟩
theorem znF {H:Hp}{Q:VK}{a:Addr}{kvs:List (Key × V)}{ns:List Int}(h:H a=some (.dK kvs))(e:kvs.map (·.1)=ns.map Sum.inl)(q:∀ (l:Addr),H l=none->Q (.ref l) (upd H l (.lst (ns.map V.int)))):zmL [.ref a] H Q:=⟨a,kvs,ns,rfl,h,e,q⟩
theorem zbK:bootBuiltins "sorted"=some (.builtin "sorted"):=by decide +kernel
theorem znG {H:Hp}{Q:VK}{a:Addr}{kvs:List (Key × V)}{ns:List Int}(h:H a=some (.dK kvs))(e:kvs.map (·.1)=ns.map Sum.inl)(l:ns.length<64)(q:∀ (l:Addr) (ns':List Int),H l=none->ns'.Perm ns->ns'.Pairwise (·<=·)->Q (.ref l) (upd H l (.lst (ns'.map V.int)))):zmK [.ref a] H Q:=⟨a,kvs,ns,rfl,h,e,l,q⟩
theorem zfL:∀ {a b:List Int},a.Perm b->a.Pairwise (·<=·)->b.Pairwise (·<=·)->a=b
 | [],b,p,_,_=>by rw[List.nil_perm.mp p]
 | x::a,[],p,_,_=>by have:=p.length_eq;simp at this
 | x::a,y::b,p,h1,h2=>by
  have e:x=y:=by
   have m1:x∈y::b:=p.mem_iff.mp List.mem_cons_self
   have m2:y∈x::a:=p.mem_iff.mpr List.mem_cons_self
   rcases List.mem_cons.mp m1 with z | z
   ·exact z
   rcases List.mem_cons.mp m2 with w | w
   ·exact w.symm
   have u1:=(List.pairwise_cons.mp h2).1 x z
   have u2:=(List.pairwise_cons.mp h1).1 y w
   omega
  subst e
  rw[zfL (List.perm_cons x |>.mp p) (List.pairwise_cons.mp h1).2 (List.pairwise_cons.mp h2).2]
theorem zpf {σ:St}{H:Hp}{Q:VK}{td ty:TE}(h:td σ H λx H1=>∃ a,x=.ref a/\IsD H1 a/\ty σ H1 λy H2=>∃ kvs k v,H2 a=some (.dK kvs)/\y=kV k/\valV kvs k=some v/\Q v (upd H2 a (.dK (zbI kvs k)))):zmz td ty σ H Q:=h
theorem zpg {σ:St}{H:Hp}{Q:VK}(h:∀ p,H p=none->Q (.ref p) (upd H p (.dK []))):zmx σ H Q:=h
theorem zhX {κ:Type}[DecidableEq κ](k j:κ):∀ kvs:List (κ × V),valV (zbI kvs k) j=if j=k then none else valV kvs j
 | []=>by simp[zbI,valV]
 | p::r=>by
  have ih:=zhX k j r
  by_cases e:p.1=k
  ·rw[zkG e,ih]
   by_cases z:j=k
   ·rw[if_pos z,if_pos z]
   ·rw[if_neg z,if_neg z,zbp (λw=>z (w.symm.trans e))]
  ·rw[zkH e]
   by_cases w:p.1=j
   ·rw[zbw w,zbw w,if_neg (λz=>e (w.trans z))]
   ·rw[zbp w,zbp w,ih]
section
variable {X:Cx}{e:Expr}{te:TE}{a:Str}{k1:Nat}{p1 p2 pos:Pos}
theorem zph (he:PE X e te)(ha:a.length<=400):PE X (.JoinedStr [.Constant (.str a) k1 p1,.FormattedValue e (-1) none p2] pos) (tFs te):=by
 intro pins s σ H Q I h
 have e0:(Str.empty++a).length=a.length:=by rw[strLen_append];show 0+a.length=_;omega
 refine PySem.wpAny_JoinedStr ?_
 show Joins _ _ _ [eval (.Constant (.str a) k1 p1) X.env,eval (.FormattedValue e (-1) none p2) X.env] _ _ _
 refine Calls.Constant_str ⟨a,_,rfl,by rw[e0];exact zaj (by omega),?_⟩
 refine PySem.wpAny_FormattedValue_plain (thn (he pins _ σ H _ (I.tok _) h) λv s1 ⟨x,H1,I1,rx,i,ex,hi,q⟩=>?_)
 subst ex
 obtain⟨t,rfl⟩:=rx
 have l2:=zfK hi
 have e1:((Str.empty++a)++Str.ofString (toString i)).length=a.length+(Str.ofString (toString i)).length:=by rw[strLen_append,e0]
 refine PySem.wpAny_formatField_int (zhV hi) ⟨_,_,rfl,by rw[show ((Str.empty++a)++_).length=_ from e1];exact zaj (by omega),?_⟩
 exact⟨by rw[show ((Str.empty++a)++_).length=_ from e1];exact zaj (by omega),.str _,H1,((I1.tok _).tok _).tok _,⟨_,rfl⟩,q _⟩
end
section
variable {X:Cx}{k j:Nat}{C:Addr}{ps:List Str}{sp:Sp}{x:Str}{p pos:Pos}
theorem zpi (G:Mkr X.prog X.w X.K X.mg X.base x C ps j sp)(hr:Room k X.A)(hg:Gl X x)(hj:j+1<=k:=by decide)(hdb:(x == ("__debug__" : Str))=false:=by decide):PE X (.Call (.Name x p) [] [] pos) (zkp C sp [] E0 tNil):=by
 obtain⟨f,fd,M,F,hb,hm⟩:=G.ex
 exact zlA M F (hr.mono hj) hg hm hb .nil zdQ hdb
end
theorem zpj {C:Addr}{m:Str}{sp:Sp}{E:XK}{ta:TE}{t:TA}{σ:St}{H:Hp}{Q:VK}(h:ta σ H λx H1=>MethI C m x H1 (t σ H1 λvs H2=>sp (x::vs) H2 Q E)):zlz C m sp [] E ta t σ H Q:=by
 have e:(λ(x:V) (vs:List V) (H2:Hp)=>sp (x::(vs++[])) H2 Q E)=λx vs H2=>sp (x::vs) H2 Q E:=by funext x vs H2;rw[List.append_nil]
 show ta σ H λx H1=>MethI C m x H1 (t σ H1 λvs H2=>(λ(x:V) (vs:List V) (H2:Hp)=>sp (x::(vs++[])) H2 Q E) x vs H2)
 rw[e];exact h
theorem znH {σ:St}{H:Hp}{Q:VK}{td ty tx:TE}(h:td σ H λx H1=>∃ a,x=.ref a/\IsD H1 a/\ty σ H1 λy H2=>tx σ H2 λz H3=>∃ kvs k,H3 a=some (.dK kvs)/\y=kV k/\(∀ v,valV kvs k=some v->Q v (upd H3 a (.dK (zbI kvs k))))/\(valV kvs k=none->Q z H3)):zmA td ty tx σ H Q:=h
end L2

namespace L2
open PySem PySem.Spec PyProof.Rows PySem.SeqAt
theorem ndS {N:List Str}(h:N.Nodup:=by decide +kernel):N.Nodup:=h
theorem COk.m {sc0:Scope}{N:List Str}{scope:Scope}{N':List Str}{ms:List Bool}(kind:scope.kind=.function:=by rfl)(nocell:∀ y∈scope.names,y.2≠.cell:=by decide +kernel)
  (nm:∀ y∈scope.names,y.2=.local->scope.names.lookup y.1=some .local:=by decide +kernel) (fr:∀ y∈scope.names,y.2=.free->sc0.names.lookup y.1=some .cell\/sc0.names.lookup y.1=some .free:=by decide +kernel)
  (len:ms.length=N'.length:=by rfl) (sl:zfE N scope N' ms (N.map some)=true:=by decide +kernel):COk sc0 N scope N' ms:=COk.mk' kind nocell nm fr len sl
section
variable {X:Cx}{k:Nat}{pins:List (Addr × Obj)}{σ:St}{H:Hp}{s:Shared}
end
def tTru (K:Fg)(ta:TE):TT:=λσ H Q=>ta σ H λx H'=>∃ k,TruV K x H' k/\Q k H'
theorem k_tru {X:Cx}{a:Expr}{ta:TE}(K:Fg)(ha:PE X a ta)(hK:X.K=K:=by rfl)(he:∀ whole,isTrue a X.env whole=(do let v <-whole;standAt a.pos;holding [v] (truthy v)):=by intro _;rfl):PT X a (tTru K ta):=by subst hK;exact zlw ha he
theorem i_tru {K:Fg}{ta:TE}{σ:St}{H:Hp}{Q:Bool->Hp->Prop}(h:ta σ H λx H'=>∃ k,TruV K x H' k/\Q k H'):tTru K ta σ H Q:=h
theorem zpk {K:Fg}{H:Hp}{P:Bool->Prop}{a:Addr}{xs:List V}(h:SqL K H a xs)(q:P (!xs.isEmpty)):∃ k,TruV K (.ref a) H k/\P k:=⟨_,.inl ⟨xs,h,rfl⟩,q⟩
theorem i_pop {H:Hp}{Q:VK}{a:Addr}{xs:List V}{y:V}(h:H a=some (.lst xs))(e:xs[xs.length - 1]?=some y)(q:Q y (upd H a (.lst xs.dropLast))):rPop (.ref a) [] H Q:=⟨a,xs,y,rfl,rfl,h,e,q⟩
mutual
theorem RepF.hasL {H:Hp} : ∀ (d:D) {v:V}{fp:List Addr},RepF H d v fp->∀ a∈fp,∃ xs,H a=some (.lst xs)
 | .non,_,_,h,a,m=>by unfold RepF at h;rw[h.2] at m;cases m
 | .bl _,_,_,h,a,m=>by unfold RepF at h;rw[h.2] at m;cases m
 | .int _,_,_,h,a,m=>by unfold RepF at h;rw[h.2] at m;cases m
 | .str _,_,_,h,a,m=>by unfold RepF at h;rw[h.2] at m;cases m
 | .lst ds,_,_,h,b,m=>by
  unfold RepF at h
  obtain⟨a,xs,r,h1,h0,h2,h3⟩:=h
  subst h0
  rcases List.mem_cons.mp m with rfl | m
  ·exact⟨_,h2⟩
  ·exact zai.hasL ds h3 b m
 | .tup ds,_,_,h,b,m=>by
  unfold RepF at h
  obtain⟨a,xs,h1,h2,h3⟩:=h
  exact zai.hasL ds h3 b m
theorem zai.hasL {H:Hp} : ∀ (ds:List D) {vs:List V}{fp:List Addr},zai H ds vs fp->∀ a∈fp,∃ xs,H a=some (.lst xs)
 | [],_,_,h,a,m=>by unfold zai at h;rw[h.2] at m;cases m
 | d::ds,_,_,h,b,m=>by
  unfold zai at h
  obtain⟨v,r,f,g,h1,h0,h2,h3⟩:=h
  subst h0
  rcases zma.mp m with m | m
  ·exact RepF.hasL d h2 b m
  ·exact zai.hasL ds h3 b m
end
end L2

namespace L2
open PySem PySem.Spec PySem.Calls PyProof.Rows PySem.W
structure Kn (u:TS)(D:Ends)(NX:St->Hp->Prop):Prop where
 on:∀ σ H,u D σ H->NX σ H
theorem zmM {t u:TS}{D:Ends}{σ:St}{H:Hp}(h:∀ NX:St->Hp->Prop,Kn u D NX->t {D with nx:=NX} σ H):tSeq t u D σ H:=h _ ⟨λ_ _ q=>q⟩
theorem goOn {u:TS}{D:Ends}{NX:St->Hp->Prop}{σ:St}{H:Hp}(k:Kn u D NX)(h:u D σ H):NX σ H:=k.on _ _ h
theorem i_ifK {c:TT}{t u:TS}{D:Ends}{σ:St}{H:Hp}(h:∀ T:St->Hp->Prop,Kn t D T->∀ U:St->Hp->Prop,Kn u D U->c σ H λb H1=>if b=true then T σ H1 else U σ H1):tIfS c t u D σ H:=h _ ⟨λ_ _ q=>q⟩ _ ⟨λ_ _ q=>q⟩
end L2

namespace L2
open PySem PySem.Spec PySem.Calls PyProof.Rows PySem.W
theorem zpl {K:Fg}{a:Addr}{n q:Str}{ps:Arguments}{b:List Stmt}{sc:Scope}(h:zaP K a=some (zmR n q ps b sc))(hc:zal K a q=true) :
  ∃ oc od sl kV dc pm an cd ct,K.lookup a=some ⟨oc,od,.func (fnOf n q ps b sc .none kV dc pm an cd ct),sl⟩/\codeIn K cd q=true/\keepIn K (.ref a)=true:=by
 unfold zaP at h
 unfold zal at hc
 split at h
 ·rename_i oc od f sl e
  rw[e] at hc
  simp only[Bool.and_eq_true] at hc
  obtain⟨c1,c2⟩:=hc
  obtain⟨f1,f2,f3,f4,f5,f6,f7,f8,f9,f10,f11,f12,f13,f14,f15⟩:=f
  have h:=Option.some.inj h
  unfold zmR at h
  simp only[Prod.mk.injEq] at h
  obtain⟨rfl,rfl,rfl,rfl,rfl,rfl,rfl,rfl,rfl⟩:=h
  exact⟨oc,od,sl,_,_,_,_,_,_,e,c1,c2⟩
 ·cases h
theorem exc_of {K:Fg}{C:Addr}{bm:List Value}{newId:String}(h:zgw K C bm newId=true) :
  ∃ nm q N bs hdct sn sub ab col dd k0 k1 k2 k3 k5,K.lookup C=some (excClassObj nm q C N bs bm hdct sn sub ab col dd k0 k1 k2 k3 k5 newId):=by
 unfold zgw at h
 split at h
 ·rename_i cl dd c sl e
  simp only[Bool.and_eq_true] at h
  obtain⟨⟨⟨h1,h2⟩,h3⟩,h4⟩:=h
  obtain⟨c1,c2,c3,c4,c5,c6,c7,c8,c9,c10,c11⟩:=c
  have h1:=eq_of_beq h1
  have h2:c3=.ref C::bm:=eq_of_beq h2
  have h30:c11=false:=by cases c11 <;> first | rfl | cases h3
  subst h1 h2 h30
  split at h4
  ·rename_i k0 k1 k2 k3 v k5 es
   have h4:=eq_of_beq h4
   subst h4
   have es:sl=#[k0,k1,k2,k3,some (.builtin newId),k5]:=by rw[<-Array.toArray_toList (xs:=sl),es]
   subst es
   exact⟨_,_,_,_,_,_,_,_,_,_,_,_,_,_,_,e⟩
  ·cases h4
 ·cases h
theorem tup_of {K:Fg}{a:Addr}{vs:List Value}(h:zgx K a vs=true):∃ dd n ss,K.lookup a=some ⟨.type "tuple",dd,.seq vs.toArray n,ss⟩:=by
 unfold zgx at h
 split at h
 ·rename_i cl dd xs n ss e
  simp only[Bool.and_eq_true] at h
  obtain⟨h1,h2⟩:=h
  have h1:=eq_of_beq h1
  have h2:xs.toList=vs:=eq_of_beq h2
  subst h1 h2
  exact⟨dd,n,ss,by rw[Array.toArray_toList];exact e⟩
 ·cases h
theorem walk_ofE {l:PySem.W.OpenLaw}{n k:Nat}{q:Program}{loose:List Str}{XP:(Str->Option Value)->Heap->Prop}{YP:World->Heap->Prop}{d:DefRec}{S:Fg->Prop}{CX:CXT}{sp:Fg->Sp}{x:Str}
  (hn:l.most=some n) (hn2:n<=sizeLine) (hdf:d.params.defaults=[]) (hr:Room k callerA)
  (hY:∀ (w:World) (h:Heap),YP w h->∃ K:Fg,K.In h/\S K)
  (F:∀ (w:World) (K:Fg) (mg:Str->Option Value) (fa:Addr) (h:Heap),S K->K.In h->h.Ns mainGlobals mg->mg d.name=some (.ref fa)->
   ∃ fd:FuncData,(∀ (s:Shared) (u:Value),BindsTo s fd ⟨[u],[]⟩ [(x,u)])/\
    ∀ base:Heap,K.In base->base.Ns mainGlobals mg->FnOk l.prog w K mg base CX k fa fd [x] (sp K))
  (hsp:∀ (K:Fg) (H:Hp) (a:Addr) (ns:List Int),ns.length<=n->Only H->SqL K H a (ns.map V.int)->sp K [.ref a] H (λv _=>v=.bl true) λ_ _ _=>False)
  (hCX:∀ (H:Hp) (s:Shared) (e:Value) (s':Shared),CX [] H s (λ_ _ _=>False) e s'->False) :
  PySem.W.WalkO q loose XP YP l.row.toRowW d [] (λf vs=>PySem.call f vs):=by
 refine Att.attach_call hn hdf λw s₀ s₁ mg mb fa o pm cd doc a vs ns G Y ho hd hcd hmg hobj hints hlen hg=>?_
 obtain⟨K,KX,hS⟩:=hY w _ Y
 obtain⟨fd,hb,hF⟩:=F w K mg fa _ hS KX G.T.g hmg
 exact zlE KX G.T.g G.T.b G.T.builtins G.T.nolimit hg hobj hints (Nat.le_trans hlen hn2) hr hF hb (λH hO hS=>hsp K H a ns hlen hO hS) λH e s'=>hCX H s₁ e s'
end L2

set_option maxHeartbeats 0
namespace L2
open PySem PySem.Spec PySem.Calls PyProof.Rows
section
variable {prog:Program}{w:World}{A:Around}{E:Value->Shared->Prop}{h:Heap}{g:Array GenState}{d:Drawn}{t:Nat}{os:OsState}{a:Addr}{o:Obj}
end
section
variable {prog:Program}{w:World}{A:Around}{E:Value->Shared->Prop}{h:Heap}{g:Array GenState}{d:Drawn}{t:Nat}{os:OsState}{a:Addr}{o:Obj}{its:Array Value}{n:Nat}
end
end L2

namespace L2
open PySem PySem.Spec PySem.Calls PyProof.Rows
section
variable {prog:Program}{w:World}{K:Type} [DecidableEq K] {knd:KeyKind prog w K}{A:Around}
end
end L2

namespace L2
open PySem PySem.Spec PySem.Calls PyProof.Rows
section
variable {prog:Program}{w:World}{K:Type} [DecidableEq K] {knd:KeyKind prog w K}{A:Around}{E:Value->Shared->Prop}{s:Shared}
end
end L2

namespace L2
open PySem PySem.Spec PySem.Calls PyProof.Rows PySem.W
end L2

namespace L2
open PySem PySem.Spec PySem.Calls PyProof.Rows PySem.W
section
variable {prog:Program}{w:World}{A:Around}{E:Value->Shared->Prop}{s:Shared}{R:Result->Shared->Prop}
end
end L2

namespace L2
open PySem PySem.Spec PySem.Calls PyProof.Rows PySem.W
section
variable {prog:Program}{w:World}{A:Around}{E:Value->Shared->Prop}{s:Shared}{K:Fg}{x C D:Addr}{ox:Obj}{od:Obj}{odo:Option Obj}{name:Str}
end
end L2

namespace L2
open PySem PySem.Spec PySem.Calls PyProof.Rows PySem.W
structure RoomH (k:Nat)(A:Around):Prop where
 dp:A.depth+3 * k+5<recursionLimit
 un:A.units+16 * k+200<cLine
 gd:A.guards=some []
theorem Room.h {k:Nat}{A:Around}(r:Room k A)(v:Option Value):RoomH k (A.mark v):=⟨r.dp,r.un,r.gd⟩
theorem RoomH.deeper {k:Nat}{A:Around}(r:RoomH (k+1) A)(env:Env):RoomH k (A.deeper env):=
 ⟨by have:=r.dp;show A.depth+1+3 * k+5<_;omega,by have:=r.un;show A.units+3+16 * k+200<_;omega,r.gd⟩
theorem RoomH.depth {k:Nat}{A:Around}(r:RoomH k A):A.depth<recursionLimit:=by have:=r.dp;omega
def cxH (CX:CXT)(P:Program)(w:World)(K:Fg)(mg:Str->Option Value)(base:Heap)(N:List Str)(qual:Str)(scope:Scope)(f:Addr)(cd:Value)(A:Around)(outer:List Env)(s:Shared)(H:Hp)(E:XK)(x0:Addr)(o0:Obj):Cx:=
 {cxOf CX P w K mg base N qual scope f cd A outer s H E with calm:=false,pn:=[(x0,o0)]}
structure HeldIn (X:Cx)(x0:Addr)(o0:Obj):Prop where
 hd:X.A.handled=some (.ref x0)
 pn:(x0,o0)∈X.pn
 nc:NoC o0
structure FnOkH (P:Program)(w:World)(K:Fg)(mg:Str->Option Value)(base:Heap)(CX:CXT)(k:Nat)(f:Addr)(fd:FuncData)(ps:List Str)(sp:Value->Addr->Sp):Prop where
 len:∀ c x vs H Q E,sp c x vs H Q E->vs.length=ps.length
 run:∀ (A:Around) (outer:List Env) (s:Shared) (H:Hp) (args:Args) (us:List Value) (vs:List V) (Q:VK) (E:XK) (x0:Addr) (o0:Obj),RoomH k A->A.handled=some (.ref x0)->Env0 P w K mg base A outer s H->s.heap.get? x0=some o0->H x0=none->x0∉frs outer->(∀ v,o0.data≠.cell v)->o0.dict=none->NoC o0->BindsTo s fd args (ps.zip us)->Vals vs us->sp o0.cls x0 vs H Q E->
  codeAny (model P w) A (.call (.ref f) args) (CR CX outer P w H s Q E) s
theorem zjN {CX:CXT}{P:Program}{w:World}{K:Fg}{mg:Str->Option Value}{base:Heap}{N ps:List Str}{qual:Str}{scope:Scope}{f:Addr}{cd:Value}{A:Around}{outer:List Env}{s s1:Shared}{H:Hp}{E:XK}{us:List Value}{vs:List V}
  (S:FSc N ps scope) {x0:Addr}{o0:Obj}(ho:s.heap.get? x0=some o0) (hH:H x0=none) (hF:x0∉frs outer) (hC:∀ v,o0.data≠.cell v) (e0:Env0 P w K mg base A outer s H) (hl:vs.length=ps.length) (r:Vals vs us)
  (x:InCallC s s.heap.objs.size (bindL (envOfC qual scope s.heap.objs.size f cd).kindOf (ps.zip us) λ_=>none) (cellsFrom (s.heap.objs.size+1) scope.names []) (bindC (envOfC qual scope s.heap.objs.size f cd).kindOf (ps.zip us) λ_=>none) s1) :
  Inv (cxH CX P w K mg base N qual scope f cd A outer s H E x0 o0) [] (start N vs) H s1:=by
 have hpl:ps.length<=N.length:=by have:=congrArg List.length S.pre;rw[List.length_take] at this;omega
 obtain⟨h1,tk,rfl,hk⟩:=x.done
 have noA:∀ b:Addr,b∉(cxH CX P w K mg base N qual scope f cd A outer s H E x0 o0).ex:=λb z=>absurd (show b∈([]:List Addr) from z) (by simp)
 refine⟨⟨e0.mod,S.kind,rfl,rfl,Nat.le_refl _,λy z c h1 h2=>?_,λy hy=>?_,λy c _ h=>?_,(λz=>absurd z Bool.false_ne_true),Around.frames_deeper e0.frames,.inr ⟨rfl,rfl⟩,λb z=>absurd z (noA b),e0.bs,e0.bsz,λb _ _=>noA b,λb z=>absurd z (noA b),e0.funs,e0.frf⟩,
  rfl,e0.bare,Un.kept hk,⟨_,x.toInCall.ns,λi y v h1 h2 h3=>?_⟩,λy c h=>⟨_,x.cell y c h⟩,e0.hok.fresh (Nat.le_refl _),λy c h=>?_,λp hp=>?_,e0.hok.kept hk,?_⟩
 ·exact name_of_addr x.apart (PySem.mem_of_lookup h1) (PySem.mem_of_lookup h2)
 ·have hy:scope.names.lookup y=some .cell\/scope.names.lookup y=some .free:=hy
  rcases hy with hy | hy
  ·exact zfg hy
  ·exact absurd rfl (S.nofree _ (PySem.mem_of_lookup hy))
 ·exact Nat.le_of_lt (x.above y c (PySem.mem_of_lookup h))
 ·have hi:i<vs.length:=by
   unfold start at h2
   by_cases hi:i<vs.length
   ·exact hi
   ·rw[List.getElem?_append_right (by simpa using hi)] at h2
    rw[List.getElem?_replicate] at h2
    split at h2 <;> cases h2
  have ha:vs[i]?=some v:=by
   unfold start at h2
   rw[List.getElem?_append_left (by simpa using hi),zgm] at h2
   cases e:vs[i]? with
   | none=>rw[e] at h2;cases h2
   | some a=>rw[e] at h2;cases h2;rfl
  obtain⟨u,hu,rv⟩:=r.get ha
  have hp:ps[i]?=some y:=by
   rw[<-S.pre,List.getElem?_take_of_lt (by omega)];exact h1
  have ndP:ps.Nodup:=by rw[<-S.pre];exact S.nd.sublist (List.take_sublist _ _)
  refine⟨u,rv,?_⟩
  rcases S.par y (zmg hp) with k | k
  ·exact .inl ⟨k,zfs ndP hp hu k⟩
  ·obtain⟨c,e⟩:=zfg (n:=s.heap.objs.size+1) k
   refine .inr ⟨.inl k,c,e,?_⟩
   have q:=x.cell y c e
   rw[zft ndP hp hu (by show scope.names.lookup y≠_;rw[k];decide)] at q
   exact q
 ·exact e0.hok.fresh (Nat.le_of_lt (x.above y c (PySem.mem_of_lookup h)))
 ·have hp:p∈[(x0,o0)]:=hp
  rw[zms.mp hp]
  exact⟨hk _ _ ho,hH,Nat.ne_of_lt (Heap.lt_size ho),hF,hC⟩
 ·unfold start
  show _=N.length
  rw[List.length_append,zlm,List.length_replicate]
  omega
theorem zpm {CX:CXT}{P:Program}{w:World}{K:Fg}{mg:Str->Option Value}{base:Heap}{k:Nat}{f:Addr}{name qual:Str}{params:Arguments}{body:List Stmt}{scope:Scope}{dV kV doc pm cdv ct oc:Value}{an od:Option Addr}
  {osl:Array (Option Value)}{N ps:List Str}{sp:Value->Addr->Sp}(lk:K.lookup f=some ⟨oc,od,.func (PySem.W.fnOf name qual params body scope dV kV doc pm an cdv ct),osl⟩) (hcd:PySem.W.codeIn K cdv qual=true) (S:FSc N ps scope)
  (len:∀ c x vs H Q E,sp c x vs H Q E->vs.length=ps.length)
  (hbody:∀ (A:Around) (outer:List Env) (s:Shared) (H:Hp) (vs:List V) (Q:VK) (E:XK) (x0:Addr) (o0:Obj),RoomH k (A.deeper (envOfC qual scope s.heap.objs.size f cdv))->o0.dict=none->NoC o0->HeldIn (cxH CX P w K mg base N qual scope f cdv A outer s H E x0 o0) x0 o0->sp o0.cls x0 vs H Q E->
   ∃ t,PSs (cxH CX P w K mg base N qual scope f cdv A outer s H E x0 o0) body t/\t {nx:=λ_ H'=>Q .non H',rt:=Q} (start N vs) H) :
  FnOkH P w K mg base CX (k+1) f (PySem.W.fnOf name qual params body scope dV kV doc pm an cdv ct) ps sp:=by
 refine⟨len,λA outer s H args us vs Q E x0 o0 hr hh e0 ho hH hF hC hd hn hb r hsp=>?_⟩
 have hl:=len _ _ _ _ _ _ hsp
 have KX:K.In s.heap:=e0.mod.kin.keeps λb o e=>(e0.bs b o e).1
 have lim:s.heap.NoLimit:=e0.mod.nolimit.keeps λb o e=>(e0.bs b o e).1
 have hkind:∀ y∈ps.zip us,scope.names.lookup y.1=some .local\/(scope.names.lookup y.1=some .cell/\((cellsFrom (s.heap.objs.size+1) scope.names []).lookup y.1).isSome=true):=λ⟨n,v⟩ hy=>by
  rcases S.par n (List.of_mem_zip hy).1 with q | q
  ·exact .inl q
  ·exact .inr ⟨q,PySem.W.cellsFrom_some _ _ _ (.inl q)⟩
 refine codeAny_call_function hr.depth (KX _ _ lk) rfl S.co S.gen rfl (PySem.W.codeRec_of KX hcd) (hb _ _ _ _ ?_)
 refine wpAny_newFunctionEnv_cells S.kind hkind λenv he s1 x=>?_
 subst he
 refine⟨lim.keeps x.toInCall.keep,codeAny_func ?_⟩
 obtain⟨t,ht,hq⟩:=hbody A outer s H vs Q E x0 o0 (hr.deeper _) hd hn ⟨hh,.head _,hn⟩ hsp
 have I:Inv (cxH CX P w K mg base N qual scope f cdv A outer s H E x0 o0) [] (start N vs) H s1:=zjN S ho hH hF hC e0 hl r x
 refine wpAny_mono (ht [] s1 (start N vs) H _ I hq) (λfl s' hs=>?_) λe s' hs=>hs
 have fin:∀ {σ':St}{H':Hp}{v:V}{u:Value},Inv (cxH CX P w K mg base N qual scope f cdv A outer s H E x0 o0) [] σ' H' s'->RelV v u->Q v H'->CE outer P w H s Q u s':=
  λ{σ' H' v u} J rv q=>⟨v,H',J.os,J.bare,J.base,J.hok,rv,q⟩
 cases fl with
 | ret u=>
  obtain⟨v,σ',H',J,rv,q⟩:=hs
  exact fin J rv q
 | next=>
  obtain⟨σ',H',J,q⟩:=hs
  exact fin (v:=V.non) (u:=Value.none) J rfl q
 | brk=>
  obtain⟨_,_,_,q⟩:=hs
  exact False.elim q
 | cont=>
  obtain⟨_,_,_,q⟩:=hs
  exact False.elim q
section
variable {X:Cx}{CX:CXT}{k:Nat}{f:Addr}{fd:FuncData}{ps:List Str}{sp:Value->Addr->Sp}{E:XK}{x:Str}{p pos:Pos}{e:Expr}{es:List Expr}{t:TA}{a:Addr}{o:Obj}
theorem zlY (F:FnOkH X.prog X.w X.K X.mg X.base CX k f fd ps sp)(hr:Room k X.A)(hg:Gl X x)(hm:X.mg x=some (.ref f))(hk:PySem.W.keepIn X.K (.ref f)=true)(hb:zdP X.K fd ps [])(hx:zdl CX (XH X a o) E)(hd:o.dict=none)(hn:NoC o)
  (ha:PA (XH X a o) (e::es) t) (hdb:(x == ("__debug__" : Str))=false:=by decide) (he:starEach (e::es) X.env=(false,eval e X.env)::starEach es X.env:=by rfl) (hpl:(backTo pos (starEach es X.env)).any (·.1)=false:=by rfl) :
  PE (XH X a o) (.Call (.Name x p) (e::es) [] pos) (zhz (sp o.cls a) [] E t):=by
 intro pins s σ H Q I h
 refine wpAny_Call_Name_kw (zd1 I hg hm ?_ hdb)
 refine PySem.W.callWith_K (h₀:=X.base) I.ok.mod.kin hk (thn (ha pos pins s σ H _ I h) λus s1 ⟨vs,H1,I1,r,q⟩=>⟨I1.kIn,?_⟩) he hpl
 have q:sp o.cls a (vs++[]) H1 Q E:=q
 rw[List.append_nil] at q
 have hl:us.length=ps.length:=by rw[<-r.length];exact F.len _ _ _ _ _ _ q
 have pin:=I1.pin (a,o) (List.mem_append_left _ (.head _))
 have hF:a∉frs X.stack:=by
  rcases I1.ok.stk with z | ⟨z,zf⟩
  ·have z:X.stack=X.outer:=z
   rw[z];exact pin.2.2.2.1
  ·have z:X.stack=X.env::X.outer:=z
   have zf:X.env.frame=some X.env.locals:=zf
   rw[z]
   unfold frs
   rw[List.filterMap_cons,zf]
   exact λy=>by
    rcases List.mem_cons.mp y with w | w
    ·exact pin.2.2.1 w
    ·exact pin.2.2.2.1 w
 have hb':=hb s1 us I1.kIn (by rw[List.append_nil];exact hl)
 rw[List.append_nil] at hb'
 refine wpAny_call (codeAny_mono (F.run (XH X a o).A X.stack s1 H1 ⟨us,[]⟩ us vs Q E a o (hr.h _) rfl I1.env0 pin.1 pin.2.1 hF pin.2.2.2.2 hd hn hb' r q) λr s' hq=>?_)
 cases r with
 | error e=>exact hx pins σ H1 s1 e s' I1 hq
 | ok fl=>
  cases fl with
  | ret u=>exact I1.after hq
  | next=>exact False.elim hq
  | brk=>exact False.elim hq
  | cont=>exact False.elim hq
end
end L2

namespace L2
open PySem PySem.Spec PySem.Calls PyProof.Rows PySem.W PySem.SeqAt
variable {X:Cx}
end L2

namespace L2
open PySem PySem.Spec PySem.Calls PyProof.Rows PySem.W
section
variable {CX:CXT}{P:Program}{w:World}{K:Fg}{mg:Str->Option Value}{base:Heap}{N:List Str}{qual:Str}{scope:Scope}{f:Addr}{cd:Value}{A:Around}{outer:List Env}{s:Shared}{H:Hp}{E:XK}{x0:Addr}{o0:Obj}
end
structure FnH (P:Program)(w:World)(K:Fg)(mg:Str->Option Value)(base:Heap)(x:Str)(ps:List Str)(k:Nat)(sp:Value->Addr->Sp):Prop where
 ex:∃ f fd,FnOkH P w K mg base CX0 k f fd ps sp/\zdP K fd ps []/\PySem.W.keepIn K (.ref f)=true/\mg x=some (.ref f)
theorem FnH.of {P:Program}{w:World}{K:Fg}{mg:Str->Option Value}{base:Heap}{x:Str}{st:Stmt}{f:Addr}{fd:FuncData}{N ps:List Str}{k:Nat}{sp:Value->Addr->Sp}(F:Fun K x x st f fd)(S:FSc N ps (zad st))(m:mg x=some (.ref f))
  (hb:∀ (kV doc pm:Value) (an:Option Addr) (cdv ct:Value) (us:List Value),us.length=ps.length->bindArgs (PySem.W.fnOf x x (zcV st) (zbO st) (zad st) .none kV doc pm an cdv ct) ⟨us,[]⟩=pure (ps.zip us))
  (len:∀ c x vs H Q E,sp c x vs H Q E->vs.length=ps.length)
  (hbody:∀ (cdv:Value) (A:Around) (outer:List Env) (s:Shared) (H:Hp) (vs:List V) (Q:VK) (E:XK) (x0:Addr) (o0:Obj),RoomH k (A.deeper (envOfC x (zad st) s.heap.objs.size f cdv))->o0.dict=none->NoC o0->HeldIn (cxH CX0 P w K mg base N x (zad st) f cdv A outer s H E x0 o0) x0 o0->sp o0.cls x0 vs H Q E->
   ∃ t,PSs (cxH CX0 P w K mg base N x (zad st) f cdv A outer s H E x0 o0) (zbO st) t/\t {nx:=λ_ H'=>Q .non H',rt:=Q} (start N vs) H):FnH P w K mg base x ps (k+1) sp:=by
 refine⟨f,fd,?_,F.binds hb,F.kp,m⟩
 obtain⟨oc,od,kV,doc,pm,an,cdv,ct,osl,rfl,lk,hcd⟩:=F.ex
 exact zpm lk hcd S len λA outer s H vs Q E x0 o0 hr hd hn hx hsp=>hbody cdv A outer s H vs Q E x0 o0 hr hd hn hx hsp
section
variable {X:Cx}{k j:Nat}{ps:List Str}{sp:Value->Addr->Sp}{x:Str}{p pos:Pos}{e:Expr}{es:List Expr}{t:TA}{a:Addr}{o:Obj}
theorem RoomH.le {j k:Nat}{A:Around}(r:RoomH k A)(h:j<=k):RoomH j A:=⟨by have:=r.dp;omega,by have:=r.un;omega,r.gd⟩
theorem FnOkH.mono {P:Program}{w:World}{K:Fg}{mg:Str->Option Value}{base:Heap}{CX:CXT}{f:Addr}{fd:FuncData}(F:FnOkH P w K mg base CX j f fd ps sp)(h:j<=k):FnOkH P w K mg base CX k f fd ps sp:=
 ⟨F.len,λA outer s H args us vs Q E x0 o0 hr=>F.run A outer s H args us vs Q E x0 o0 (hr.le h)⟩
theorem zpn (G:FnH X.prog X.w X.K X.mg X.base x ps j sp)(hr:Room k X.A)(hg:Gl X x)(hd:o.dict=none)(hn:NoC o)(ha:PA (XH X a o) (e::es) t)(hj:j<=k:=by decide)(hdb:(x == ("__debug__" : Str))=false:=by decide)
  (he:starEach (e::es) X.env=(false,eval e X.env)::starEach es X.env:=by rfl) (hpl:(backTo pos (starEach es X.env)).any (·.1)=false:=by rfl):PE (XH X a o) (.Call (.Name x p) (e::es) [] pos) (zhz (sp o.cls a) [] E0 t):=by
 obtain⟨f,fd,F,hb,hk,hm⟩:=G.ex
 exact zlY (F.mono hj) hr hg hm hk hb zdQ hd hn ha hdb he hpl
end
end L2

namespace L2
open PySem PySem.Spec PySem.Calls PyProof.Rows PySem.W
section
variable {X:Cx}{C:Addr}{ps:List Str}{j k:Nat}{sp:Sp}{x m:Str}{o e:Expr}{es:List Expr}{ta:TE}{t:TA}{p pos apos:Pos}{te:XK->TE}{st:Stmt}{tt uu:XK->TS}
end
end L2

namespace L2
open PySem PySem.Spec PySem.Calls PyProof.Rows PySem.W
def zpo:List V->Hp->VK->Prop:=λxs H Q=>∃ (a:Addr) (ns:List Int),xs=[.ref a]/\H a=some (.lst (ns.map V.int))/\ns.length<64/\∀ (l:Addr) (ns':List Int),H l=none->ns'.Perm ns->ns'.Pairwise (·<=·)->Q (.ref l) (upd H l (.lst (ns'.map V.int)))
theorem zfM {X:Cx} : zb2 X (.builtin "sorted") zpo:=by
 intro pins s σ H xs us Q I r h
 obtain⟨a,ns,rfl,ha,h64,q⟩:=h
 obtain⟨u,rfl,rx⟩:=zfq r
 cases rx
 obtain⟨z,its,n,rv,hl,e⟩:=I.lstM ha
 have hl':its.length=ns.length:=by rw[<-hl,zlm]
 refine sorted_ints (vs:=its) ⟨_,e,rfl,n,rfl⟩ (zgE rv) (by omega) λout ns' a1 a2 a3=>?_
 have hsz:((s.heap.push (seqObj "list" #[] 0)).update s.heap.objs.size (Obj.mapSeq (·++its.toArray))).objs.size=s.heap.objs.size+1:=by
  rw[Heap.size_update,size_push']
 have hoL:(((s.heap.push (seqObj "list" #[] 0)).update s.heap.objs.size (Obj.mapSeq (·++its.toArray))).push (seqObj "list" its.toArray 0)).get? (s.heap.objs.size+1)=some (seqObj "list" its.toArray 0):=by
  rw[<-hsz];exact Heap.get?_push_size _ rfl
 obtain⟨e',he⟩:=sortedHeap_at (out:=out) hoL
 have zn:(ns'.map V.int).length<=sizeLine:=by rw[zlm,a2.length_eq];exact zaj (by omega)
 refine⟨.ref (s.heap.objs.size+1),_,I.laid (a:=s.heap.objs.size+1) (t':=s.toks) (λb u hu=>?_) (Nat.le_succ _) (show zbv X.prog X.w _ _ _ (.lst (ns'.map V.int)) from ⟨zn,out.toList,e',zeo a1,by rw[Array.toArray_toList];exact he⟩),rfl,q _ _ (I.hok.fresh (Nat.le_succ _)) a2 a3⟩
 have hlt:=Heap.lt_size hu
 show (sortedHeap (((s.heap.push (seqObj "list" #[] 0)).update s.heap.objs.size (Obj.mapSeq (·++its.toArray))).push (seqObj "list" its.toArray 0)) (s.heap.objs.size+1) its out).get? b=some u
 rw[sortedHeap_old (Nat.ne_of_lt (Nat.lt_succ_of_lt hlt)) (by rw[size_push',hsz];exact Nat.lt_succ_of_lt (Nat.lt_succ_of_lt hlt))]
 refine Heap.get?_push_of_some _ ?_
 rw[Heap.get?_update_ne _ _ _ _ (Nat.ne_of_lt hlt)]
 exact Heap.get?_push_of_some _ hu
end L2

namespace L2
open PySem PySem.Spec PySem.Calls PyProof.Rows PySem.W
theorem zg8:entryFor table "proto.unchain"=some Builtin.«proto.unchain»:=entryFor_of_fast (by kernel_rfl)
def zfN (h:Heap)(x:Addr):Prop:=∃ o fs,h.get? x=some o/\o.data=.fields fs/\fs[2]?=some .none
theorem zfN.at {h h':Heap}{x:Addr}(n:zfN h x)(e:∀ o,h.get? x=some o->h'.get? x=some o):zfN h' x:=
 let ⟨o,fs,a,b,c⟩:=n;⟨o,fs,e o a,b,c⟩
section
variable {prog:Program}{w:World}{A:Around}{E:Value->Shared->Prop}{s:Shared}
theorem zjO {it:Addr}{T id:String}{b:Builtin}{Q:Option Value->Shared->Prop}(hT:s.TypeIs (.ref it) T)(sl:Slot T "__next__" id)(hb:entryFor table id=some b)(ha:argsOk id ⟨[.ref it],[]⟩)
  (hc:wpAny (model prog w) A.in1 (b ⟨[.ref it],[]⟩) (λ_ _=>False) (λe s'=>∃ a o,e=.ref a/\s'.heap.get? a=some o/\o.cls=.type "StopIteration" /\Q none s') s):wpAny (model prog w) A (pyNext (.ref it)) Q E s:=by
 unfold pyNext
 refine wpAny_bind (wpAny_attempt (wpAny_callSpecial?_slot (name:="__next__") hT sl (wpAny_call_entry sl hT hb (wpAny_mono hc (λ_ _ z=>z.elim) ?_) ha)))
 rintro e s' ⟨a,o,rfl,h1,h2,q⟩
 exact wpAny_bind (wpAny_isInstance (T:="StopIteration") (b:=true) ⟨o,h1,h2⟩ isSubtype_stop (wpAny_pure q))
theorem ziH {x a:Addr}{Q:Value->Shared->Prop}(n:zfN s.heap x)(h:Q .none s):wpAny (model prog w) A (runValue (.builtin "proto.unchain" ⟨[.ref a,.ref x,.ref x,.bool false],[]⟩)) Q E s:=by
 obtain⟨o,fs,h1,h2,h3⟩:=n
 refine wpAny_runValue (codeAny_builtin zg8 ?_)
 show wpAny _ _ (field (.ref x) 2 >>= _) _ _ s
 refine wpAny_bind (wpAny_field h1 h2 h3 ?_)
 rw[if_pos (show (Value.none == Value.none)=true from rfl)]
 exact wpAny_pure h
theorem zg9 {α:Type}{x a:Addr}{oa:Obj}{vs:Array Value}{Q:α->Shared->Prop}(hh:A.handled=some (.ref x))(n:zfN s.heap x)(ne:x≠a)(ha:s.heap.get? a=some oa)(hd:oa.data=.fields vs)(hz:2<vs.size)
  (h:E (.ref a) {s with heap:=s.heap.update a (Obj.mapFields (·.setIfInBounds 2 (.ref x)))}):wpAny (model prog w) A (raiseNew (α:=α) (.ref a)) Q E s:=by
 simp only[raiseNew]
 refine wpAny_bind (wpAny_handled ?_)
 rw[hh]
 have hne:(Value.ref x != Value.ref a)=true:=by simp[ne]
 simp only[hne,if_true]
 refine wpAny_bind (wpAny_holding (ziH n ?_))
 refine wpAny_bind ?_
 simp only[updateField]
 refine wpAny_bind (wpAny_load ha ?_)
 rw[hd]
 show wpAny _ _ (if 2<vs.size then _ else _) _ _ _
 rw[if_pos hz]
 exact wpAny_update ha (wpAny_throw h)
theorem zkY {α:Type}{Q:α->Shared->Prop}{x0:Addr}{h:Heap}{g:Array GenState}{d:Drawn}{t:Nat}{os:OsState}{o1 o2:Obj}{vs:Array Value}(hh:A.handled=some (.ref x0))(n:zfN h x0)(hc:o2.cls=.type "StopIteration")(hd:o2.data=.fields vs)(hz:2<vs.size)(hf:o2.isFreed=false)
  (hE:∀ a h' o,(∀ b o,h.get? b=some o->h'.get? b=some o)->h'.get? a=some o->o.cls=.type "StopIteration" ->E (.ref a) ⟨h',g,d,t,os⟩) :
  wpAny (model prog w) A (raiseNew (α:=α) (.ref (h.push o1).objs.size)) Q E ⟨(h.push o1).push o2,g,d,t,os⟩:=by
 have up:∀ (b:Addr) (o:Obj),h.get? b=some o->((h.push o1).push o2).get? b=some o:=λb o e=>Heap.get?_push_of_some _ (Heap.get?_push_of_some _ e)
 have lt:∀ (b:Addr) (o:Obj),h.get? b=some o->b≠(h.push o1).objs.size:=λb o e=>Nat.ne_of_lt (Heap.lt_size (Heap.get?_push_of_some _ e))
 obtain⟨ox,fx,k1,k2,k3⟩:=id n
 obtain⟨_,_,_,_⟩:=o2
 cases hc;cases hd
 refine zg9 hh (n.at λo e=>up _ o e) (lt _ _ k1) (Heap.get?_push_size _ hf) rfl hz ?_
 refine hE _ _ _ (λb o e=>?_) (Heap.get?_update_self _ (Heap.get?_push_size _ hf) rfl) ?_
 ·rw[Heap.get?_update_other _ _ (lt _ _ e).symm]
  exact up _ _ e
 ·rfl
theorem zcR {it l:Addr}{i:Nat}{items:Array Value}{Q:Option Value->Shared->Prop}{x0:Addr}(hh:A.handled=some (.ref x0))(n:zfN s.heap x0)(hxi:x0≠it)
  (hit:s.heap.IsListIter it l i) (hl:s.heap.IsList l items) (hx:items[i]?=none) (hQ:∀ h',Heap.ExtBut it s.heap h'->Q none {s with heap:=h'}):wpAny (model prog w) A (pyNext (.ref it)) Q E s:=by
 refine zjO hit.typeIs slot_listiter_next entry_listiter_next (args_listiter_next _) ?_
 obtain⟨⟨_,_,_,_⟩,ho,hc,hd⟩:=id hit
 cases hc;cases hd
 obtain⟨⟨_,_,_,_⟩,hol,hcl,nl,hdl⟩:=hl
 cases hcl;cases hdl
 unfold Builtin.«list_iterator.__next__»
 repeat wp_step
 rw[Int.toNat_natCast,hx]
 repeat wp_step
 have eb:Heap.ExtBut it s.heap (s.heap.update it (Obj.mapFields (·.setIfInBounds 0 .none))):=(Heap.SameBut.update ..).extBut
 exact zkY (show A.in1.handled=_ from hh) (n.at λo e=>eb x0 o hxi e) rfl rfl (by simp;omega) rfl λa h' o k1 k2 k3=>⟨a,o,rfl,k2,k3,hQ h' λb o nb e=>k1 b o (eb b o nb e)⟩
end
end L2

namespace L2
open PySem PySem.Spec PySem.Calls PyProof.Rows PySem.W
structure TurnH (P:Program)(w:World)(K:Fg)(tg:Expr)(J:It)(fp:List Addr)(it:Addr)(tn:Nat->Heap->Prop):Prop where
 tu:Turn P w K tg J fp it tn
 itemH:∀ (X:Cx),X.prog=P->X.w=w->X.K=K->∀ (i:Nat) (pins:List (Addr × Obj)) (s:Shared) (σ:St) (H:Hp) (E:Value->Shared->Prop),Inv X pins σ H s->(∀ b∈fp,FpOk X pins H b)->tn i s.heap->J.go i H->
  wpAny (model P w) X.A (pyNext (.ref it)) (λr s1=>∃ u,r=some u/\
   wpAny (model P w) X.A (letOwnedTupleGo tg (.ref it) u) (λ_ s2=>∃ x H',Inv X pins σ H' s2/\RelV x u/\J.yld i H x H'/\tn (i+1) s2.heap/\∀ b∈fp,H' b=none) E s1) E s
 doneH:∀ (X:Cx),X.prog=P->X.w=w->X.K=K->∀ (i:Nat) (pins:List (Addr × Obj)) (s:Shared) (σ:St) (H:Hp) (E:Value->Shared->Prop) (x0:Addr),X.A.handled=some (.ref x0)->zfN s.heap x0->x0∉fp->Inv X pins σ H s->(∀ b∈fp,FpOk X pins H b)->tn i s.heap->J.stop i H->
  wpAny (model P w) X.A (pyNext (.ref it)) (λr s1=>r=none/\Inv X pins σ H s1) E s
theorem zjP {P:Program}{w:World}{K:Fg}{tg:Expr}(a it:Addr):TurnH P w K tg (Itl K a) [it] it (λi h=>h.IsListIter it a i) where
 tu:=zhy a it
 itemH:=by
  intro X hP hw hK i pins s σ H E I hf st hg
  subst hP hw hK
  obtain⟨xs,x,hq,hx⟩:=hg
  obtain⟨its,rv,p,hz⟩:=I.list hq
  obtain⟨u,hu,ru⟩:=rv.get hx
  obtain⟨f0,f1,f2,f3,f4,f5⟩:=hf it (by simp)
  refine wpAny_pyNext_list_item st p.isList (x:=u) (by simpa using hu) λh' st' sb=>?_
  have I1:Inv X pins σ H {s with heap:=h'}:=I.turned (t':=s.toks) (λb o hb e=>(sb.2 b hb).trans e) f0 f1 f3 f4 f5
  obtain⟨o,e,c,d⟩:=id st'
  exact⟨u,rfl,zlr (s:={s with heap:=h'}) e c d (by decide) ⟨x,H,I1,ru,⟨rfl,λys hy=>by rw[I.list_inj hy hq];exact hx⟩,st',λb hb=>(hf b hb).1⟩⟩
 doneH:=by
  intro X hP hw hK i pins s σ H E x0 hh nc hxf I hf st hg
  subst hP hw hK
  obtain⟨xs,hq,hx⟩:=hg
  obtain⟨its,rv,p,hz⟩:=I.list hq
  obtain⟨f0,f1,f2,f3,f4,f5⟩:=hf it (by simp)
  have hl:=rv.length
  exact zcR hh nc (λz=>hxf (by simp[z])) st p.isList (by simp;omega) λh' eb=>⟨rfl,I.turned (t':=s.toks) (λb o hb e=>eb b o hb e) f0 f1 f3 f4 f5⟩
def PIEH (X:Cx)(pins:List (Addr × Obj))(σ:St)(tg:Expr)(R:It->Hp->Prop)(itv:Value)(s2:Shared):Prop:=
 ∃ (it:Addr) (fp:List Addr) (tn:Nat->Heap->Prop) (J:It) (H':Hp),itv=.ref it/\Inv X pins σ H' s2/\TurnH X.prog X.w X.K tg J fp it tn/\tn 0 s2.heap/\(∀ b∈fp,FpOk X pins H' b)/\R J H'
def PIH (X:Cx)(tg iter:Expr)(wi:TI):Prop:=
 ∀ (pins:List (Addr × Obj)) (s:Shared) (σ:St) (H:Hp) (R:It->Hp->Prop),Inv X pins σ H s->wi σ H R->
  wpAny (model X.prog X.w) X.A (eval iter X.env) (λv s1=>wpAny (model X.prog X.w) X.A (pyIter v) (PIEH X pins σ tg R) X.xe s1) X.xe s
section
variable {X:Cx}{tg:Expr}
theorem zlZ {l:Expr}{tl:TE}(hl:PE X l tl):PIH X tg l (zke X.K tl):=by
 intro pins s σ H R I h
 refine thn (hl pins s σ H _ I h) λv s1 ⟨x,H1,I1,r1,q1⟩=>?_
 obtain⟨a,e,⟨xs,hq⟩,q⟩:=q1
 subst e
 cases r1
 obtain⟨its,rv,p,hz⟩:=I1.list hq
 refine wpAny_pyIter_list p.isList ?_
 refine⟨s1.heap.objs.size,[s1.heap.objs.size],_,_,H1,rfl,I1.kept (t':=s1.toks) λb o e=>Heap.get?_push_of_some _ e,zjP a _,⟨_,Heap.get?_push_size _ rfl,rfl,rfl⟩,λb hb=>?_,q⟩
 have e:b=s1.heap.objs.size:=by simpa using hb
 subst e
 exact I1.fpOk (Nat.le_refl _) (I1.hok.fresh (Nat.le_refl _))
end
section
variable {X:Cx}{tg iter elt:Expr}{ifs:List Expr}{scope:Scope}{pos:Pos}{N':List Str}{ms:List Bool}{wi:TI}{g:TG}{tt:TT}{te:TE}
set_option maxHeartbeats 4000000 in
theorem zjQ {pins:List (Addr × Obj)}{s:Shared}{σ:St}{H:Hp}{Q:VK}{RR:Value->Addr->Result->Shared->Prop}{x0:Addr}{o0:Obj}(hc:HeldIn X x0 o0)(ok:COk X.env.scope X.N scope N' ms)(hi:PIH X tg iter wi)
  (hg:∀ cl C fp s3 H3,PG (zaT X N' scope cl C fp s3 H3) tg g) (ht:∀ cl C fp s3 H3,PIfs (zaT X N' scope cl C fp s3 H3) ifs tt) (he:∀ cl C fp s3 H3,PE (zaT X N' scope cl C fp s3 H3) elt te)
  (I:Inv X pins σ H s) (h:zjG ms wi g tt te σ H Q)
  (hRR:∀ D C H' s' m,s'.heap.Ns C m->Inv X pins σ H' s'->FpOk X pins H' C->Q (.ref D) H'->RR (.ref D) C (.ok .next) s') :
  wpAny (model X.prog X.w) X.A (eval iter X.env) (λx s1=>wpAny (model X.prog X.w) X.A (pyIter x) (λit s2=>wpAny (model X.prog X.w) X.A (newList []) (λacc s3=>
   wpAny (model X.prog X.w) X.A (newFunctionEnv scope X.env.globals (zbx X.env scope.names []) [] X.env.qual none .none (some X.env)) (λcenv s4=>
    codeAny (model X.prog X.w) X.A (.compStart (.ListComp elt [⟨tg,iter,ifs,0⟩] scope pos) 0 it acc {cenv with scope:=relabel scope X.env}) (RR acc cenv.locals) s4) X.xe s3) X.xe s2) X.xe s1) X.xe s:=by
 refine thn (hi pins s σ H _ I h) λv s1 h1=>thn h1 λitv s2 h2=>?_
 obtain⟨it,fp,tn,J,H2,e,I2,TH,st2,f2,h2⟩:=h2
 have T:=TH.tu
 subst e
 obtain⟨W,⟨m0,w0⟩,turn⟩:=h2 s2.heap.objs.size I2.fresh
 refine wpAny_newObj_type ?_
 have I3:=I2.lnew (ys:=[]) (its:=[]) (t':=s2.toks) .nil (Nat.zero_le _)
 generalize hs3:({s2 with heap:=s2.heap.push {cls:=.type "list",data:=.seq ([]:List Value).toArray},toks:=s2.toks} : Shared)=s3 at I3
 refine wpAny_newFunctionEnv ok.nocell (by intro y hy;simp at hy) (λh4 hn4 hs4=>?_) ok.kind
 have sz:s3.heap.objs.size=s2.heap.objs.size+1:=by rw[<-hs3];exact Heap.size_push ..
 have old2:∀ b o,s2.heap.get? b=some o->s3.heap.get? b=some o:=λb o e=>by rw[<-hs3];exact Heap.get?_push_of_some _ e
 have old:∀ b o,s3.heap.get? b=some o->h4.get? b=some o:=λb o e=>hs4.extBut b o (Nat.ne_of_lt (Heap.lt_size e)) (Heap.get?_push_of_some _ e)
 have fp2:∀ b∈fp,b<s2.heap.objs.size:=λb hb=>by
  obtain⟨o,ho,_⟩:=T.obj 0 _ st2 b hb
  exact Heap.lt_size ho
 have nD:∀ b∈fp,b≠s2.heap.objs.size:=λb hb=>Nat.ne_of_lt (fp2 b hb)
 have f3:∀ b∈fp,FpOk X pins (upd H2 s2.heap.objs.size (.lst [])) b/\b<s3.heap.objs.size:=λb hb=>by
  refine⟨⟨?_,(f2 b hb).2⟩,by rw[sz];exact Nat.lt_succ_of_lt (fp2 b hb)⟩
  rw[zam (nD b hb)];exact (f2 b hb).1
 have J4:Inv (zaT X N' scope (zbx X.env scope.names []) s3.heap.objs.size fp s3 (upd H2 s2.heap.objs.size (.lst []))) [] (zcy ms σ) (upd H2 s2.heap.objs.size (.lst [])) {s3 with heap:=h4,toks:=s3.toks+0}:=
  zgJ ok I3 f3 hn4 old
 have stat:∀ {H':Hp},(∀ b∈fp,H' b=none)->∀ b∈fp,FpOk (zaT X N' scope (zbx X.env scope.names []) s3.heap.objs.size fp s3 (upd H2 s2.heap.objs.size (.lst []))) [] H' b:=λhn b hb=>
  ⟨hn b hb,(J4.ok.exf b hb).1,J4.ok.exfs b hb,.inl hb,(J4.ok.exf b hb).2,λp hp=>absurd (show p∈([]:List (Addr × Obj)) from hp) (by simp)⟩
 have px:=I2.pin (x0,o0) (List.mem_append_left _ hc.pn)
 have xfp:x0∉fp:=λz=>(f2 x0 z).2.2.2.2.2 (x0,o0) (List.mem_append_left _ hc.pn) rfl
 have x3:=old2 x0 o0 px.1
 have xst:x0∉frs X.stack:=by
  rcases I2.ok.stk with e | ⟨e,hf⟩
  ·rw[e];exact px.2.2.2.1
  ·rw[e]
   intro z
   unfold frs at z
   rw[List.filterMap_cons,hf] at z
   rcases List.mem_cons.mp z with z | z
   ·exact px.2.2.1 z
   ·exact px.2.2.2.1 z
 have noc:∀ {pp σ5 H5 s5},Inv (zaT X N' scope (zbx X.env scope.names []) s3.heap.objs.size fp s3 (upd H2 s2.heap.objs.size (.lst []))) pp σ5 H5 s5->zfN s5.heap x0:=λJ=>by
  obtain⟨fs,n1,n2⟩:=hc.nc
  refine⟨o0,fs,J.base.keep x0 o0 x3 ?_ xst xfp,n1,n2⟩
  show (upd H2 s2.heap.objs.size (.lst [])) x0=none
  rw[zam (Nat.ne_of_lt (Heap.lt_size px.1))]
  exact px.2.1
 have loop:codeAny (model X.prog X.w) X.A (.compLoop (.ListComp elt [⟨tg,iter,ifs,0⟩] scope pos) 0 (.ref it) (.ref s2.heap.objs.size) (compEnvC scope (zbx X.env scope.names []) s3.heap.objs.size X.env))
   (RR (.ref s2.heap.objs.size) s3.heap.objs.size) {s3 with heap:=h4,toks:=s3.toks+0}:=by
  refine zhM (λn s'=>∃ i H' ys,Inv (zaT X N' scope (zbx X.env scope.names []) s3.heap.objs.size fp s3 (upd H2 s2.heap.objs.size (.lst []))) [] (zcy ms σ) H' s'/\tn i s'.heap/\(∀ b∈fp,H' b=none)/\W i n ys H') ?_ m0
   ⟨0,_,[],J4,T.keep 0 _ _ st2 λb hb o e=>old b o (old2 b o e),λb hb=>(f3 b hb).1.1,w0⟩
  rintro n s5 E ⟨i,H5,ys,J5,st5,fr5,w5⟩
  obtain⟨hD,alt⟩:=turn i n ys H5 w5
  rcases alt with ⟨stop,q⟩ | ⟨go,hz,N,hN,step⟩
  ·refine thn (TH.doneH (zaT X N' scope (zbx X.env scope.names []) s3.heap.objs.size fp s3 (upd H2 s2.heap.objs.size (.lst []))) rfl rfl rfl i [] s5 _ H5 E x0 hc.hd (noc J5) xfp J5 (stat fr5) st5 stop) λr s6 ⟨hr,J6⟩=>?_
   subst hr
   obtain⟨m,hn,_⟩:=id J6.loc
   have I6:=zfF I3 f3 J6
   refine hRR _ _ H5 s6 m hn I6 ?_ q
   have hC:H5 s3.heap.objs.size=none:=J6.free
   obtain⟨g0,g1,g2,g3,g4,g5⟩:=I3.fpOk (b:=s3.heap.objs.size) (H':=H5) (Nat.le_refl _) hC
   exact⟨g0,g1,g2,g3,g4,g5⟩
  ·refine thn (TH.itemH (zaT X N' scope (zbx X.env scope.names []) s3.heap.objs.size fp s3 (upd H2 s2.heap.objs.size (.lst []))) rfl rfl rfl i [] s5 _ H5 E J5 (stat fr5) st5 go) λr s6 ⟨u,hr,h6⟩=>?_
   subst hr
   refine thn h6 λ_ s7 ⟨x,H7,J7,r7,y7,st7,fr7⟩=>?_
   have J7':=J7.pinned (stat fr7) (T.obj _ _ st7)
   have again:∀ {σ8:St}{H8:Hp}{s8:Shared}{zs:List V},Inv (zaT X N' scope (zbx X.env scope.names []) s3.heap.objs.size fp s3 (upd H2 s2.heap.objs.size (.lst []))) ([]++zgz fp s7.heap) σ8 H8 s8->N zs H8->
     ∃ m,m<n/\∃ i H' ys,Inv (zaT X N' scope (zbx X.env scope.names []) s3.heap.objs.size fp s3 (upd H2 s2.heap.objs.size (.lst []))) [] (zcy ms σ) H' s8/\tn i s8.heap/\(∀ b∈fp,H' b=none)/\W i m ys H':=λ{σ8 H8 s8 zs} J8 n8=>by
    obtain⟨m',hm,w8⟩:=hN zs H8 n8
    refine⟨m',hm,i+1,H8,zs,zgK ok I3 f3 J8,T.keep _ _ _ st7 λb hb o e=>(J8.pin (b,o) (List.mem_append_right _ (List.mem_append_right _ (zcu hb e)))).1,λb hb=>?_,w8⟩
    obtain⟨o,e,d⟩:=T.obj _ _ st7 b hb
    exact (J8.pin (b,o) (List.mem_append_right _ (List.mem_append_right _ (zcu hb e)))).2.1
   refine wpAny_mono (hg _ _ _ _ _ _ s7 _ H7 x u _ J7' r7 (step x H7 y7)) (λ_ s8 ⟨σ8,H8,J8,q8⟩=>?_) λ_ _ z=>False.elim z
   refine wpAny_mono (ht _ _ _ _ _ _ s8 σ8 H8 _ J8 q8) (λb s9 ⟨H9,J9,q9⟩=>?_) λ_ _ z=>False.elim z
   cases b with
   | false=>exact again J9 q9
   | true=>
    refine wpAny_mono (he _ _ _ _ _ _ s9 σ8 H9 _ J9 q9) (λv s10 ⟨y,H10,J10,r10,hD10,q10⟩=>?_) λ_ _ z=>False.elim z
    refine wpAny_mono (zc0 (X:=(zaT X N' scope (zbx X.env scope.names []) s3.heap.objs.size fp s3 (upd H2 s2.heap.objs.size (.lst [])))) _ s10 σ8 H10 (.ref s2.heap.objs.size) [y] (.ref s2.heap.objs.size) [v] (λ_ H'=>H'=upd H10 s2.heap.objs.size (.lst (ys++[y]))) J10 rfl (.cons r10 .nil) ⟨_,ys,y,rfl,rfl,hD10,hz,rfl⟩)
     (λ_ s11 ⟨_,H11,J11,_,e11⟩=>?_) λ_ _ z=>False.elim z
    subst e11
    exact again J11 q10
 exact codeAny_compStart_list loop (T.self _ 0 _ _ _ (T.keep 0 _ _ st2 λb hb o e=>old b o (old2 b o e)) loop)
theorem zl0 {x0:Addr}{o0:Obj}(hc:HeldIn X x0 o0)(ok:COk X.env.scope X.N scope N' ms)(hi:PIH X tg iter wi)
  (hg:∀ cl C fp s3 H3,PG (zaT X N' scope cl C fp s3 H3) tg g) (ht:∀ cl C fp s3 H3,PIfs (zaT X N' scope cl C fp s3 H3) ifs tt) (he:∀ cl C fp s3 H3,PE (zaT X N' scope cl C fp s3 H3) elt te)
  (hs:∀ x,foldedSetIterable iter X.env x=pure x:=by intro _;rfl):PE X (.ListComp elt [⟨tg,iter,ifs,0⟩] scope pos) (zjG ms wi g tt te):=by
 intro pins s σ H Q I h
 rw[eval_ListComp]
 refine wpAny_comprehension_free (use:=none) rfl hs (ziA (ok.cells I.ok)) ok.kind ok.nm ?_
 refine zjQ (RR:=λacc C=>compPost (model X.prog X.w) X.A X.xe none (EP X pins σ Q) acc C) hc ok hi hg ht he I h λD C H' s' m hn I' ⟨g0,g1,g2,g3,g4,g5⟩ q=>?_
 refine⟨m,hn,λh' sb=>⟨.ref D,H',?_,rfl,q⟩⟩
 exact I'.turned (t':=s'.toks) (λb o hb e=>sb.extBut b o hb e) g0 g1 g3 g4 g5
end
theorem ziI {prog:Program}{w:World}{A:Around}{x:Addr}(hh:A.handled=some (.ref x))(I ax:Addr)(hne:ax≠I)(hx:x≠I)(items:Array Value) :
  Walks prog w A I [I,ax,x] [I] items.size (λi v=>items[i]?=some v) (λi h=>h.IsListIter I ax i/\h.IsList ax items/\zfN h x) where
 sub:=λb hb=>by simp at hb;simp[hb]
 frame:=λ_ _ _ st hk=>⟨st.1.at λo e=>hk I (by simp) o e,st.2.1.at λo e=>hk ax (by simp) o e,st.2.2.at λo e=>hk x (by simp) o e⟩
 item:=λi s Q E hi st hQ=>by
  refine wpAny_pyNext_list_item st.1 st.2.1 (x:=items[i]) (by simp[hi]) λh' hit' hs'=>?_
  exact hQ _ h' s.toks (by simp[hi]) ⟨hit',st.2.1.extBut hs'.extBut hne,st.2.2.at λo e=>hs'.extBut x o hx e⟩ λb o hb e=>hs'.extBut b o (λh=>hb (by simp[h])) e
 done:=λs Q E st hQ=>zcR hh st.2.2 hx st.1 st.2.1 (by simp) λh' he'=>hQ h' s.toks λb o hb e=>he' b o (λh=>hb (by simp[h])) e
 self:=λ_ _ _ _ st hQ=>wpAny_pyIter_listiter st.1 hQ
theorem zkZ {X:Cx}{x0:Addr}{o0:Obj}(hc:HeldIn X x0 o0):zb2 X (.builtin "all") (λxs H Q=>∃ (p:Addr) (bs:List Bool),xs=[.ref p]/\SqL X.K H p (bs.map V.bl)/\Q (.bl (bs.all id)) H):=by
 intro pins s σ H xs us Q I r h
 obtain⟨p,bs,rfl,hq,q⟩:=h
 obtain⟨u,rfl,rx⟩:=zfq r
 cases rx
 obtain⟨its,rv,pl,hz⟩:=I.list hq
 have hl:=rv.length
 rw[zlm] at hl
 have px:=I.pin (x0,o0) (List.mem_append_left _ hc.pn)
 have noc:∀ {o1:Obj},zfN (s.heap.push o1) x0:=λ{o1}=>by
  obtain⟨fs,n1,n2⟩:=hc.nc
  exact⟨o0,fs,Heap.get?_push_of_some _ px.1,n1,n2⟩
 refine call_all_walk (wpAny_pyIter_list pl.isList ?_)
 have hne:p≠s.heap.objs.size:=by
  obtain⟨o,ho,_⟩:=pl.isList
  exact Nat.ne_of_lt (Heap.lt_size ho)
 refine⟨s.heap.objs.size,_,_,_,_,_,λi=>bs[i]?.getD false,rfl,ziI (show X.A.in1.handled=some (.ref x0) from hc.hd) s.heap.objs.size p hne (Nat.ne_of_lt (Heap.lt_size px.1)) its.toArray,⟨⟨_,Heap.get?_push_size _ rfl,rfl,rfl⟩,Heap.IsList.push pl.isList _,noc⟩,λi v s' Q' E' hP hQ=>?_,λh' tk hk=>?_⟩
 ·obtain⟨b,hb,rfl⟩:=zfG rv (i:=i) (v:=v) (by simpa using hP)
  refine wpAny_truthy_bool ?_
  simpa [hb] using hQ
 ·rw[zhO (by rw[zst];exact hl.symm)]
  refine⟨.bl _,H,I.kept λb o e=>hk b o ?_ (Heap.get?_push_of_some _ e),rfl,q⟩
  simp only[List.mem_cons,List.not_mem_nil,or_false]
  exact Nat.ne_of_lt (Heap.lt_size e)
end L2

namespace L2
open PySem PySem.Spec PySem.Calls PyProof.Rows PySem.W
variable {X:Cx}{x0:Addr}{o0:Obj}
theorem zl1 (K:Fg){tg l:Expr}{tl:TE}(hl:PE X l tl)(hK:X.K=K:=by rfl):PIH X tg l (zke K tl):=by subst hK;exact zlZ hl
theorem zpp (K:Fg)(hc:HeldIn X x0 o0)(hK:X.K=K:=by rfl):zb2 X (.builtin "all") (rAll K):=by subst hK;exact zkZ hc
theorem zpq {k:Nat}{A:Around}(r:RoomH k A):A.units+1<cLine:=by have:=r.un;omega
theorem dspL {α:Type}{F:Addr->Hp->α->Prop}{k:Addr->α}{H:Hp}{xs:List V}(h:∀ p H',Same H H'->H' p=some (.lst xs)->F p H' (k p))(hl:xs.length<=sizeLine:=by exact zaj (by simp)):xs.length<=sizeLine/\∀ p,H p=none->F p (upd H p (.lst xs)) (k p):=⟨hl,λp hp=>h p _ (zaf hp _) zac⟩
theorem dspT {α:Type}{F:Addr->Hp->α->Prop}{k:Addr->α}{H:Hp}{xs:List V}(h:∀ p H',Same H H'->H' p=some (.tup xs)->F p H' (k p))(hl:xs.length<=sizeLine:=by exact zaj (by simp)):xs.length<=sizeLine/\∀ p,H p=none->F p (upd H p (.tup xs)) (k p):=⟨hl,λp hp=>h p _ (zaf hp _) zac⟩
end L2

namespace My
def mix (c k m:Int):Int:=(c % 2147483647+12345) * (48271+6 * k) % 1000000007 / 7 % m
theorem zdL {c k m:Int}(h:0<m):0<=mix c k m:=Int.emod_nonneg _ (by omega)
theorem zji {c k m:Int}(h:0<m):mix c k m<m:=Int.emod_lt_of_pos _ h
def cell (ns:List Int)(k:Int):Int:=ns.getD k.toNat 0
end My

namespace My
def zaz (i:Int):List Int:=0::(List.range 8).map λ(k:Nat)=>if (0+(k:Int))=i then 1 else 0
def addW (w:Int)(t l:List Int):List Int:=List.zipWith (λs n=>s+n * w) t l
def zha (ps:List (List Int × Int))(t:List Int):List Int:=ps.foldl (λt p=>addW p.2 t p.1) t
def zbV (ls:List (List Int))(ws:List Int):List Int:=zha (ls.zip ws) (List.replicate 9 0)
def ziJ (c:Int):List Int->List Int
 | []=>[]
 | x::r=>(x+c)::r
def zaQ (line:List Int)(eight:List (List Int)):List Int:=ziJ (line.headD 0) (zbV eight line.tail)
theorem zfO {w:Int}{t l:List Int}(h1:t.length=9)(h2:l.length=9):(addW w t l).length=9:=by
 unfold addW;rw[List.length_zipWith,h1,h2];rfl
theorem zdx:∀ (ps:List (List Int × Int)) (t:List Int),t.length=9->(∀ p∈ps,p.1.length=9)->(zha ps t).length=9
 | [],t,h,_=>h
 | p::ps,t,h,hp=>zdx ps _ (zfO h (hp p List.mem_cons_self)) λq hq=>hp q (List.mem_cons_of_mem _ hq)
theorem zk0 {ls:List (List Int)}{ws:List Int}(h:∀ l∈ls,l.length=9):∀ p∈ls.zip ws,p.1.length=9:=λp hp=>h p.1 (List.of_mem_zip hp).1
theorem zaU {ls:List (List Int)}{ws:List Int}(h:∀ l∈ls,l.length=9):(zbV ls ws).length=9:=zdx _ _ (by simp) (zk0 h)
theorem zjR (ps:List (List Int × Int))(p:List Int × Int)(t:List Int):zha (ps++[p]) t=addW p.2 (zha ps t) p.1:=by
 unfold zha;rw[List.foldl_append];rfl
theorem znI {ls:List (List Int)}{ws:List Int}{i:Nat}{l:List Int}{w:Int}(h1:ls[i]?=some l)(h2:ws[i]?=some w):(ls.zip ws)[i]?.toList=[(l,w)]:=by
 rw[(List.getElem?_zip_eq_some (z:=(l,w))).mpr ⟨h1,h2⟩];rfl
end My

namespace My
open PySem L2
def zax (ls:List (List Int)):D:=.lst (ls.map nums)
end My
namespace My
open PySem L2
def zjj:List Int:=[0,1,2,3,4,5,0,1]
def zc4:List (List Int):=zjj.map zaz
def dueL (leaves:List (List Int))(notes:List (List (List Int)))(place:Int):List (List Int):=if place=(notes.length:Int) then leaves.map λl=>zaQ l zc4 else notes.getD place.toNat []
theorem zk1 {i:Int} : ∀ n∈zaz i,n=0\/n=1:=λn h=>by
 rcases List.mem_cons.mp h with h | h
 ·exact .inl h
 ·obtain⟨k,_,rfl⟩:=zmm.mp h
  split
  ·exact .inr rfl
  ·exact .inl rfl
theorem zjS:∀ l∈zc4,l.length=9:=λl h=>by
 obtain⟨i,_,rfl⟩:=zmm.mp h
 simp[zaz]
theorem zjT:∀ l∈zc4,∀ n∈l,n=0\/n=1:=λl h n hn=>by
 obtain⟨i,_,rfl⟩:=zmm.mp h
 exact zk1 n hn
end My
namespace My
open PySem L2
end My

namespace My
open PySem L2
inductive Dd where
 | set (hand:Int) (line:List Int) | part (hand:Int) (line:List Int) (by':Int) | draw (hand low high:Int)
 | turn (line:List Int) (place:Int) | hold (line:List Int) | call (number g0 g1 t0 t1:Int)
def toD:Dd->D
 | .set h l=>.tup [.str "set",.int h,nums l]
 | .part h l b=>.tup [.str "part",.int h,nums l,.int b]
 | .draw h lo hi=>.tup [.str "draw",.int h,.int lo,.int hi]
 | .turn l p=>.tup [.str "turn",nums l,.int p]
 | .hold l=>.tup [.str "hold",nums l]
 | .call n g0 g1 t0 t1=>.tup [.str "call",.int n,.tup [.int g0,.int g1],.tup [.int t0,.int t1]]
def zes:Dd->Prop
 | .set _ l=>l.length=9
 | .part _ l _=>l.length=9
 | .turn l _=>l.length=9
 | .hold l=>l.length=9
 | _=>True
def btw (a b c:Int):Bool:=decide (a<=b) && decide (b<=c)
def zdW (n:Int):Bool:=btw (-1000000000) n 1000000000
def zdy (spots:List Nat)(l:List Int):Bool:=(l.map zdW).all id && (spots.map λs=>decide (l.getD s 0=0)).all id
def zd7 (spots:List Nat)(ls:List (List Int)):Bool:=decide ((ls.length:Int)<=2) && (ls.map (zdy spots)).all id
def zck (h:Int):Bool:=btw 0 h 3
def zcC (n:Int):Dd->Bool
 | .set h l=>zck h && zdy [7,8] l
 | .part h l b=>zck h && (zdy [7,8] l && btw 1 b 1000)
 | .draw h lo hi=>zck h && (zdW lo && (zdW hi && decide (lo<=hi)))
 | .turn l p=>zdy [7,8] l && btw 0 p n
 | .hold l=>zdy [7,8] l
 | .call m g0 g1 t0 t1=>([zck g0,zck g1].all id && [zck t0,zck t1].all id) && (btw 0 m 99 && !decide (t0=t1))
def zjk (needs leaves:List (List Int)):Bool:=zd7 [1,2,3,4,7,8] needs && zd7 [1,2,3,4] leaves
def zeR (deeds:List Dd):Bool:=btw 1 (deeds.length:Int) 8 && (deeds.map (zcC (deeds.length:Int))).all id
def zeS (deeds:List Dd)(notes:List (List (List Int))):Bool:=decide ((notes.length:Int)=(deeds.length:Int)) && (notes.map (zd7 [7,8])).all id
def ze5 (needs leaves:List (List Int))(deeds:List Dd)(notes:List (List (List Int))):Bool:=zjk needs leaves && (zeR deeds && zeS deeds notes)
end My

namespace My
open PySem L2
end My

namespace My
def negs (ws:List Int):List Int:=ws.map λw=>-w
def zjU (goal:List Int)(hyps:List (List Int))(whole:Int)(ws:List Int):List Int:=zbV (goal::hyps) (whole::negs ws)
def znJ (goal:List Int)(hyps:List (List Int))(whole:Int)(ws:List Int):Bool:=decide (-whole<(zjU goal hyps whole ws).headD 0) && decide ((zjU goal hyps whole ws).tail=List.replicate 8 0)
def rowB (hyps:List (List Int))(whole:Int)(ws:List Int):Bool:=decide (1<=whole) && (decide (ws.length=hyps.length) && ws.all λw=>decide (0<=w))
def zfP (goal:List Int)(hyps:List (List Int))(whole:Int)(ws:List Int):Bool:=rowB hyps whole ws && znJ goal hyps whole ws
def zdz:Nat->List (List Int)
 | 0=>[[]]
 | n+1=>(zdz n).map (λr=>r++[0])++(zdz n).map λr=>r++[1]
theorem zc5:∀ (n:Nat) (r:List Int),r∈zdz n->r.length=n/\∀ w∈r,w=0\/w=1
 | 0,r,h=>by
  unfold zdz at h
  rw[zms] at h
  subst h
  exact⟨rfl,λw hw=>by cases hw⟩
 | n+1,r,h=>by
  unfold zdz at h
  rcases zma.mp h with h | h
  ·obtain⟨q,hq,rfl⟩:=zmm.mp h
   obtain⟨a,b⟩:=zc5 n q hq
   refine⟨by simp[a],λw hw=>?_⟩
   rcases zma.mp hw with hw | hw
   ·exact b w hw
   ·exact .inl (zms.mp hw)
  ·obtain⟨q,hq,rfl⟩:=zmm.mp h
   obtain⟨a,b⟩:=zc5 n q hq
   refine⟨by simp[a],λw hw=>?_⟩
   rcases zma.mp hw with hw | hw
   ·exact b w hw
   ·exact .inr (zms.mp hw)
theorem ze6:∀ n:Nat,(zdz n).length=2 ^ n
 | 0=>rfl
 | n+1=>by
  unfold zdz
  rw[List.length_append,zlm,zlm,ze6 n,Nat.pow_succ];omega
def zgM (goal:List Int)(hyps:List (List Int))(whole:Int)(ws:List Int):Option (Int × List Int):=if zfP goal hyps whole ws=true then some (whole,ws) else none
def zfl (goal:List Int)(hyps:List (List Int))(whole:Int):Option (Int × List Int):=(zdz hyps.length).findSome? (zgM goal hyps whole)
def zbL (goal:List Int)(hyps:List (List Int)):Option (Int × List Int):=[1,2,3,4].findSome? (zfl goal hyps)
theorem zhb {α β:Type} : ∀ {l:List α}{f:α->Option β}{i:Nat}{x:α}{y:β},(l.take i).findSome? f=none->l[i]?=some x->f x=some y->l.findSome? f=some y
 | [],f,i,x,y,_,e,_=>by simp at e
 | a::l,f,0,x,y,_,e,h=>by
  simp at e;subst e
  rw[List.findSome?_cons,h]
 | a::l,f,i+1,x,y,n,e,h=>by
  rw[List.take_succ_cons,List.findSome?_cons] at n
  cases hf:f a with
  | some z=>rw[hf] at n;cases n
  | none=>
   rw[hf] at n
   rw[List.findSome?_cons,hf]
   exact zhb n (by simpa using e) h
theorem zfQ {α β:Type} : ∀ {l:List α}{f:α->Option β}{i:Nat}{x:α},(l.take i).findSome? f=none->l[i]?=some x->f x=none->(l.take (i+1)).findSome? f=none
 | [],f,i,x,_,e,_=>by simp at e
 | a::l,f,0,x,_,e,h=>by
  simp at e;subst e
  simp[h]
 | a::l,f,i+1,x,n,e,h=>by
  rw[List.take_succ_cons,List.findSome?_cons] at n
  cases hf:f a with
  | some z=>rw[hf] at n;cases n
  | none=>
   rw[hf] at n
   rw[List.take_succ_cons,List.findSome?_cons,hf]
   exact zfQ n (by simpa using e) h
theorem zjl {α β:Type}{l:List α}{f:α->Option β}{n:Nat}(h:(l.take n).findSome? f=none)(hn:l.length<=n):l.findSome? f=none:=by
 rwa [List.take_of_length_le hn] at h
end My

namespace My
open PySem L2
section
variable {needs leaves:List (List Int)}{deeds:List Dd}{notes:List (List (List Int))}
end
end My

namespace My
def kL (n:Int):List Int:=n::List.replicate 8 0
def zfR (line:List Int):List Int:=zbV [line,kL 1] [-1,-1]
def zd8 (lo:Int):List Int:=zbV [zaz 6,kL lo] [1,-1]
def zfS (hi:Int):List Int:=zbV [kL hi,zaz 6] [1,-1]
def zdd (line:List Int)(b:Int):List Int:=zbV [line,zaz 6] [1,-b]
def greatest (line:List Int)(b:Int):List Int:=zbV [zaz 6,kL (b - 1),line] [b,1,-1]
theorem zbc (n:Int):(kL n).length=9:=by simp[kL]
theorem zan (i:Int):(zaz i).length=9:=by simp[zaz]
structure Good (needs leaves:List (List Int))(n:Nat)(notes:List (List (List Int))):Prop where
 dn:n=notes.length
 d:n<=100
 n:needs.length<=100
 l:leaves.length<=100
 n9:∀ l∈needs,l.length=9
 l9:∀ l∈leaves,l.length=9
 o:∀ ls∈notes,ls.length<=100/\∀ l∈ls,l.length=9
theorem Good.due {needs leaves:List (List Int)}{n:Nat}{notes:List (List (List Int))}(g:Good needs leaves n notes)(place:Int):(dueL leaves notes place).length<=100/\∀ l∈dueL leaves notes place,l.length=9:=by
 unfold dueL
 split
 ·refine⟨by rw[zlm];exact g.l,λl hl=>?_⟩
  obtain⟨m,hm,rfl⟩:=zmm.mp hl
  have h9:∀ l∈zc4,l.length=9:=λl hl=>by
   unfold zc4 at hl
   obtain⟨i,_,rfl⟩:=zmm.mp hl
   exact zan i
  have hs:=zaU (ws:=m.tail) h9
  unfold zaQ
  cases e:zbV zc4 m.tail with
  | nil=>rw[e] at hs;simp at hs
  | cons x r=>rw[e] at hs;simpa [ziJ] using hs
 ·rw[List.getD_eq_getElem?_getD]
  cases e:notes[place.toNat]? with
  | none=>simp
  | some ls=>exact g.o ls (zmg e)
end My

namespace My
open PySem L2 PyProof.Rows
def zhc (H:Hp):List D->List V->Prop
 | [],[]=>True
 | d::ds,x::xs=>Part H d x/\zhc H ds xs
 | _,_=>False
theorem zhY {H:Hp} : ∀ {ds:List D}{xs:List V},zhc H ds xs->ds.length=xs.length
 | [],[],_=>rfl
 | _::_,_::_,h=>by rw[List.length_cons,List.length_cons,zhY h.2]
 | [],_::_,h=>h.elim
 | _::_,[],h=>h.elim
theorem zjm {H:Hp} : ∀ {ds:List D}{xs:List V},zhc H ds xs->∀ (i:Nat) dd x,ds[i]?=some dd->xs[i]?=some x->Part H dd x
 | [],_,_,i,_,_,e,_=>by simp at e
 | _::_,[],h,_,_,_,_,_=>h.elim
 | d::ds,x::xs,h,0,_,_,e1,e2=>by simp at e1 e2;subst e1;subst e2;exact h.1
 | d::ds,x::xs,h,i+1,dd,y,e1,e2=>zjm h.2 i dd y (by simpa using e1) (by simpa using e2)
theorem zhZ {H:Hp} : ∀ {ds:List D}{xs:List V},ds.length=xs.length->(∀ (i:Nat) dd x,ds[i]?=some dd->xs[i]?=some x->Part H dd x)->zhc H ds xs
 | [],[],_,_=>trivial
 | [],_::_,e,_=>by simp at e
 | _::_,[],e,_=>by simp at e
 | d::ds,x::xs,e,h=>⟨h 0 d x rfl rfl,zhZ (by simpa using e) λi dd y e1 e2=>h (i+1) dd y (by simpa using e1) (by simpa using e2)⟩
theorem ziK {H:Hp}{t:Addr}{xs:List V}{ds:List D}(h:H t=some (.tup xs))(l:ds.length<=8)(p:zhc H ds xs):zaW H (.tup ds) (.ref t):=⟨t,xs,ds,rfl,rfl,h,zhY p,l,zjm p⟩
theorem zbl {H:Hp}{ds:List D}{v:V}(h:zaW H (.tup ds) v):∃ t xs,v=.ref t/\H t=some (.tup xs)/\zhc H ds xs:=by
 obtain⟨t,xs,ds',e,rfl,h1,h2,_,h3⟩:=h
 cases e
 exact⟨t,xs,rfl,h1,zhZ h2 h3⟩
theorem zar {H:Hp}{d:D}{ds:List D}{xs:List V}(h:zhc H (d::ds) xs):∃ x r,xs=x::r/\Part H d x/\zhc H ds r:=by
 cases xs with
 | nil=>exact h.elim
 | cons x r=>exact⟨x,r,rfl,h.1,h.2⟩
theorem zc6 {H:Hp}{xs:List V}(h:zhc H [] xs):xs=[]:=by
 cases xs with
 | nil=>rfl
 | cons x r=>exact h.elim
theorem zbW {H:Hp}{s:Str}{x:V}(h:Part H (.str s) x):x=.str s:=by
 rcases h with ⟨i,e,_⟩ | ⟨z,e,rfl⟩ | ⟨b,l,e,_⟩ | ⟨b,i,j,e,_⟩ <;> cases e
 rfl
theorem zbz {H:Hp}{s:Int}{x:V}(h:Part H (.int s) x):x=.int s:=by
 rcases h with ⟨i,e,rfl⟩ | ⟨z,e,_⟩ | ⟨b,l,e,_⟩ | ⟨b,i,j,e,_⟩ <;> cases e
 rfl
theorem zhd:∀ {l m:List Int},l.map D.int=m.map D.int->l=m
 | [],[],_=>rfl
 | [],_::_,e=>by simp at e
 | _::_,[],e=>by simp at e
 | a::l,b::m,e=>by
  rw[zmc,zmc] at e
  injection e with e1 e2
  injection e1 with e1
  rw[e1,zhd e2]
theorem zet {H:Hp}{l:List Int}{x:V}(h:Part H (nums l) x):∃ b,x=.ref b/\H b=some (.lst (l.map V.int)):=by
 rcases h with ⟨i,e,_⟩ | ⟨z,e,_⟩ | ⟨b,m,e,h1,h2⟩ | ⟨b,i,j,e,_⟩
 ·cases e
 ·cases e
 ·injection e with e
  rw[zhd e]
  exact⟨b,h1,h2⟩
 ·cases e
theorem zh0 {H:Hp}{i j:Int}{x:V}(h:Part H (.tup [.int i,.int j]) x):∃ b,x=.ref b/\H b=some (.tup [.int i,.int j]):=by
 rcases h with ⟨i',e,_⟩ | ⟨z,e,_⟩ | ⟨b,m,e,h1,h2⟩ | ⟨b,i',j',e,h1,h2⟩
 ·cases e
 ·cases e
 ·cases e
 ·cases e
  exact⟨b,h1,h2⟩
def R2 {α:Type}(P:α->V->Prop)(as:List α)(xs:List V):Prop:=as.length=xs.length/\∀ (i:Nat) a x,as[i]?=some a->xs[i]?=some x->P a x
theorem R2.nil {α:Type}{P:α->V->Prop} : R2 P [] []:=⟨rfl,λi a x e _=>by simp at e⟩
theorem R2.mono {α:Type}{P P':α->V->Prop}{as:List α}{xs:List V}(h:R2 P as xs)(m:∀ a x,P a x->P' a x):R2 P' as xs:=⟨h.1,λi a x e1 e2=>m a x (h.2 i a x e1 e2)⟩
theorem R2.get {α:Type}{P:α->V->Prop}{as:List α}{xs:List V}(h:R2 P as xs){i:Nat}(hi:i<as.length):∃ x,xs[i]?=some x/\P (as[i]) x:=by
 have hj:i<xs.length:=by rw[<-h.1];exact hi
 exact⟨xs[i],by simp,h.2 i _ _ (by simp) (by simp)⟩
def zeT (H:Hp):List Dd->List V->Prop:=R2 λd x=>zaW H (toD d) x
theorem zeT.same {H H':Hp}{ds:List Dd}{xs:List V}(e:Same H H')(h:zeT H ds xs):zeT H' ds xs:=R2.mono h λ_ _ z=>z.sq e.sq
def zbX:Dd->Str
 | .set _ _=>"set"
 | .part _ _ _=>"part"
 | .draw _ _ _=>"draw"
 | .turn _ _=>"turn"
 | .hold _=>"hold"
 | .call _ _ _ _ _=>"call"
theorem zd9 {H:Hp}{d:Dd}{x:V}(h:zaW H (toD d) x):∃ t xs,x=.ref t/\H t=some (.tup (.str (zbX d)::xs)):=by
 cases d <;> (obtain⟨t,xs,rfl,h1,px⟩:=zbl h;obtain⟨x0,r,rfl,e0,px⟩:=zar px;cases zbW e0;exact⟨t,r,rfl,h1⟩)
theorem zjn {d:Dd}(h:zes d):Deed (toD d):=by
 cases d with
 | set hd l=>exact⟨_,rfl,by simp,λc hc=>by
   simp at hc
   rcases hc with rfl | rfl | rfl
   ·exact .inr (.inl ⟨_,rfl⟩)
   ·exact .inl ⟨_,rfl⟩
   ·exact .inr (.inr (.inl ⟨l,h,rfl⟩))⟩
 | part hd l b=>exact⟨_,rfl,by simp,λc hc=>by
   simp at hc
   rcases hc with rfl | rfl | rfl | rfl
   ·exact .inr (.inl ⟨_,rfl⟩)
   ·exact .inl ⟨_,rfl⟩
   ·exact .inr (.inr (.inl ⟨l,h,rfl⟩))
   ·exact .inl ⟨_,rfl⟩⟩
 | draw hd lo hi=>exact⟨_,rfl,by simp,λc hc=>by
   simp at hc
   rcases hc with rfl | rfl | rfl | rfl
   ·exact .inr (.inl ⟨_,rfl⟩)
   ·exact .inl ⟨_,rfl⟩
   ·exact .inl ⟨_,rfl⟩
   ·exact .inl ⟨_,rfl⟩⟩
 | turn l p=>exact⟨_,rfl,by simp,λc hc=>by
   simp at hc
   rcases hc with rfl | rfl | rfl
   ·exact .inr (.inl ⟨_,rfl⟩)
   ·exact .inr (.inr (.inl ⟨l,h,rfl⟩))
   ·exact .inl ⟨_,rfl⟩⟩
 | hold l=>exact⟨_,rfl,by simp,λc hc=>by
   simp at hc
   rcases hc with rfl | rfl
   ·exact .inr (.inl ⟨_,rfl⟩)
   ·exact .inr (.inr (.inl ⟨l,h,rfl⟩))⟩
 | call m g0 g1 t0 t1=>exact⟨_,rfl,by simp,λc hc=>by
   simp at hc
   rcases hc with rfl | rfl | rfl | rfl
   ·exact .inr (.inl ⟨_,rfl⟩)
   ·exact .inl ⟨_,rfl⟩
   ·exact .inr (.inr (.inr ⟨_,_,rfl⟩))
   ·exact .inr (.inr (.inr ⟨_,_,rfl⟩))⟩
end My

namespace My
theorem zeros9e:List.replicate 9 (0:Int)=[0,0,0,0,0,0,0,0,0]:=rfl
theorem kLe (n:Int):kL n=[n,0,0,0,0,0,0,0,0]:=rfl
end My

namespace My
open PySem L2 PyProof.Rows
abbrev Du:=List Int × List (List Int)
def duD (g:Du):D:=.tup [nums g.1,zax g.2]
def zh1 (H:Hp)(g:Du)(v:V):Prop:=∃ T ga na,v=.ref T/\H T=some (.tup [.ref ga,.ref na])/\H ga=some (.lst (g.1.map V.int))/\Ls H na g.2
theorem zh1.same {H H':Hp}{g:Du}{v:V}(e:Same H H')(h:zh1 H g v):zh1 H' g v:=by
 obtain⟨T,ga,na,rfl,h1,h2,h3⟩:=h
 exact⟨T,ga,na,rfl,e _ _ h1,e _ _ h2,h3.same e⟩
theorem RepF.duty {H:Hp}{g:Du}{v:V}{f:List Addr}(h:RepF H (duD g) v f):∃ (T ga na:Addr) (as:List Addr),v=.ref T/\H T=some (.tup [.ref ga,.ref na])/\H ga=some (.lst (g.1.map V.int))/\H na=some (.lst (as.map V.ref))/\as.length=g.2.length/\(∀ (i:Nat) a l,as[i]?=some a->g.2[i]?=some l->H a=some (.lst (l.map V.int)))/\ga∈f/\na∈f/\∀ b∈as,b∈f:=by
 unfold duD RepF at h
 obtain⟨T,xs,rfl,hT,hx⟩:=h
 unfold zai at hx
 obtain⟨x1,r1,f1,g1,rfl,rfl,h1,hx⟩:=hx
 unfold zai at hx
 obtain⟨x2,r2,f2,g2,rfl,rfl,h2,hx⟩:=hx
 unfold zai at hx
 obtain⟨rfl,rfl⟩:=hx
 unfold RepF at h1
 obtain⟨ga,ys,r3,rfl,rfl,hga,hy⟩:=h1
 obtain⟨rfl,rfl⟩:=zai.ints_eq hy
 unfold zax RepF at h2
 obtain⟨na,zs,as,rfl,rfl,hna,hz⟩:=h2
 obtain⟨rfl,e2,e3⟩:=zai.lines hz
 refine⟨T,ga,na,as,rfl,hT,hga,hna,e2,λi a l q1 q2=>?_,by simp,by simp,λb hb=>by simp[hb]⟩
 obtain⟨l',z1,z2⟩:=e3 i a q1
 rw[q2] at z1;cases z1
 exact z2
theorem RepF.dutyAt {H:Hp}{g:Du}{v:V}{f:List Addr}(h:RepF H (duD g) v f):zh1 H g v:=by
 obtain⟨T,ga,na,as,rfl,h1,h2,h3,h4,h5,_⟩:=RepF.duty h
 exact⟨T,ga,na,rfl,h1,h2,as,h3,h4,h5⟩
theorem zai.duties {H:Hp}{gs:List Du}{xs:List V}{fp:List Addr}(h:zai H (gs.map duD) xs fp):R2 (zh1 H) gs xs:=⟨by have:=h.length;simpa using this,λi g x e1 e2=>by
 obtain⟨f,hf⟩:=zai.item h i (duD g) x (by rw[zgm,e1];rfl) e2
 exact RepF.dutyAt hf⟩
def NoD (H H':Hp):Prop:=∀ b o,H b=some o->(∀ kvs,o≠HO.dK kvs)->H' b=some o
theorem _root_.L2.Same.nod {H H':Hp}(e:Same H H'):NoD H H':=λb o h _=>e b o h
theorem NoD.trans {H H1 H2:Hp}(a:NoD H H1)(b:NoD H1 H2):NoD H H2:=λc o h n=>b c o (a c o h n) n
theorem zcD {H:Hp}{p:Addr}{o:HO}{kvs:List (Key × V)}(h:H p=some (.dK kvs)):NoD H (upd H p o):=λb u e n=>by
 rw[zam (λz=>by rw[z,h] at e;exact n kvs (Option.some.inj e).symm)]
 exact e
theorem NoD.sq {H H':Hp}(e:NoD H H'):Sq H H':=λb o h q=>e b o h λkvs z=>by rw[z] at q;cases q
theorem zk2 {κ:Type}[DecidableEq κ](kvs:List (κ × V))(k:κ)(v:V):(putK kvs k v).map (·.1)=if k∈kvs.map (·.1) then kvs.map (·.1) else kvs.map (·.1)++[k]:=by
 cases h:valV kvs k with
 | some y=>
  rw[if_pos (zkE h)]
  unfold putK
  rw[zcN,h]
  rw[if_pos (show (some y).isSome=true from rfl),List.map_map]
  refine List.map_congr_left λp _=>?_
  show (if p.1=k then (p.1,v) else p).1=p.1
  split <;> rfl
 | none=>rw[if_neg (zlF h),zlD v h,List.map_append];rfl
theorem ziL {ks:List Int}{m:Int} : (Sum.inl m:Key)∈ks.map (Sum.inl:Int->Key)↔m∈ks:=by
 constructor
 ·intro h
  obtain⟨x,hx,e⟩:=zmm.mp h
  injection e with e
  rw[<-e];exact hx
 ·intro h;exact List.mem_map_of_mem h
theorem zjV {ks:List Int}{m:Int} : (ks.map (Sum.inl:Int->Key)).filter (λk=>decide (k≠Sum.inl m))=(ks.filter λk=>decide (k≠m)).map Sum.inl:=by
 rw[List.filter_map]
 congr 1
 refine List.filter_congr λx _=>?_
 show decide ((Sum.inl x:Key)≠Sum.inl m)=decide (x≠m)
 refine decide_eq_decide.mpr ⟨λh z=>h (by rw[z]),λh z=>h (by injection z)⟩
theorem zjW {kvs:List (Key × V)}{k:Key} : (zbI kvs k).map (·.1)=(kvs.map (·.1)).filter (λj=>decide (j≠k)):=by
 unfold zbI
 rw[List.filter_map]
 rfl
def KVs (P:Int->V->Prop)(kvs:List (Key × V))(ks:List Int):Prop:=kvs.map (·.1)=ks.map Sum.inl/\ks.Nodup/\∀ m∈ks,∃ v,valV kvs (.inl m)=some v/\P m v
theorem KVs.nil {P:Int->V->Prop} : KVs P [] []:=⟨rfl,List.nodup_nil,λm hm=>by simp at hm⟩
theorem KVs.mono {P P':Int->V->Prop}{kvs:List (Key × V)}{ks:List Int}(h:KVs P kvs ks)(m:∀ k v,P k v->P' k v):KVs P' kvs ks:=⟨h.1,h.2.1,λk hk=>by
 obtain⟨v,h1,h2⟩:=h.2.2 k hk
 exact⟨v,h1,m k v h2⟩⟩
theorem KVs.len {P:Int->V->Prop}{kvs:List (Key × V)}{ks:List Int}(h:KVs P kvs ks):kvs.length=ks.length:=by
 have:=congrArg List.length h.1
 simpa using this
theorem KVs.no {P:Int->V->Prop}{kvs:List (Key × V)}{ks:List Int}{m:Int}(h:KVs P kvs ks)(n:m∉ks):valV kvs (.inl m)=none:=by
 cases e:valV kvs (.inl m) with
 | none=>rfl
 | some v=>
  have:=zkE e
  rw[h.1] at this
  exact absurd (ziL.mp this) n
theorem KVs.put {P:Int->V->Prop}{kvs:List (Key × V)}{ks:List Int}{m:Int}{v:V}(h:KVs P kvs ks)(hv:P m v):KVs P (putK kvs (.inl m) v) (if m∈ks then ks else ks++[m]):=by
 refine⟨?_,?_,λk hk=>?_⟩
 ·rw[zk2,h.1]
  by_cases z:m∈ks
  ·rw[if_pos (ziL.mpr z),if_pos z]
  ·rw[if_neg (λw=>z (ziL.mp w)),if_neg z,List.map_append];rfl
 ·by_cases z:m∈ks
  ·rw[if_pos z];exact h.2.1
  ·rw[if_neg z];exact zkF h.2.1 z
 ·rw[zdJ]
  by_cases e:k=m
  ·subst e;exact⟨v,by rw[if_pos rfl],hv⟩
  ·rw[if_neg (λw=>e (by injection w))]
   refine h.2.2 k ?_
   by_cases z:m∈ks
   ·rw[if_pos z] at hk;exact hk
   ·rw[if_neg z] at hk
    rcases zma.mp hk with w | w
    ·exact w
    ·exact absurd (zms.mp w) e
theorem KVs.put' {P P':Int->V->Prop}{kvs:List (Key × V)}{ks:List Int}{m:Int}{v:V}(h:KVs P kvs ks)(hv:P' m v)(hP:∀ k v,k≠m->P k v->P' k v):KVs P' (putK kvs (.inl m) v) (if m∈ks then ks else ks++[m]):=by
 have h0:KVs (λk w=>k=m/\w=v\/P k w) (putK kvs (.inl m) v) (if m∈ks then ks else ks++[m]):=(h.mono λk w z=>.inr z).put (.inl ⟨rfl,rfl⟩)
 refine⟨h0.1,h0.2.1,λk hk=>?_⟩
 by_cases e:k=m
 ·subst e
  exact⟨v,by rw[zdJ,if_pos rfl],hv⟩
 ·obtain⟨w,e1,e2⟩:=h0.2.2 k hk
  rcases e2 with ⟨e2,_⟩ | e2
  ·exact absurd e2 e
  ·exact⟨w,e1,hP k w e e2⟩
theorem KVs.drop {P:Int->V->Prop}{kvs:List (Key × V)}{ks:List Int}{m:Int}(h:KVs P kvs ks):KVs P (zbI kvs (.inl m)) (ks.filter λk=>decide (k≠m)):=by
 refine⟨by rw[zjW,h.1];exact zjV,h.2.1.filter _,λk hk=>?_⟩
 obtain⟨h1,h2⟩:=List.mem_filter.mp hk
 have h2:k≠m:=of_decide_eq_true h2
 rw[zhX,if_neg (λw=>h2 (by injection w))]
 exact h.2.2 k h1
theorem znK {leaves:List (List Int)}{notes:List (List (List Int))}(h1:leaves.length<=2)(h2:∀ ls∈notes,ls.length<=2)(place:Int):(dueL leaves notes place).length<=2:=by
 unfold dueL
 split
 ·rw[zlm];exact h1
 ·rw[List.getD_eq_getElem?_getD]
  cases e:notes[place.toNat]? with
  | none=>simp
  | some ls=>exact h2 ls (zmg e)
def zaG (ch:Nat->Option (List Int)):List (List Int):=(List.range 8).map λ(i:Nat)=>(ch i).getD (zaz (0+(i:Int)))
def ch1 (k:Int)(l:List Int)(i:Nat):Option (List Int):=if k=0+(i:Int) then some l else none
def ch2 (k0:Int)(l0:List Int)(k1:Int)(l1:List Int)(i:Nat):Option (List Int):=if k1=0+(i:Int) then some l1 else if k0=0+(i:Int) then some l0 else none
def ch4 (i:Nat):Option (List Int):=if i=0 then some (zaz 4) else if i=1 then some (zaz 5) else if i=2 then some (kL 0) else if i=3 then some (kL 0) else none
def zdn (goal:List Int)(hyps:List (List Int)):D:=.tup [nums goal,zax hyps]
def zh2 (needs leaves:List (List Int))(notes:List (List (List Int))):List D:=((dueL leaves notes 0).map λl=>zaQ l (zaG ch4)).map λg=>zdn g needs
abbrev Oath:=Int->List (List Int) × List (List Int)
def zeu (N A:List (List Int))(T:Int->List (List Int))(oath:Oath):Dd->List D
 | .set h l=>(A.map λx=>zaQ x (zaG (ch1 h l))).map λg=>zdn g N
 | .part h l b=>(A.map λx=>zaQ x (zaG (ch1 h (zaz 6)))).map λg=>zdn g (N++[zdd l b,greatest l b])
 | .draw h lo hi=>(A.map λx=>zaQ x (zaG (ch1 h (zaz 6)))).map λg=>zdn g (N++[zd8 lo,zfS hi])
 | .turn l p=>((T p).map λg=>zdn g (N++[l]))++A.map λg=>zdn g (N++[zfR l])
 | .hold l=>[zdn l N]++A.map λg=>zdn g (N++[l])
 | .call m g0 g1 t0 t1=>(((oath m).1.map λx=>zaQ x (zaG (ch2 4 (zaz g0) 5 (zaz g1)))).map λg=>zdn g N)++(A.map λx=>zaQ x (zaG (ch2 t0 (zaz 6) t1 (zaz 7)))).map λg=>zdn g (N++(oath m).2.map λx=>zaQ x (zaG (ch2 4 (zaz g0) 5 (zaz g1))))
def za0 (leaves:List (List Int))(notes:List (List (List Int)))(oath:Oath):List Dd->Nat->List D
 | [],_=>[]
 | d::ds,p=>zeu (dueL leaves notes p) (dueL leaves notes (p+1)) (dueL leaves notes) oath d++za0 leaves notes oath ds (p+1)
theorem zea (leaves:List (List Int))(notes:List (List (List Int)))(oath:Oath):∀ (xs ys:List Dd) (p:Nat),za0 leaves notes oath (xs++ys) p=za0 leaves notes oath xs p++za0 leaves notes oath ys (p+xs.length)
 | [],ys,p=>rfl
 | x::xs,ys,p=>by
  show zeu _ _ _ _ x++za0 leaves notes oath (xs++ys) (p+1)=(zeu _ _ _ _ x++za0 leaves notes oath xs (p+1))++_
  rw[zea leaves notes oath xs ys (p+1),List.append_assoc,List.length_cons,show p+1+xs.length=p+(xs.length+1) by omega]
def zfT (needs leaves:List (List Int))(deeds:List Dd)(notes:List (List (List Int)))(oath:Oath):List D:=zh2 needs leaves notes++za0 leaves notes oath deeds 0
def zcl (N A:List (List Int))(T:Int->List (List Int))(oath:Oath):Dd->List Du
 | .set h l=>A.map λx=>(zaQ x (zaG (ch1 h l)),N)
 | .part h l b=>A.map λx=>(zaQ x (zaG (ch1 h (zaz 6))),N++[zdd l b,greatest l b])
 | .draw h lo hi=>A.map λx=>(zaQ x (zaG (ch1 h (zaz 6))),N++[zd8 lo,zfS hi])
 | .turn l p=>((T p).map λg=>(g,N++[l]))++A.map λg=>(g,N++[zfR l])
 | .hold l=>[(l,N)]++A.map λg=>(g,N++[l])
 | .call m g0 g1 t0 t1=>((oath m).1.map λx=>(zaQ x (zaG (ch2 4 (zaz g0) 5 (zaz g1))),N))++A.map λx=>(zaQ x (zaG (ch2 t0 (zaz 6) t1 (zaz 7))),N++(oath m).2.map λx=>zaQ x (zaG (ch2 4 (zaz g0) 5 (zaz g1))))
theorem zk3 (N A:List (List Int))(T:Int->List (List Int))(oath:Oath)(d:Dd):(zcl N A T oath d).map duD=zeu N A T oath d:=by
 cases d <;> simp only[zcl,zeu,List.map_append,List.map_map,zmc,List.map_nil] <;> rfl
def zjo (needs leaves:List (List Int))(notes:List (List (List Int))):List Du:=(dueL leaves notes 0).map λl=>(zaQ l (zaG ch4),needs)
def zdX (leaves:List (List Int))(notes:List (List (List Int)))(oath:Oath):List Dd->Nat->List Du
 | [],_=>[]
 | d::ds,p=>zcl (dueL leaves notes p) (dueL leaves notes (p+1)) (dueL leaves notes) oath d++zdX leaves notes oath ds (p+1)
theorem zh3 (leaves:List (List Int))(notes:List (List (List Int)))(oath:Oath):∀ (ds:List Dd) (p:Nat),(zdX leaves notes oath ds p).map duD=za0 leaves notes oath ds p
 | [],p=>rfl
 | d::ds,p=>by
  show (zcl _ _ _ _ d++zdX leaves notes oath ds (p+1)).map duD=zeu _ _ _ _ d++za0 leaves notes oath ds (p+1)
  rw[List.map_append,zk3,zh3 leaves notes oath ds (p+1)]
def zfU (needs leaves:List (List Int))(deeds:List Dd)(notes:List (List (List Int)))(oath:Oath):List Du:=zjo needs leaves notes++zdX leaves notes oath deeds 0
theorem zgN (needs leaves:List (List Int))(deeds:List Dd)(notes:List (List (List Int)))(oath:Oath):(zfU needs leaves deeds notes oath).map duD=zfT needs leaves deeds notes oath:=by
 unfold zfU zfT
 rw[List.map_append,zh3]
 congr 1
 unfold zjo zh2
 rw[List.map_map,List.map_map]
 rfl
def Sm (l:List Int):Prop:=∀ n∈l,-(2 ^ 64)<n/\n<2 ^ 64
def zbf:Dd->Option Int
 | .call m _ _ _ _=>some m
 | _=>none
def zaw (deeds:List Dd):List Int:=deeds.filterMap zbf
def dOk (n:Nat):Dd->Prop
 | .set _ l=>l.length=9/\Sm l
 | .part _ l b=>l.length=9/\(-1000000<b/\b<1000000)
 | .turn l p=>l.length=9/\0<=p/\p<=(n:Int)
 | .hold l=>l.length=9
 | _=>True
theorem zjX {deeds:List Dd}{m:Int}(h:m∈zaw deeds):∃ d∈deeds,zbf d=some m:=by
 unfold zaw at h
 exact List.mem_filterMap.mp h
theorem zl2 {deeds:List Dd}{m g0 g1 t0 t1:Int}(h:Dd.call m g0 g1 t0 t1∈deeds):m∈zaw deeds:=by
 unfold zaw
 exact List.mem_filterMap.mpr ⟨_,h,rfl⟩
def OffA (S:List Addr)(H H':Hp):Prop:=∀ b o,b∉S->H b=some o->H' b=some o
theorem _root_.L2.Same.offA {S:List Addr}{H H':Hp}(e:Same H H'):OffA S H H':=λb o _ h=>e b o h
theorem OffA.trans {S:List Addr}{H H1 H2:Hp}(a:OffA S H H1)(b:OffA S H1 H2):OffA S H H2:=λc o n h=>b c o n (a c o n h)
theorem zcc {S:List Addr}{H:Hp}{p:Addr}{o:HO}(h:p∈S):OffA S H (upd H p o):=λb u n e=>by
 rw[zam (λz=>n (by rw[z];exact h))];exact e
theorem OffA.nod {S:List Addr}{H H':Hp}(e:OffA S H H')(h:∀ a∈S,∃ kvs,H a=some (.dK kvs)):NoD H H':=λb o hb n=>e b o (λz=>by
 obtain⟨kvs,hk⟩:=h b z
 rw[hk] at hb
 exact n kvs (Option.some.inj hb).symm) hb
structure Cr where
 needs:List (List Int)
 leaves:List (List Int)
 deeds:List Dd
 notes:List (List (List Int))
def hfl (la va:Addr):List (Str × V):=putF "vouched" (.ref va) (putF "laid" (.ref la) [])
theorem zde (la va:Addr):(hfl la va).lookup ("laid" : Str)=some (.ref la):=by
 unfold hfl
 rw[zaE,if_neg (by decide +kernel),zaE,if_pos rfl]
theorem zdM (la va:Addr):(hfl la va).lookup ("vouched" : Str)=some (.ref va):=by
 unfold hfl
 rw[zaE,if_pos rfl]
theorem zdo {la va:Addr}{m:Str}(h1:¬ m ="vouched")(h2:¬ m ="laid"):(hfl la va).lookup m=none:=by
 unfold hfl
 rw[zaE,if_neg h1,zaE,if_neg h2]
 rfl
theorem zfm {n:Int} : ∀ {l:List Int},inV (.int n) (l.map V.int)=decide (n∈l)
 | []=>by simp[inV]
 | a::l=>by
  have ih:=zfm (n:=n) (l:=l)
  unfold inV at ih ⊢
  rw[zmc,List.any_cons,ih]
  by_cases z:n=a
  ·subst z;simp[eqV]
  ·have:eqV (.int a) (.int n)=false:=by
    simp[eqV]
    intro w;exact z w.symm
   rw[this]
   simp[z]
theorem zjY (zs:List Int):(zs.map V.int).all zds=true:=by rw[List.all_map,List.all_eq_true];intro x _;rfl
end My

namespace My
open PySem L2 PyProof.Rows
theorem zeros8e:List.replicate 8 (0:Int)=[0,0,0,0,0,0,0,0]:=rfl
def found (g:Du):Prop:=(zbL g.1 g.2).isSome=true
theorem zh4 {α β:Type}{l:List α}{f:α->Option β}{x:α}(m:x∈l)(h:(f x).isSome=true):(l.findSome? f).isSome=true:=by
 cases e:l.findSome? f with
 | some y=>rfl
 | none=>
  rw[List.findSome?_eq_none_iff] at e
  rw[e x m] at h
  exact h
theorem e9 {ch:Nat->Option (List Int)}(h:∀ i l,ch i=some l->l.length=9):∀ l∈zaG ch,l.length=9:=λl hl=>by
 obtain⟨i,_,rfl⟩:=zmm.mp hl
 cases e:ch i with
 | none=>exact zan _
 | some l=>exact h i l e
theorem e9_1 {k:Int}{l:List Int}(h:l.length=9):∀ x∈zaG (ch1 k l),x.length=9:=e9 λi m e=>by
 unfold ch1 at e
 split at e
 ·cases e;exact h
 ·cases e
theorem e9_2 {k0 k1:Int}{l0 l1:List Int}(h0:l0.length=9)(h1:l1.length=9):∀ x∈zaG (ch2 k0 l0 k1 l1),x.length=9:=e9 λi m e=>by
 unfold ch2 at e
 split at e
 ·cases e;exact h1
 split at e
 ·cases e;exact h0
 ·cases e
theorem e9_4:∀ x∈zaG ch4,x.length=9:=e9 λi m e=>by
 unfold ch4 at e
 split at e
 ·cases e;exact zan _
 split at e
 ·cases e;exact zan _
 split at e
 ·cases e;exact zbc _
 split at e
 ·cases e;exact zbc _
 ·cases e
theorem ziM {l:List Int}{b:Int}(h:l.length=9):(zdd l b).length=9/\(greatest l b).length=9/\(zfR l).length=9:=by
 refine⟨?_,?_,?_⟩
 ·unfold zdd;exact zaU λz hz=>by
   simp at hz
   rcases hz with rfl | rfl
   ·exact h
   ·exact zan 6
 ·unfold greatest;exact zaU λz hz=>by
   simp at hz
   rcases hz with rfl | rfl | rfl
   ·exact zan 6
   ·exact zbc _
   ·exact h
 ·unfold zfR;exact zaU λz hz=>by
   simp at hz
   rcases hz with rfl | rfl
   ·exact h
   ·exact zbc _
theorem zk4 {lo hi:Int} : (zd8 lo).length=9/\(zfS hi).length=9:=by
 refine⟨?_,?_⟩
 ·unfold zd8;exact zaU λz hz=>by
   simp at hz
   rcases hz with rfl | rfl
   ·exact zan 6
   ·exact zbc _
 ·unfold zfS;exact zaU λz hz=>by
   simp at hz
   rcases hz with rfl | rfl
   ·exact zbc _
   ·exact zan 6
section
variable {H H1:Hp}{la t g u:Addr}{l:List Int}
end
theorem zbM:∀ {l m:List Int},l.Nodup->(∀ x∈l,x∈m)->l.length<=m.length
 | [],m,_,_=>Nat.zero_le _
 | x::l,m,nd,h=>by
  obtain⟨n1,n2⟩:=List.nodup_cons.mp nd
  have hx:=h x List.mem_cons_self
  have ih:=zbM (l:=l) (m:=m.erase x) n2 λy hy=>(List.mem_erase_of_ne (λz=>n1 (by rw[<-z];exact hy))).mpr (h y (List.mem_cons_of_mem _ hy))
  rw[List.length_erase_of_mem hx] at ih
  have:0<m.length:=List.length_pos_of_mem hx
  rw[List.length_cons]
  omega
end My

namespace My
open PySem L2 PyProof.Rows
def flds (v1 v2 v3 v4:V):List (Str × V):=putF "notes" v4 (putF "deeds" v3 (putF "leaves" v2 (putF "needs" v1 [])))
theorem zcS (v1 v2 v3 v4:V):(flds v1 v2 v3 v4).lookup ("needs" : Str)=some v1:=by
 unfold flds
 rw[zaE,if_neg (by decide +kernel),zaE,if_neg (by decide +kernel),zaE,if_neg (by decide +kernel),zaE,if_pos rfl]
theorem zcj (v1 v2 v3 v4:V):(flds v1 v2 v3 v4).lookup ("leaves" : Str)=some v2:=by
 unfold flds
 rw[zaE,if_neg (by decide +kernel),zaE,if_neg (by decide +kernel),zaE,if_pos rfl]
theorem zcd (v1 v2 v3 v4:V):(flds v1 v2 v3 v4).lookup ("deeds" : Str)=some v3:=by
 unfold flds
 rw[zaE,if_neg (by decide +kernel),zaE,if_pos rfl]
theorem zdf (v1 v2 v3 v4:V):(flds v1 v2 v3 v4).lookup ("notes" : Str)=some v4:=by
 unfold flds
 rw[zaE,if_pos rfl]
theorem zdg {f:Str}{v:V}{fs:List (Str × V)}{n:Nat}(h:fs.length<n):(putF f v fs).length<n+1:=Nat.lt_of_le_of_lt (zd2 f v fs) (by omega)
def zk5 (needs leaves:List (List Int))(deeds:List D)(notes:List (List (List Int))):List D:=[zax needs,zax leaves,.lst deeds,.lst (notes.map zax)]
def zbg (K:Fg)(cC:Addr)(H:Hp)(p:Addr)(needs leaves:List (List Int))(deeds:List D)(notes:List (List (List Int))):Prop:=
 ∃ dx w1 w2 w3 w4,H p=some (.ins cC dx (flds w1 w2 w3 w4))/\Rep K H (zax needs) w1/\Rep K H (zax leaves) w2/\Rep K H (.lst deeds) w3/\Rep K H (.lst (notes.map zax)) w4
theorem reps4 {K:Fg}{H:Hp}{d1 d2 d3 d4:D}{w1 w2 w3 w4:V}(h:Reps K H [d1,d2,d3,d4] [w1,w2,w3,w4]):Rep K H d1 w1/\Rep K H d2 w2/\Rep K H d3 w3/\Rep K H d4 w4:=by
 unfold Reps at h
 obtain⟨_,_,e,h1,h⟩:=h
 cases e
 unfold Reps at h
 obtain⟨_,_,e,h2,h⟩:=h
 cases e
 unfold Reps at h
 obtain⟨_,_,e,h3,h⟩:=h
 cases e
 unfold Reps at h
 obtain⟨_,_,e,h4,h⟩:=h
 cases e
 exact⟨h1,h2,h3,h4⟩
theorem zbg.same {K:Fg}{cC:Addr}{H H':Hp}{p:Addr}{needs leaves:List (List Int)}{deeds:List D}{notes:List (List (List Int))}(e:Same H H')(h:zbg K cC H p needs leaves deeds notes):zbg K cC H' p needs leaves deeds notes:=by
 obtain⟨dx,w1,w2,w3,w4,h0,h1,h2,h3,h4⟩:=h
 exact⟨dx,w1,w2,w3,w4,e _ _ h0,Rep.same e _ h1,Rep.same e _ h2,Rep.same e _ h3,Rep.same e _ h4⟩
def zdA (K:Fg)(cC:Addr)(H:Hp)(p:Addr)(needs leaves:List (List Int))(deeds:List Dd)(notes:List (List (List Int))):Prop:=
 zbg K cC H p needs leaves (deeds.map toD) notes/\∃ dx w1 w2 b3 w4 dvs,H p=some (.ins cC dx (flds w1 w2 (.ref b3) w4))/\H b3=some (.lst dvs)/\zeT H deeds dvs
theorem zdA.same {K:Fg}{cC:Addr}{H H':Hp}{p:Addr}{needs leaves:List (List Int)}{deeds:List Dd}{notes:List (List (List Int))}(e:Same H H')(h:zdA K cC H p needs leaves deeds notes):zdA K cC H' p needs leaves deeds notes:=by
 obtain⟨h0,dx,w1,w2,b3,w4,dvs,h1,h2,h3⟩:=h
 exact⟨h0.same e,dx,w1,w2,b3,w4,dvs,e _ _ h1,e _ _ h2,h3.same e⟩
def zk6 (K:Fg)(cC:Addr)(H:Hp)(kvs:List (Key × V))(oath:Oath):Dd->Prop
 | .call m _ _ _ _=>∃ o deeds ns,valV kvs (.inl m)=some (.ref o)/\zbg K cC H o (oath m).1 (oath m).2 deeds ns/\Good (oath m).1 (oath m).2 deeds.length ns
 | _=>True
theorem zk6.same {K:Fg}{cC:Addr}{H H':Hp}{kvs:List (Key × V)}{oath:Oath}{d:Dd}(h:zk6 K cC H kvs oath d)(e:Same H H'):zk6 K cC H' kvs oath d:=by
 cases d with
 | call m g0 g1 t0 t1=>
  obtain⟨o,ds,ns,h1,h2,h3⟩:=h
  exact⟨o,ds,ns,h1,h2.same e,h3⟩
 | _=>trivial
theorem zbg.nod {K:Fg}{cC:Addr}{H H':Hp}{p:Addr}{needs leaves:List (List Int)}{deeds:List D}{notes:List (List (List Int))}(e:NoD H H')(h:zbg K cC H p needs leaves deeds notes):zbg K cC H' p needs leaves deeds notes:=by
 obtain⟨dx,w1,w2,w3,w4,h0,h1,h2,h3,h4⟩:=h
 exact⟨dx,w1,w2,w3,w4,e _ _ h0 (λ_ z=>by cases z),Rep.sq e.sq _ h1,Rep.sq e.sq _ h2,Rep.sq e.sq _ h3,Rep.sq e.sq _ h4⟩
end My

namespace My
open PySem L2 PyProof.Rows
def zl3 (ls:List (List Int))(ws:List Int):Prop:=∀ (i:Nat) (l:List Int) (w:Int),ls[i]?=some l->ws[i]?=some w->∀ n∈l,CMul n w
theorem zbr {n:Nat}(h:n<=1000):n<sizeLine:=Nat.lt_of_le_of_lt h (by decide)
structure Cr.Nine (c:Cr):Prop where
 n9:∀ l∈c.needs,l.length=9
 l9:∀ l∈c.leaves,l.length=9
 d9:∀ d∈c.deeds,zes d
 o9:∀ ls∈c.notes,ls.length<=100/\∀ l∈ls,l.length=9
 n:c.needs.length<=100
 l:c.leaves.length<=100
 d:c.deeds.length<=100
 o:c.notes.length<=100
def Cr.right (c:Cr):Bool:=ze5 c.needs c.leaves c.deeds c.notes
structure Cr.Rt (c:Cr):Prop where
 nine:c.Nine
 r:c.right=true
theorem Cr.Rt.parts {c:Cr}(h:c.Rt):c.needs.length<=2/\c.leaves.length<=2/\(1<=c.deeds.length/\c.deeds.length<=8)/\c.notes.length=c.deeds.length/\(∀ ls∈c.notes,ls.length<=2)/\∀ d∈c.deeds,zcC (c.deeds.length:Int) d=true:=by
 have r:ze5 c.needs c.leaves c.deeds c.notes=true:=h.r
 simp only[ze5,zjk,zeR,zeS,zd7,btw,Bool.and_eq_true,decide_eq_true_eq,List.all_map,List.all_eq_true,Function.comp_apply,id_eq] at r
 obtain⟨⟨⟨a1,_⟩,a2,_⟩,⟨⟨b1,b2⟩,b3⟩,c1,c2⟩:=r
 exact⟨by omega,by omega,⟨by omega,by omega⟩,by omega,λls hl=>by have:=(c2 ls hl).1;omega,b3⟩
theorem sm_of {spots:List Nat}{l:List Int}(h:zdy spots l=true):Sm l:=λn hn=>by
 simp only[zdy,zdW,btw,Bool.and_eq_true,decide_eq_true_eq,List.all_map,List.all_eq_true,Function.comp_apply,id_eq] at h
 have:=h.1 n hn
 constructor <;> omega
theorem zpr {n:Nat}{d:Dd}(h9:zes d)(h:zcC (n:Int) d=true):dOk n d:=by
 cases d with
 | set hd l=>
  simp only[zcC,Bool.and_eq_true] at h
  exact⟨h9,sm_of h.2⟩
 | part hd l b=>
  simp only[zcC,btw,Bool.and_eq_true,decide_eq_true_eq] at h
  exact⟨h9,by omega,by omega⟩
 | draw hd lo hi=>trivial
 | turn l p=>
  simp only[zcC,btw,Bool.and_eq_true,decide_eq_true_eq] at h
  exact⟨h9,h.2.1,h.2.2⟩
 | hold l=>exact h9
 | call m g0 g1 t0 t1=>trivial
theorem Cr.Rt.dok {c:Cr}(h:c.Rt):∀ d∈c.deeds,dOk c.deeds.length d:=λd hd=>zpr (h.nine.d9 d hd) (h.parts.2.2.2.2.2 d hd)
theorem Cr.Rt.called {c:Cr}(h:c.Rt){m:Int}(hm:m∈zaw c.deeds):0<=m/\m<=99:=by
 obtain⟨d,hd,e⟩:=zjX hm
 have k:=h.parts.2.2.2.2.2 d hd
 cases d with
 | call n g0 g1 t0 t1=>
  have e:n=m:=by injection e
  subst e
  simp only[zcC,btw,Bool.and_eq_true,decide_eq_true_eq] at k
  exact k.2.1
 | _=>cases e
theorem Cr.Rt.calledMost {c:Cr}(h:c.Rt):∀ m∈zaw c.deeds,m.natAbs<zbb:=λm hm=>by
 have:=h.called hm
 unfold zbb;omega
theorem Cr.Rt.good {c:Cr}(h:c.Rt):Good c.needs c.leaves c.deeds.length c.notes where
 dn:=h.parts.2.2.2.1.symm
 d:=h.nine.d
 n:=h.nine.n
 l:=h.nine.l
 n9:=h.nine.n9
 l9:=h.nine.l9
 o:=h.nine.o9
def zgO (cr:Int->Cr):Oath:=λm=>((cr m).needs,(cr m).leaves)
def Cr.gs (c:Cr)(cr:Int->Cr):List Du:=zfU c.needs c.leaves c.deeds c.notes (zgO cr)
def zgP (g:Du):Prop:=g.1.length=9/\g.2.length<=4/\∀ l∈g.2,l.length=9
theorem zeb {l:List Int}{E:List (List Int)}(h:∀ x∈E,x.length=9):(zaQ l E).length=9:=by
 unfold zaQ
 have:=zaU (ls:=E) (ws:=l.tail) h
 cases e:zbV E l.tail with
 | nil=>rw[e] at this;simp at this
 | cons x r=>rw[e] at this;simpa [ziJ] using this
theorem ziN {N A:List (List Int)}{T:Int->List (List Int)}{oath:Oath}{d:Dd}{n:Nat}(hN:N.length<=2/\∀ l∈N,l.length=9)(hA:A.length<=2/\∀ l∈A,l.length=9)(hT:∀ p,(T p).length<=2/\∀ l∈T p,l.length=9)(ok:dOk n d)(ho:∀ m,zbf d=some m->(oath m).1.length<=2/\(oath m).2.length<=2) :
  (zcl N A T oath d).length<=4/\∀ g∈zcl N A T oath d,zgP g:=by
 have two:∀ {x y:List Int}{g:List Int},g.length=9->x.length=9->y.length=9->zgP (g,N++[x,y]):=λ{x y g} hg hx hy=>⟨hg,by simp;omega,λl hl=>by
  simp only[zma,List.mem_cons,List.not_mem_nil,or_false] at hl
  rcases hl with z | z | z
  ·exact hN.2 l z
  ·rw[z];exact hx
  ·rw[z];exact hy⟩
 have one:∀ {x:List Int}{g:List Int},g.length=9->x.length=9->zgP (g,N++[x]):=λ{x g} hg hx=>⟨hg,by simp;omega,λl hl=>by
  simp only[zma,List.mem_cons,List.not_mem_nil,or_false] at hl
  rcases hl with z | z
  ·exact hN.2 l z
  ·rw[z];exact hx⟩
 have nil:∀ {g:List Int},g.length=9->zgP (g,N):=λhg=>⟨hg,by show N.length<=4;omega,hN.2⟩
 have b6:=zan 6
 have b7:=zan 7
 cases d with
 | set h l=>
  refine⟨by simp only[zcl,zlm];omega,λg hg=>?_⟩
  obtain⟨x,hx,rfl⟩:=zmm.mp hg
  exact nil (zeb (e9_1 ok.1))
 | part h l b=>
  refine⟨by simp only[zcl,zlm];omega,λg hg=>?_⟩
  obtain⟨x,hx,rfl⟩:=zmm.mp hg
  exact two (zeb (e9_1 b6)) (ziM ok.1).1 (ziM ok.1).2.1
 | draw h lo hi=>
  refine⟨by simp only[zcl,zlm];omega,λg hg=>?_⟩
  obtain⟨x,hx,rfl⟩:=zmm.mp hg
  exact two (zeb (e9_1 b6)) (zk4 (hi:=hi)).1 (zk4 (lo:=lo)).2
 | turn l p=>
  refine⟨by have:=(hT p).1;simp only[zcl,List.length_append,zlm];omega,λg hg=>?_⟩
  rcases zma.mp hg with hg | hg
  ·obtain⟨x,hx,rfl⟩:=zmm.mp hg
   exact one ((hT p).2 x hx) ok.1
  ·obtain⟨x,hx,rfl⟩:=zmm.mp hg
   exact one (hA.2 x hx) (ziM (b:=0) ok.1).2.2
 | hold l=>
  refine⟨by simp only[zcl,List.length_append,zlm,List.length_cons,List.length_nil];omega,λg hg=>?_⟩
  rcases zma.mp hg with hg | hg
  ·rw[zms.mp hg];exact nil ok
  ·obtain⟨x,hx,rfl⟩:=zmm.mp hg
   exact one (hA.2 x hx) ok
 | call m g0 g1 t0 t1=>
  have o2:=ho m rfl
  refine⟨by simp only[zcl,List.length_append,zlm];omega,λg hg=>?_⟩
  rcases zma.mp hg with hg | hg
  ·obtain⟨x,hx,rfl⟩:=zmm.mp hg
   exact nil (zeb (e9_2 (zan g0) (zan g1)))
  ·obtain⟨x,hx,rfl⟩:=zmm.mp hg
   refine⟨zeb (e9_2 b6 b7),?_,λl hl=>?_⟩
   ·simp only[List.length_append,zlm];omega
   ·rcases zma.mp hl with z | z
    ·exact hN.2 l z
    ·obtain⟨y,_,rfl⟩:=zmm.mp z
     exact zeb (e9_2 (zan g0) (zan g1))
theorem zfV {leaves:List (List Int)}{notes:List (List (List Int))}{oath:Oath}{n:Nat}(hD:∀ p,(dueL leaves notes p).length<=2/\∀ l∈dueL leaves notes p,l.length=9):∀ (ds:List Dd) (p:Nat),(∀ d∈ds,dOk n d)->(∀ d∈ds,∀ m,zbf d=some m->(oath m).1.length<=2/\(oath m).2.length<=2)->(zdX leaves notes oath ds p).length<=4 * ds.length/\∀ g∈zdX leaves notes oath ds p,zgP g
 | [],_,_,_=>⟨Nat.le_refl _,λg hg=>by cases hg⟩
 | d::ds,p,h,ho=>by
  have ih:=zfV hD ds (p+1) (λe he=>h e (List.mem_cons_of_mem _ he)) λe he=>ho e (List.mem_cons_of_mem _ he)
  have h1:=ziN (d:=d) (hD p) (hD ((p:Int)+1)) hD (h d List.mem_cons_self) (ho d List.mem_cons_self)
  refine⟨?_,λg hg=>?_⟩
  ·show (zcl _ _ _ _ d++zdX leaves notes oath ds (p+1)).length<=_
   rw[List.length_append,List.length_cons]
   omega
  ·rcases zma.mp (show g∈zcl _ _ _ _ d++zdX leaves notes oath ds (p+1) from hg) with z | z
   ·exact h1.2 g z
   ·exact ih.2 g z
theorem Cr.Rt.gs {c:Cr}{cr:Int->Cr}(h:c.Rt)(ho:∀ m∈zaw c.deeds,(cr m).Rt):(c.gs cr).length<=34/\∀ g∈c.gs cr,zgP g:=by
 have hD:∀ p,(dueL c.leaves c.notes p).length<=2/\∀ l∈dueL c.leaves c.notes p,l.length=9:=λp=>⟨znK h.parts.2.1 h.parts.2.2.2.2.1 p,(h.good.due p).2⟩
 have k:=zfV (oath:=zgO cr) hD c.deeds 0 h.dok λd hd m e=>by
  have:=ho m (List.mem_filterMap.mpr ⟨d,hd,e⟩)
  exact⟨this.parts.1,this.parts.2.1⟩
 have d8:=h.parts.2.2.1.2
 have h0:=(hD 0).1
 unfold Cr.gs zfU zjo
 refine⟨by rw[List.length_append,zlm];omega,λg hg=>?_⟩
 rcases zma.mp hg with z | z
 ·obtain⟨x,_,rfl⟩:=zmm.mp z
  exact⟨zeb e9_4,by show c.needs.length<=4;have:=h.parts.1;omega,h.nine.n9⟩
 ·exact k.2 g z
def zcE (cC:Addr)(H:Hp)(p:Addr)(c:Cr)(fp:List Addr):Prop:=∃ dx w1 w2 w3 w4 f,fp=p::f/\H p=some (.ins cC dx (flds w1 w2 w3 w4))/\zai H (zk5 c.needs c.leaves (c.deeds.map toD) c.notes) [w1,w2,w3,w4] f
theorem zcE.at {K:Fg}{cC:Addr}{H:Hp}{p:Addr}{c:Cr}{fp:List Addr}(h:zcE cC H p c fp):zbg K cC H p c.needs c.leaves (c.deeds.map toD) c.notes:=by
 obtain⟨dx,w1,w2,w3,w4,f,rfl,hp,r⟩:=h
 obtain⟨h1,h2,h3,h4⟩:=reps4 (zai.reps (K:=K) _ r)
 exact⟨dx,w1,w2,w3,w4,hp,h1,h2,h3,h4⟩
theorem zcE.t {K:Fg}{cC:Addr}{H:Hp}{p:Addr}{c:Cr}{fp:List Addr}(h9:∀ d∈c.deeds,zes d)(h:zcE cC H p c fp):zdA K cC H p c.needs c.leaves c.deeds c.notes:=by
 refine⟨h.at,?_⟩
 obtain⟨dx,w1,w2,w3,w4,f,rfl,hp,r⟩:=h
 obtain⟨x1,x2,x3,x4,f1,f2,f3,f4,e,g1,g2,g3,g4⟩:=zo6 r
 cases e
 obtain⟨b3,dvs',r3,rfl,h3',z3⟩:=RepF.lso g3
 refine⟨dx,w1,w2,b3,w4,dvs',hp,h3',by simpa using z3.length,λi d x q1 q2=>?_⟩
 obtain⟨f,hf⟩:=zai.item z3 i (toD d) x (by rw[zgm,q1];rfl) q2
 exact znv (zjn (h9 d (zmg q1))) hf
theorem zcE.hasN {cC:Addr}{H:Hp}{p:Addr}{c:Cr}{fp:List Addr}(h:zcE cC H p c fp):∀ b∈fp,∃ o,H b=some o/\∀ kvs,o≠HO.dK kvs:=λb hb=>by
 obtain⟨dx,w1,w2,w3,w4,f,rfl,hp,r⟩:=h
 rcases List.mem_cons.mp hb with rfl | hb
 ·exact⟨_,hp,λ_ z=>by cases z⟩
 ·obtain⟨xs,e⟩:=zai.hasL _ r b hb
  exact⟨_,e,λ_ z=>by cases z⟩
theorem zcE.frame {cC:Addr}{H H':Hp}{p:Addr}{c:Cr}{fp:List Addr}(tk:Tups H H')(k:∀ b∈fp,∀ o,H b=some o->H' b=some o)(h:zcE cC H p c fp):zcE cC H' p c fp:=by
 obtain⟨dx,w1,w2,w3,w4,f,rfl,hp,r⟩:=h
 refine⟨dx,w1,w2,w3,w4,f,rfl,k p List.mem_cons_self _ hp,zai.frame tk _ (λb hb=>?_) r⟩
 obtain⟨o,ho⟩:=zai.has _ r b hb
 rw[ho]
 exact k b (List.mem_cons_of_mem _ hb) o ho
theorem zcE.nod {cC:Addr}{H H':Hp}{p:Addr}{c:Cr}{fp:List Addr}(e:NoD H H')(h:zcE cC H p c fp):zcE cC H' p c fp:=by
 obtain⟨dx,w1,w2,w3,w4,f,rfl,hp,r⟩:=h
 exact⟨dx,w1,w2,w3,w4,f,rfl,e _ _ hp (λ_ z=>by cases z),zai.sq e.sq _ r⟩
def CrIn (cC:Addr)(H:Hp)(cr:Int->Cr)(fp:List Addr)(m:Int)(v:V):Prop:=∃ p f,v=.ref p/\zcE cC H p (cr m) f/\∀ b∈f,b∈fp
structure HAt (cH cC:Addr)(H:Hp)(h la va:Addr)(ks:List Int)(cr:Int->Cr)(vs:List Int)(fp:List Addr):Prop where
 ins:∃ dx,H h=some (.ins cH dx (hfl la va))
 laid:∃ kvs,H la=some (.dK kvs)/\KVs (CrIn cC H cr fp) kvs ks
 vou:∃ kvs,H va=some (.dK kvs)/\KVs (λ_ v=>v=.bl true) kvs vs
 ne:la≠va
 rt:∀ m∈ks,(cr m).Rt
 few:ks.length<=60
 sub:∀ m∈vs,m∈ks
 has:∀ b∈fp,∃ o,H b=some o/\∀ kvs,o≠HO.dK kvs
section
variable {cH cC:Addr}{H H':Hp}{h la va:Addr}{ks vs:List Int}{cr:Int->Cr}{fp:List Addr}
theorem HAt.frame (A:HAt cH cC H h la va ks cr vs fp)(tk:Tups H H')(k:∀ b,b∈h::la::va::fp->∀ o,H b=some o->H' b=some o):HAt cH cC H' h la va ks cr vs fp where
 ins:=by obtain⟨dx,e⟩:=A.ins;exact⟨dx,k _ (by simp) _ e⟩
 laid:=by
  obtain⟨kvs,e,q⟩:=A.laid
  exact⟨kvs,k _ (by simp) _ e,q.mono λm v ⟨p,f,e1,e2,e3⟩=>⟨p,f,e1,e2.frame tk λb hb o ho=>k b (by simp[e3 b hb]) o ho,e3⟩⟩
 vou:=by obtain⟨kvs,e,q⟩:=A.vou;exact⟨kvs,k _ (by simp) _ e,q⟩
 ne:=A.ne
 rt:=A.rt
 few:=A.few
 sub:=A.sub
 has:=λb hb=>by obtain⟨o,e,n⟩:=A.has b hb;exact⟨o,k b (by simp[hb]) o e,n⟩
theorem HAt.same (A:HAt cH cC H h la va ks cr vs fp)(e:Same H H'):HAt cH cC H' h la va ks cr vs fp:=A.frame e.tups λb _ o ho=>e b o ho
theorem HAt.putV {kvs:List (Key × V)}{vs':List Int}(A:HAt cH cC H h la va ks cr vs fp)(q:KVs (λ_ v=>v=.bl true) kvs vs')(s:∀ m∈vs',m∈ks):HAt cH cC (upd H va (.dK kvs)) h la va ks cr vs' fp where
 ins:=by
  obtain⟨dx,z⟩:=A.ins
  obtain⟨kv0,hv,_⟩:=A.vou
  exact⟨dx,by rw[zam (zjt z hv (by intro w;cases w))];exact z⟩
 laid:=by
  obtain⟨kv0,hv,_⟩:=A.vou
  obtain⟨kl,z,q⟩:=A.laid
  exact⟨kl,by rw[zam A.ne];exact z,q.mono λm v ⟨p,f,e1,e2,e3⟩=>⟨p,f,e1,e2.nod (zcD hv),e3⟩⟩
 vou:=⟨kvs,zac,q⟩
 ne:=A.ne
 rt:=A.rt
 few:=A.few
 sub:=s
 has:=λb hb=>by
  obtain⟨kv0,hv,_⟩:=A.vou
  obtain⟨o,z,n⟩:=A.has b hb
  exact⟨o,zcD hv b o z n,n⟩
theorem HAt.vfew (A:HAt cH cC H h la va ks cr vs fp):vs.length<=60:=by
 obtain⟨_,_,q⟩:=A.vou
 have:=zbM q.2.1 A.sub
 have:=A.few
 omega
end
theorem OffA.putDict {H:Hp}{S:List Addr}{H':Hp}(e:OffA S H H'){T:List Addr}(h:∀ b∈S,b∈T):OffA T H H':=λb o n z=>e b o (λw=>n (h b w)) z
theorem HAt.start {cH cC:Addr}{H:Hp}{h la va dx:Addr}{cr:Int->Cr}(h1:H h=some (.ins cH dx (hfl la va)))(h2:H la=some (.dK []))(h3:H va=some (.dK []))(ne:la≠va):HAt cH cC H h la va [] cr [] [] where
 ins:=⟨dx,h1⟩
 laid:=⟨[],h2,KVs.nil⟩
 vou:=⟨[],h3,KVs.nil⟩
 ne:=ne
 rt:=λm hm=>by cases hm
 few:=Nat.zero_le _
 sub:=λm hm=>by cases hm
 has:=λm hm=>by cases hm
theorem zk7 {H H1:Hp}{ha dx:Addr}{u x:HO}(ha0:H ha=none)(dx0:H dx=none)(o1:OffA [ha] (upd (upd H dx u) ha x) H1):Same H H1:=λb o e=>o1 b o (by simp[zau e ha0]) (by rw[zam (zau e ha0),zam (zau e dx0)];exact e)
def zaC (ks:List Int)(cr:Int->Cr)(n:Int):List Int:=if n∈ks then zaw (cr n).deeds else []
def setC (cr:Int->Cr)(n:Int)(c:Cr):Int->Cr:=λm=>if m=n then c else cr m
theorem zfW:∀ {a b:List (List Int)},zbJ (a.map nums) (b.map nums)=decide (a=b)
 | [],[]=>by unfold List.map zbJ;rfl
 | [],_::_=>by rw[zmc];unfold List.map zbJ;simp
 | _::_,[]=>by rw[zmc];unfold List.map zbJ;simp
 | m::ms,n::ns=>by
  rw[zmc,zmc]
  unfold zbJ nums pyEq
  rw[zfW,zeO,Bool.eq_iff_iff]
  simp
theorem zgQ {a b:List (List Int)} : pyEq (zax a) (zax b)=decide (a=b):=by
 unfold zax pyEq
 exact zfW
def rowD:Option (Int × List Int)->D
 | none=>.non
 | some (w,ws)=>.tup [.int w,nums ws]
end My

namespace My
open PySem L2 PyProof.Rows
theorem i_inI {K:Fg}{H:Hp}{Q:VK}{n:Int}{a:Addr}{l:List Int}(h:SqL K H a (l.map V.int))(q:Q (.bl (decide (n∈l))) H):rIn K false (.int n) (.ref a) H Q:=i_in (.inl h) rfl (zjY _) (by rw[zfm];exact q)
def zdN (gs:List Du):Prop:=∀ g∈gs,found g
theorem zaW.updL {H:Hp}{a:Addr}{o:HO}{ys:List V}{d:Dd}{x:V}(h:zaW H (toD d) x)(l9:zes d)(ha:H a=some (.lst ys))(hy:∀ y∈ys,∀ i,y≠V.int i):zaW (upd H a o) (toD d) x:=by
 obtain⟨t,xs,ds,ed,rfl,ht,l1,l2,hp⟩:=h
 obtain⟨ds',ed',_,sim⟩:=zjn l9
 rw[ed] at ed'
 injection ed' with ed'
 subst ed'
 refine⟨t,xs,ds,ed,rfl,by rw[zam (zjt ht ha (by intro z;cases z))];exact ht,l1,l2,λi dd y e1 e2=>?_⟩
 rcases hp i dd y e1 e2 with z | z | ⟨b,l,e3,e4,hb⟩ | ⟨b,u,w,e3,e4,hb⟩
 ·exact .inl z
 ·exact .inr (.inl z)
 ·refine .inr (.inr (.inl ⟨b,l,e3,e4,?_⟩))
  rw[zam]
  ·exact hb
  ·rintro rfl
   rw[ha] at hb
   have eb:ys=l.map V.int:=by injection hb with hb;injection hb
   rcases sim dd (zmg e1) with ⟨_,e5⟩ | ⟨_,e5⟩ | ⟨l',h9,e5⟩ | ⟨_,_,e5⟩
   ·rw[e3] at e5;cases e5
   ·rw[e3] at e5;cases e5
   ·rw[e3] at e5
    injection e5 with e5
    have:=zhd e5
    subst this
    cases l with
    | nil=>simp at h9
    | cons k r=>exact hy (.int k) (by rw[eb];simp) k rfl
   ·rw[e3] at e5;cases e5
 ·refine .inr (.inr (.inr ⟨b,u,w,e3,e4,?_⟩))
  rw[zam (zjt hb ha (by intro z;cases z))]
  exact hb
end My

namespace My
open PySem L2 PyProof.Rows
end My

namespace My
open PySem L2 PyProof.Rows
section
variable {ka ia sa:Addr}{k j:Int}{ev ew:V}
end
section
variable {cC:Addr}{H H':Hp}{ka:Addr}{ks:List Int}{cr:Int->Cr}{kfp:List Addr}
end
section
variable {cR cF cC:Addr}{H H':Hp}{r ka ia sa:Addr}{ks:List Int}{cr:Int->Cr}{fas:List Fa}{s:Rs}{kfp:List Addr}
variable {p ha aa:Addr}{f:Fm}{st:List Fm}
end
end My

namespace L2
open PySem PySem.Spec PySem.Calls PyProof.Rows PySem.W
theorem i_bm0 {K:Fg}{σ:St}{H:Hp}{Q:VK}{T:String}{r:V->List V->Hp->VK->Prop}{to:TE}(h:to σ H λx H1=>tyV K T x H1/\r x [] H1 Q):tBM0 K T r to σ H Q:=h
section
variable {X:Cx}{CX:CXT}{C:Addr}{ps:List Str}{j k:Nat}{sp:Sp}{E:XK}{x m:Str}{o e:Expr}{es:List Expr}{ta te:TE}{t:TA}{p pos apos:Pos}
end
end L2
namespace My
open PySem L2 PyProof.Rows
end My

namespace My
open PySem L2 PyProof.Rows
section
variable {H H':Hp}{da ra sk:Addr}{ks:List Int}{cr:Int->Cr}{fas:List Fa}{st:List Fm}{ins:List Int}{lfp:List Addr}{f:Fm}{p ha aa:Addr}
end
end My

namespace My
open PySem L2 PyProof.Rows
section
variable {cR cF cC:Addr}{H H' H0:Hp}{r ka ia sa:Addr}{ks:List Int}{cr:Int->Cr}{fas:List Fa}{s:Rs}{kfp:List Addr}{S:List Addr}
end
theorem zl4 {K:Fg}{a:Addr}{xs:List V}{g:TG}{tb:TS}{D:Ends}{σ:L2.St}{H:Hp}(Pv:Nat->L2.St->Hp->Prop)(h0:Pv 0 σ H)(hl:∀ i σ H,i<=xs.length->Pv i σ H->SqL K H a xs)
  (hs:∀ i x T σ H,xs[i]?=some x->Pv i σ H->H T=none->g (.ref T) σ (upd H T (.tup [.int i,x])) λσ2 H2=>tb {D with nx:=Pv (i+1),ct:=Pv (i+1),bk:=D.nx} σ2 H2) (hd:∀ σ H,Pv xs.length σ H->D.nx σ H):zkK (Itn K a) g tb D σ H:=by
 refine⟨λi m σ H=>m=xs.length - i/\i<=xs.length/\Pv i σ H,⟨xs.length,by simp,Nat.zero_le _,h0⟩,?_⟩
 rintro i m σ H ⟨rfl,hi,p⟩
 have q:=hl i σ H hi p
 by_cases hlt:i<xs.length
 ·refine .inr ⟨⟨xs,xs[i],q,by simp[hlt]⟩,Pv (i+1),λσ' H' p'=>⟨xs.length - (i+1),by omega,rfl,hlt,p'⟩,λx H' y=>?_⟩
  obtain⟨T,nT,rfl,y⟩:=y
  have:=y xs xs[i] q (by simp)
  subst this
  exact hs i _ T σ _ (by simp) p nT
 ·have e:i=xs.length:=by omega
  subst e
  exact .inl ⟨⟨xs,q,Nat.le_refl _⟩,hd σ H p⟩
end My
namespace My
open PySem L2 PyProof.Rows
end My

namespace My
open L2 PySem
end My

namespace My
open L2 PySem
section
variable {H H':Hp}{pa b3:Addr}{c:Cr}{v1 v2 v4:V}{dvs:List V}{f1 f2 f3 f4:List Addr}
end
end My

namespace My
open L2 PySem
section
variable {H:Hp}{pl T:Addr}{n:Int}{u:V}{r:List V}{o:HO}
end
theorem zev {cH cC:Addr}{H H':Hp}{h la va ma:Addr}{ks vs:List Int}{cr:Int->Cr}{fp:List Addr}{kvs:List (Key × V)}(A:HAt cH cC H h la va ks cr vs fp)(hm:H ma=some (.dK kvs))(n1:ma≠la)(n2:ma≠va)(o:OffA [ma] H H'):HAt cH cC H' h la va ks cr vs fp:=
 A.frame (λb xs e=>o b _ (λz=>by rw[zms.mp z,hm] at e;cases e) e) λb hb u e=>o b u (λz=>by
  have z:=zms.mp z
  simp only[List.mem_cons] at hb
  rcases hb with w | w | w | w
  ·obtain⟨dx,e'⟩:=A.ins
   rw[<-w,z,hm] at e';cases e'
  ·exact n1 (z.symm.trans w)
  ·exact n2 (z.symm.trans w)
  ·obtain⟨o',e',nd⟩:=A.has b w
   rw[z,hm] at e';cases e'
   exact nd _ rfl) e
end My

namespace My
open L2 PySem
section
variable {h a l:List Int}{x y:Int}
end
section
variable {G:Int->Prop}{ks:List Int}{cr:Int->Cr}{n0:Int}{a:List Int}
end
end My

set_option compiler.extract_closed false
set_option maxHeartbeats 8000000
open PySem.W (mg_of nsIn findIn mg_none_of isFn keepIn excIn fnOf codeIn kia_one makesIn)
local macro_rules | `(tactic| walk_at "gs1") => `(tactic| first
  | (with_reducible first | refine L2.i_asg ?_ | refine L2.znm ?_ | refine L2.i_ret ?_ | refine L2.zoR ?_ | refine L2.zoS ?_ | refine L2.i_ifK fun T kT U kU => ?_ | refine L2.i_if ?_ | refine L2.zoO ?_ | refine L2.i_B ?_ | refine L2.i_bl ?_ | refine L2.iteT ?_ | refine L2.iteF ?_ | refine L2.iteNT ?_ | refine L2.iteNF ?_ | refine L2.i_pow109 ?_ | refine L2.i_bm ?_ | refine L2.i_bm0 ?_ | refine L2.zo4 ?_ | refine L2.i_fld ?_ | refine L2.zo5 ?_ | refine L2.znt ?_ | refine L2.zoU ?_ | refine L2.i_orV ?_ | refine L2.zoV ?_ | refine L2.i_and ?_ | refine L2.i_or ?_ | refine L2.i_not ?_ | refine L2.i_for ?_ | refine L2.zoW ?_ | refine L2.znn ?_ | refine L2.zoX ?_ | refine L2.i_zip ?_ | refine L2.zoY ?_ | refine L2.i_rev ?_ | refine L2.zoZ ?_ | refine L2.i_rng2 ?_ | refine L2.i_sl ?_ | refine L2.zlN ?_ | refine L2.zo0 ?_ | refine L2.zno ?_ | refine L2.i_par ?_ | refine L2.i_parv ?_ | refine L2.zo1 ?_ | refine L2.i_c ?_ | refine L2.znB ?_ | refine L2.zpc ?_ | refine L2.znC ?_ | refine L2.zlX ?_ | refine L2.i_op ?_ | refine L2.i_un ?_ | refine L2.zoP ?_ | refine L2.i_nil ?_ | refine L2.zoQ ?_ | refine L2.znD ?_ | refine L2.i_fs ?_ | refine L2.znE ?_ | refine L2.i_din ?_ | refine L2.zlW ?_ | refine L2.zpd ?_ | refine L2.zpf ?_ | refine L2.zpg ?_ | refine L2.znH ?_ | refine L2.zpj ?_ | refine L2.i_tru ?_ | refine L2.i_CB ?_ | refine L2.i_lst ?_ | refine L2.i_tup ?_ | refine L2.i_rI0 ?_ | refine L2.i_rU ?_ | refine L2.znk ?_ | refine L2.i_eqI ?_ | refine L2.i_neI ?_ | refine L2.i_eqB ?_ | refine L2.i_neB ?_ | refine L2.i_eqS ?_ | refine L2.i_neS ?_)
  | ((with_reducible refine L2.zjd ?_ ?_); focus (first | exact Or.inl ⟨by omega, by omega⟩ | exact Or.inr ⟨by omega, by omega⟩))
  | ((with_reducible refine L2.i_mod ?_ ?_); focus omega)
  | ((with_reducible refine L2.zoM ?_ ?_ ?_); (focus omega); (focus omega))
  | ((with_reducible refine L2.i_pow ?_ ?_ ?_ ?_); (focus decide); (focus decide); (focus decide))
  | ((with_reducible refine L2.zoL (v := ?_) ?_ ?_); rotate_left; focus rfl)
  | with_reducible refine L2.goOn (by assumption) ?_)
local macro_rules | `(tactic| walk_at "go1") => `(tactic| first | with_reducible refine L2.zmM fun NX kN => ?_ | walk_at "gs1" | (refine L2.zoL (by rfl) ?_))
local macro_rules | `(tactic| walk_at "gs") => `(tactic| repeat (walk_at "gs1"))
local macro_rules | `(tactic| nofun) => `(tactic| walk_at "gs")
local macro_rules | `(tactic| walk_at "go") => `(tactic| repeat (walk_at "go1"))
local macro_rules | `(tactic| ac_rfl) => `(tactic| walk_at "go")
local macro_rules | `(tactic| walk_at "sc") => `(tactic| exact ⟨rfl, rfl, rfl, by decide +kernel, rfl, by decide +kernel, by decide +kernel⟩)
local macro_rules | `(tactic| walk_at "q") => `(tactic| ((try with_reducible refine L2.goOn (by assumption) ?_); with_reducible refine L2.zmM fun NX kN => ?_))
local macro_rules | `(tactic| walk_at "sm") => `(tactic| first | exact L2.sl rfl | exact L2.zaj (by simp))
namespace My
open PySem L2 PyProof.Rows
theorem len0 {us:List Value}(h:us.length=0):us=[]:=List.eq_nil_of_length_eq_zero h
theorem lenS {us:List Value}{n:Nat}(h:us.length=n+1):∃ a r,us=a::r/\r.length=n:=by
 cases us with
 | nil=>cases h
 | cons a r=>exact⟨a,r,rfl,Nat.succ.inj h⟩
theorem len1 {us:List Value}(h:us.length=1):∃ a0,us=[a0]:=by
 obtain⟨a,r,rfl,k⟩:=lenS h
 obtain rfl:=len0 k
 exact⟨_,rfl⟩
theorem len2 {us:List Value}(h:us.length=2):∃ a0 a1,us=[a0,a1]:=by
 obtain⟨a,r,rfl,k⟩:=lenS h
 obtain⟨b0,rfl⟩:=len1 k
 exact⟨_,_,rfl⟩
theorem len3 {us:List Value}(h:us.length=3):∃ a0 a1 a2,us=[a0,a1,a2]:=by
 obtain⟨a,r,rfl,k⟩:=lenS h
 obtain⟨b0,b1,rfl⟩:=len2 k
 exact⟨_,_,_,rfl⟩
theorem len4 {us:List Value}(h:us.length=4):∃ a0 a1 a2 a3,us=[a0,a1,a2,a3]:=by
 obtain⟨a,r,rfl,k⟩:=lenS h
 obtain⟨b0,b1,b2,rfl⟩:=len3 k
 exact⟨_,_,_,_,rfl⟩
theorem len5 {us:List Value}(h:us.length=5):∃ a0 a1 a2 a3 a4,us=[a0,a1,a2,a3,a4]:=by
 obtain⟨a,r,rfl,k⟩:=lenS h
 obtain⟨b0,b1,b2,b3,rfl⟩:=len4 k
 exact⟨_,_,_,_,_,rfl⟩
section
open PySem PySem.Spec PySem.Calls PyProof.Rows PySem.W L2
theorem bA {K:Fg}(hA:((zBoo K).all id,zSee K)=(true,zSig))(j:Nat){b:Bool}(h:(zBoo K)[j]?=some b):b=true:=List.all_eq_true.mp (Prod.mk.inj hA).1 b (zmg h)
theorem eA {K:Fg}(hA:((zBoo K).all id,zSee K)=(true,zSig))(j:Nat){α:Type}[BEq α][LawfulBEq α]{x y:α}(h:(zBoo K)[j]?=some (x == y)):x=y:=eq_of_beq (bA hA j h)
def fA {K:Fg}(hA:((zBoo K).all id,zSee K)=(true,zSig))(i j:Nat)(a:Addr)(n q:Str)(d:Stmt)(h1:(zSee K)[i]?=some (L2.zaP K a))(h2:zSig[i]?=some (gS n q d))(h3:(zBoo K)[j]?=some (L2.zal K a q)):=L2.zpl (n:=n) (ps:=zcV d) (b:=zbO d) (sc:=zad d) (Option.some.inj (h1.symm.trans ((congrArg (λl:List (Option L2.Sig)=>l[i]?) (Prod.mk.inj hA).2).trans h2))) (bA hA j h3)
end
theorem znL:FSc ["i"] ["i"] (zad zht):=by walk_at "sc"
theorem zdB:FSc ["lines","weights","total","line","weight"] ["lines","weights"] (zad zed):=by walk_at "sc"
theorem zh5:FSc ["line","eight","total"] ["line","eight"] (zad zfc):=by walk_at "sc"
theorem zeU:FSc ["self","needs","leaves","deeds","notes"] ["self","needs","leaves","deeds","notes"] (zad za6):=by walk_at "sc"
theorem zfX:FSc ["lines"] ["lines"] (zad zbC):=by walk_at "sc"
theorem zgi:FSc ["deed"] ["deed"] (zad zbP):=by walk_at "sc"
theorem zfY:FSc ["craft"] ["craft"] (zad zb8):=by walk_at "sc"
theorem zh6:FSc ["craft"] ["craft"] (zad zcv):=by walk_at "sc"
theorem zl5:FSc ["craft"] ["craft"] (zad zgS):=by walk_at "sc"
theorem zew:FSc ["craft","needs_right"] ["craft"] (zad zcH):=by walk_at "sc"
theorem zdY:FSc ["deeds","count"] ["deeds"] (zad zbQ):=by walk_at "sc"
theorem zdZ:FSc ["craft","as_many"] ["craft"] (zad zbR):=by walk_at "sc"
theorem zgj:FSc ["lines","nought_spots"] ["lines","nought_spots"] (zad zbS):=by walk_at "sc"
theorem zex:FSc ["line","nought_spots","small"] ["line","nought_spots"] (zad zbN):=by walk_at "sc"
theorem zey:FSc ["deed","last_place","kind"] ["deed","last_place"] (zad zcI):=by walk_at "sc"
theorem zgk:FSc ["low","high"] ["low","high"] (zad zcm):=by walk_at "sc"
theorem zez:FSc ["number","given","taken","hands"] ["number","given","taken"] (zad zcJ):=by walk_at "sc"
theorem zeA:FSc ["hands"] ["hands"] (zad za8):=by walk_at "sc"
theorem zhe:FSc ["hand"] ["hand"] (zad zcK):=by walk_at "sc"
theorem zfZ:FSc ["number"] ["number"] (zad zb9):=by walk_at "sc"
theorem zjZ:FSc ["low","number","high"] ["low","number","high"] (zad zee):=by walk_at "sc"
theorem zh7:FSc ["craft","place","eight"] ["craft","place"] (zad zdE):=by walk_at "sc"
theorem zeB:FSc ["craft","crafts","number","told","place"] ["craft","crafts"] (zad zfd):=by walk_at "sc"
theorem zdC:FSc ["craft","begun"] ["craft"] (zad zca):=by walk_at "sc"
theorem zbE:FSc ["craft","place","crafts","deed","notes","after","kind"] ["craft","place","crafts"] (zad zcn):=by walk_at "sc"
theorem zbF:FSc ["deed","notes","after","line","by","not_above","greatest"] ["deed","notes","after"] (zad zco):=by walk_at "sc"
theorem zcX:FSc ["deed","notes","after","from_low","to_high"] ["deed","notes","after"] (zad zcp):=by walk_at "sc"
theorem zd0:FSc ["line","notes","there","after","below_nought"] ["line","notes","there","after"] (zad zcq):=by walk_at "sc"
theorem zbm:FSc ["deed","notes","after","other","given","taken","giving","taking","before"] ["deed","notes","after","other"] (zad zcr):=by walk_at "sc"
theorem zh8:FSc ["goals","hypotheses"] ["goals","hypotheses"] (zad zcw):=by walk_at "sc"
theorem zhf:FSc ["lines","eight"] ["lines","eight"] (zad zce):=by walk_at "sc"
theorem zhg:FSc ["changes"] ["changes"] (zad zcf):=by walk_at "sc"
theorem ziO:FSc ["number"] ["number"] (zad zdF):=by walk_at "sc"
theorem zbY:FSc ["duty","row","goal","hypotheses","whole","weights","rest"] ["duty","row"] (zad zdp):=by walk_at "sc"
theorem zeC:FSc ["duty","rows_of_weights","whole","weights"] ["duty"] (zad zfe):=by walk_at "sc"
theorem zbh:FSc ["count","found","bit"] ["count"] (zad zaX):=by walk_at "sc"
theorem zfb:FSc ["self"] ["self"] (zad zbT):=by walk_at "sc"
theorem ziP:FSc ["self","number","craft"] ["self","number","craft"] (zad zdG):=by walk_at "sc"
theorem zh9:FSc ["self","number"] ["self","number"] (zad zc9):=by walk_at "sc"
theorem ze7:FSc ["self","number","rows"] ["self","number"] (zad zb5):=by walk_at "sc"
theorem zia:FSc ["self","number"] ["self","number"] (zad zda):=by walk_at "sc"
theorem zcs:FSc ["self","number","reached","waiting","other"] ["self","number"] (zad zcL):=by walk_at "sc"
theorem zhh:FSc ["self","number"] ["self","number"] (zad zcg):=by walk_at "sc"
theorem zeD:FSc ["self","number"] ["self","number"] (zad zbu):=by walk_at "sc"
theorem zeV:FSc ["self","number"] ["self","number"] (zad zbG):=by walk_at "sc"
theorem zeW:FSc ["self","number"] ["self","number"] (zad zbH):=by walk_at "sc"
theorem zf0:FSc ["self","number"] ["self","number"] (zad zcb):=by walk_at "sc"
theorem zbZ:FSc ["self","number","caller"] ["self","number"] (zad za4):=by walk_at "sc"
theorem zib:FSc ["craft","other"] ["craft","other"] (zad zdb):=by walk_at "sc"
theorem zic:FSc ["script","k"] ["script","k"] (zad zdc):=by walk_at "sc"
theorem zl6:FSc ["cell","k","many"] ["cell","k","many"] (zad zgT):=by walk_at "sc"
theorem zk8:FSc ["found","due"] ["found","due"] (zad zff):=by walk_at "sc"
theorem zc7:FSc ["cell","numbers","deeds","k","number"] ["cell","numbers"] (zad zef):=by walk_at "sc"
theorem zb6:FSc ["model","number","found","turn","more","other","deed"] ["model","number"] (zad zeg):=by walk_at "sc"
theorem zl7:FSc ["model","number"] ["model","number"] (zad zeH):=by walk_at "sc"
theorem zj0:FSc ["model","number"] ["model","number"] (zad zeh):=by walk_at "sc"
theorem ziQ:FSc ["hall","model","number"] ["hall","model","number"] (zad zdH):=by walk_at "sc"
theorem zf1:FSc ["hall","model","good","number","due","found"] ["hall","model","good","number"] (zad zei):=by walk_at "sc"
theorem zc8:FSc ["script","hall","numbers","model","k","number","deeds","good","asked","gone"] ["script"] (zad zeI):=by walk_at "sc"
structure Bl (K:Fg)(mg:Str->Option Value):Prop where
 all:mg "all"=none
 any:mg "any"=none
 bool:mg "bool"=none
 enumerate:mg "enumerate"=none
 isinstance:mg "isinstance"=none
 len:mg "len"=none
 list:mg "list"=none
 min:mg "min"=none
 range:mg "range"=none
 sorted:mg "sorted"=none
 tuple:mg "tuple"=none
 zip:mg "zip"=none
 c_NUMBERS:∃ t,mg "NUMBERS"=some (.int 9 t)
 c_FACTORS:∃ t,mg "FACTORS"=some (.int 8 t)
 c_MOST_LINES:∃ t,mg "MOST_LINES"=some (.int 2 t)
 c_MOST_DEEDS:∃ t,mg "MOST_DEEDS"=some (.int 8 t)
 c_LAST_HAND:∃ t,mg "LAST_HAND"=some (.int 3 t)
 c_LAST_NUMBER:∃ t,mg "LAST_NUMBER"=some (.int 99 t)
 c_GREATEST_BY:∃ t,mg "GREATEST_BY"=some (.int 1000 t)
 c_GREATEST:∃ t,mg "GREATEST"=some (.int 1000000000 t)
 c_ASKED_0:∃ t,mg "ASKED_0"=some (.int 4 t)
 c_ASKED_1:∃ t,mg "ASKED_1"=some (.int 5 t)
 c_NEW_0:∃ t,mg "NEW_0"=some (.int 6 t)
 c_NEW_1:∃ t,mg "NEW_1"=some (.int 7 t)
 t_HAND_SPOTS:∃ a,mg "HAND_SPOTS"=some (.ref a)/\∀ H,SqT K H a [.int 1,.int 2,.int 3,.int 4]
 t_LEFT_SPOTS:∃ a,mg "LEFT_SPOTS"=some (.ref a)/\∀ H,SqT K H a [.int 7,.int 8]
 t_LEFT_AS_HANDS:∃ a,mg "LEFT_AS_HANDS"=some (.ref a)/\∀ H,SqT K H a [.int 0,.int 1,.int 2,.int 3,.int 4,.int 5,.int 0,.int 1]
 t_WHOLES:∃ a,mg "WHOLES"=some (.ref a)/\∀ H,SqT K H a [.int 1,.int 2,.int 3,.int 4]
structure Zt (K:Fg)(mg:Str->Option Value)(C:Nat->Addr):Prop where
 c_Craft:Cls K (C 0)
 m_Craft:mg "Craft"=some (.ref (C 0))
 n_Craft_needs:zdk K (C 0) "needs"
 n_Craft_leaves:zdk K (C 0) "leaves"
 n_Craft_deeds:zdk K (C 0) "deeds"
 n_Craft_notes:zdk K (C 0) "notes"
 e_HallError:Err K (C 1) zbA
 m_HallError:mg "HallError"=some (.ref (C 1))
 e_BadSheet:Err K (C 2) (.ref (C 1)::zbA)
 m_BadSheet:mg "BadSheet"=some (.ref (C 2))
 e_NoCraft:Err K (C 3) (.ref (C 1)::zbA)
 m_NoCraft:mg "NoCraft"=some (.ref (C 3))
 e_Unmet:Err K (C 4) (.ref (C 1)::zbA)
 m_Unmet:mg "Unmet"=some (.ref (C 4))
 c_Hall:Cls K (C 5)
 m_Hall:mg "Hall"=some (.ref (C 5))
 n_Hall_laid:zdk K (C 5) "laid"
 n_Hall_vouched:zdk K (C 5) "vouched"
section
variable {P:Program}{w:World}{K:Fg}{mg:Str->Option Value}{b8:Heap}{f:Addr}{fd:FuncData}(B:Bl K mg) {C:Nat->Addr}(Z:Zt K mg C)
inductive Q7 (K:Fg)(vs:List V)(H:Hp)(Q:VK)(E:XK):Prop
 | mk (a:Addr) (ls:List (List Int)):vs=[.ref a]->Rep K H (zax ls) (.ref a)->ls.length<=1000->(∀ v H',Same H H'->New H H' (zax ls) v->Q v H')->Q7 K vs H Q E
include B Z in
theorem zf2 (F:Fun K "copied_lines" "copied_lines" zbC f fd)(m:mg "copied_lines"=some (.ref f)):Fn P w K mg b8 "copied_lines" ["lines"] 1 (Q7 K):=by
 refine Fn.of (k:=0) F zfX m (λ_ _ _ _ _ _ us hl=>(by obtain⟨_,rfl⟩:=len1 hl;rfl)) (λvs H Q E h=>?_) (λcdv A outer s H vs Q E hr h=>?_)
 ·first
  | (obtain⟨_,_,rfl,_⟩:=h;rfl)
 obtain⟨a,ls,rfl,hA,hl,q⟩:=h
 refine⟨_,(zah (zap (zaN rfl (COk.m (sc0:=zad zbC) (N:=["lines"]) (N':=["lines","line"]) (ms:=[false,true])) (zaK K (pv 0)) (λ_ _ _ _ _=>(zas (i:=1) (ndS (N:=["lines","line"])) rfl (Or.inl rfl))) (λ_ _ _ _ _=>zav) (λ_ _ _ _ _=>(zdr (zkO K) rfl B.list L2.zc1 (zab (pv 1) zaa)))))),?_⟩
 unfold zax Rep at hA
 obtain⟨a',xs,e,hA,hx⟩:=hA
 cases e
 have lx:=hx.length
 rw[zlm] at lx
 ac_rfl
 refine⟨a,rfl,⟨_,hA⟩,?_⟩
 refine zaA (zay hA) (ls.map nums) (by rw[zlm];omega) (zaj (by omega)) (λj x' d H4 R hj hd s4 hx' hR=>?_) (λv H4 s4 n4=>?_)
 ·obtain⟨d2,hd2,hrx⟩:=Reps.get' hx hx'
  rw[hd2] at hd;cases hd
  rw[zgm] at hd2
  obtain⟨l,hl,rfl⟩:=zme.mp hd2
  obtain⟨xa,rfl,hxa⟩:=za5.mp (Rep.same s4 _ hrx)
  ac_rfl
  refine zg2 (.inl hxa) λp hp=>?_
  exact hR _ _ (zaf hp _) (New.iif.mpr ⟨p,rfl,hp,zac⟩)
 exact q _ _ s4 n4
inductive Q9 (K:Fg)(vs:List V)(H:Hp)(Q:VK)(E:XK):Prop
 | mk (v:V) (d:D):vs=[v]->zaW H d v->(∀ v' H',Same H H'->New H H' d v'->Q v' H')->Q9 K vs H Q E
include B Z in
theorem zgl (F:Fun K "copied_deed" "copied_deed" zbP f fd)(m:mg "copied_deed"=some (.ref f)):Fn P w K mg b8 "copied_deed" ["deed"] 1 (Q9 K):=by
 refine Fn.of (k:=0) F zgi m (λ_ _ _ _ _ _ us hl=>(by obtain⟨_,rfl⟩:=len1 hl;rfl)) (λvs H Q E h=>?_) (λcdv A outer s H vs Q E hr h=>?_)
 ·first
  | (obtain⟨_,_,rfl,_⟩:=h;rfl)
 obtain⟨v,d,rfl,hd,q⟩:=h
 refine⟨_,(zah (zap (zdr (znp K) rfl B.tuple L2.zjK (zbn (zaN rfl (COk.m (sc0:=zad zbP) (N:=["deed"]) (N':=["deed","part"]) (ms:=[false,true])) (zhP K (pv 0)) (λ_ _ _ _ _=>(zas (i:=1) (ndS (N:=["deed","part"])) rfl (Or.inl rfl))) (λ_ _ _ _ _=>zav) (λ_ _ _ _ _=>(zi1 (zcZ (zaq (znq K) rfl B.isinstance L2.zcz (zab (pv 1) (zab (ziq (v:=.ty "list") rfl B.list L2.zc1 rfl) zaa)))) (zdr (zkO K) rfl B.list L2.zc1 (zab (pv 1) zaa)) (pv 1)))) zaa)))),?_⟩
 obtain⟨t,xs,ds,rfl,rfl,ht,hl,h8,hp⟩:=hd
 ac_rfl
 refine⟨t,rfl,⟨_,SqT.of ht⟩,?_⟩
 refine zaA (zer (SqT.of ht)) ds hl (zaj (by omega)) (λj x d H1 R hj hd s1 hx hR=>?_) (λv H1 s1 n1=>?_)
 ·have part:=(hp j d x hd hx).sq s1.sq
  ac_rfl
  rcases part with ⟨i,rfl,rfl⟩ | ⟨i,rfl,rfl⟩ | ⟨b,l,rfl,rfl,hb⟩ | ⟨b,i,k,rfl,rfl,hb⟩
  ·refine zjJ (.int i) zhR ?_
   ac_rfl
   exact hR _ _ (Same.refl _) New.int
  ·refine zjJ (.str i) zhS ?_
   ac_rfl
   exact hR _ _ (Same.refl _) New.str
  ·refine zjJ (.lst hb) zg5 ?_
   ac_rfl
   refine zg2 (.inl (SqL.of hb)) λp hp'=>?_
   exact hR _ _ (zaf hp' _) (New.iif.mpr ⟨p,rfl,hp',zac⟩)
  ·refine zjJ (.tup hb) zgg ?_
   ac_rfl
   exact hR _ _ (Same.refl _) ⟨[],RepF.pair hb,List.nodup_nil,λ_ m=>by cases m⟩
 obtain⟨la,vs,rfl,la0,la1,fp,f1,f2,f3⟩:=New.news n1
 ac_rfl
 refine zlQ (SqL.of la1) λp hp'=>?_
 have s2:=zaf hp' (.tup vs)
 exact q _ _ (s1.trans s2) (New.tup (zai.sq s2.sq ds f1) f2 f3 zac)
inductive Q6 (K:Fg)(C:Nat->Addr)(vs:List V)(H:Hp)(Q:VK)(E:XK):Prop
 | mk (p dx:Addr) (v1 v2 v3 v4:V) (needs leaves:List (List Int)) (deeds:List D) (notes:List (List (List Int))) (a3 a4:Addr) (dvs nvs:List V):vs=[.ref p,v1,v2,v3,v4]->H p=some (.ins (C 0) dx [])->Rep K H (zax needs) v1->Rep K H (zax leaves) v2->v3=.ref a3->SqL K H a3 dvs->v4=.ref a4->SqL K H a4 nvs->needs.length<=1000->leaves.length<=1000->deeds.length<=1000->notes.length<=1000->deeds.length=dvs.length->notes.length=nvs.length->(∀ (i:Nat) d x,deeds[i]?=some d->dvs[i]?=some x->zaW H d x)->(∀ (i:Nat) ls x,notes[i]?=some ls->nvs[i]?=some x->ls.length<=1000/\Rep K H (zax ls) x)->(∀ H' w1 w2 w3 w4,(∀ b o,H b=some o->b≠p->H' b=some o)->H' p=some (.ins (C 0) dx (flds w1 w2 w3 w4))->News H H' (zk5 needs leaves deeds notes) [w1,w2,w3,w4]->Q .non H')->Q6 K C vs H Q E
include B Z in
theorem zl8 (Q8:Fn P w K mg b8 "copied_lines" ["lines"] 1 (Q7 K))(Qa:Fn P w K mg b8 "copied_deed" ["deed"] 1 (Q9 K))(F:Fun K "__init__" "Craft.__init__" za6 f fd)(M:Mk K (C 0) f):Mkr P w K mg b8 "Craft" (C 0) ["self","needs","leaves","deeds","notes"] 2 (Q6 K C):=by
 refine⟨f,fd,M,F.ok (k:=1) zeU (λvs H Q E h=>?_) (λcdv A outer s H vs Q E hr h=>?_),F.binds λ_ _ _ _ _ _ us hl=>(by obtain⟨_,_,_,_,_,rfl⟩:=len5 hl;rfl),Z.m_Craft⟩
 ·first
  | (obtain⟨_,_,_,_,_,_,_,_,_,_,_,_,_,_,rfl,_⟩:=h;rfl)
 obtain⟨p,dx,v1,v2,v3,v4,needs,leaves,deeds,notes,a3,a4,dvs,nvs,rfl,hp,r1,r2,rfl,h3,rfl,h4,l1,l2,l3,l4,e3,e4,dr,nr,q⟩:=h
 refine⟨_,(zae (zgC (pv 0) (zak Q8 hr rfl (zab (pv 1) zaa)) rfl)
   (zae (zgC (pv 0) (zak Q8 hr rfl (zab (pv 2) zaa)) rfl)
   (zae (zgC (pv 0) (zaN rfl (COk.m (sc0:=zad za6) (N:=["self","needs","leaves","deeds","notes"]) (N':=["self","needs","leaves","deeds","notes","deed"]) (ms:=[false,false,false,false,false,true])) (zaK K (pv 3)) (λ_ _ _ _ _=>(zas (i:=5) (ndS (N:=["self","needs","leaves","deeds","notes","deed"])) rfl (Or.inl rfl))) (λ_ _ _ _ _=>zav) (λ_ _ _ _ _=>(zak Qa hr rfl (zab (pv 5) zaa)))) rfl)
   (zah (zgC (pv 0) (zaN rfl (COk.m (sc0:=zad za6) (N:=["self","needs","leaves","deeds","notes"]) (N':=["self","needs","leaves","deeds","notes","lines"]) (ms:=[false,false,false,false,false,true])) (zaK K (pv 4)) (λ_ _ _ _ _=>(zas (i:=5) (ndS (N:=["self","needs","leaves","deeds","notes","lines"])) rfl (Or.inl rfl))) (λ_ _ _ _ _=>zav) (λ_ _ _ _ _=>(zak Q8 hr rfl (zab (pv 5) zaa)))) rfl))))),?_⟩
 obtain⟨b1,rfl⟩:∃ b,v1=.ref b:=by unfold zax Rep at r1;obtain⟨a,_,e,_⟩:=r1;exact⟨a,e⟩
 obtain⟨b2,rfl⟩:∃ b,v2=.ref b:=by unfold zax Rep at r2;obtain⟨a,_,e,_⟩:=r2;exact⟨a,e⟩
 ac_rfl
 -- self.needs
 refine⟨b1,needs,rfl,r1,l1,λw1 H1 s1 n1=>?_⟩
 ac_rfl
 refine⟨p,(C 0),dx,[],rfl,s1 _ _ hp,Z.c_Craft,Z.n_Craft_needs,by show 0<1000;decide,?_⟩
 have k1:Sq H (upd H1 p (.ins (C 0) dx (putF "needs" w1 []))):=s1.sq.trans (zfI (s1 _ _ hp) rfl)
 have u1:News H (upd H1 p (.ins (C 0) dx (putF "needs" w1 []))) [zax needs] [w1]:=(News.nil.snoc' (H:=H) (H1:=H) (Same.refl H).fr s1 n1).sq (zfI (s1 _ _ hp) rfl)
 have f1:Free H (upd H1 p (.ins (C 0) dx (putF "needs" w1 []))):=s1.fr.trans zfi
 -- self.leaves
 ac_rfl
 refine⟨b2,leaves,rfl,Rep.sq k1 _ r2,l2,λw2 H2 s2 n2=>?_⟩
 have p2:=s2 _ _ (zac (H:=H1) (a:=p) (o:=.ins (C 0) dx (putF "needs" w1 [])))
 ac_rfl
 refine⟨p,(C 0),dx,_,rfl,p2,Z.c_Craft,Z.n_Craft_leaves,Nat.lt_of_lt_of_le (zdg (n:=1) (by decide)) (by decide),?_⟩
 have k2:=k1.trans (s2.sq.trans (zfI (o:=.ins (C 0) dx (putF "leaves" w2 (putF "needs" w1 []))) p2 rfl))
 have u2:=(u1.snoc' f1 s2 n2).sq (zfI (o:=.ins (C 0) dx (putF "leaves" w2 (putF "needs" w1 []))) p2 rfl)
 have f2:Free H (upd H2 p (.ins (C 0) dx (putF "leaves" w2 (putF "needs" w1 [])))):=f1.trans (s2.fr.trans zfi)
 -- self.deeds
 ac_rfl
 refine⟨a3,rfl,⟨_,k2.lst h3⟩,?_⟩
 refine zaA (zay (k2.lst h3)) deeds e3 (zaj (by omega)) (λj x d H3 R hj hd s3 hx hR=>?_) (λw3 H3 s3 n3=>?_)
 ·ac_rfl
  refine⟨x,d,rfl,(dr j d x hd hx).sq (k2.trans s3.sq),λv' H4 s4 n4=>?_⟩
  exact hR _ _ s4 n4
 have p3:=s3 _ _ (zac (H:=H2) (a:=p) (o:=.ins (C 0) dx (putF "leaves" w2 (putF "needs" w1 []))))
 ac_rfl
 refine⟨p,(C 0),dx,_,rfl,p3,Z.c_Craft,Z.n_Craft_deeds,Nat.lt_of_lt_of_le (zdg (n:=2) (zdg (n:=1) (by decide))) (by decide),?_⟩
 have k3:=k2.trans (s3.sq.trans (zfI (o:=.ins (C 0) dx (putF "deeds" w3 (putF "leaves" w2 (putF "needs" w1 [])))) p3 rfl))
 have u3:=(u2.snoc' f2 s3 n3).sq (zfI (o:=.ins (C 0) dx (putF "deeds" w3 (putF "leaves" w2 (putF "needs" w1 [])))) p3 rfl)
 have f3:Free H (upd H3 p (.ins (C 0) dx (putF "deeds" w3 (putF "leaves" w2 (putF "needs" w1 []))))):=f2.trans (s3.fr.trans zfi)
 -- self.notes
 ac_rfl
 refine⟨a4,rfl,⟨_,k3.lst h4⟩,?_⟩
 refine zaA (zay (k3.lst h4)) (notes.map zax) (by rw[zlm];exact e4) (zaj (by omega)) (λj x d H4 R hj hd s4 hx hR=>?_) (λw4 H4 s4 n4=>?_)
 ·rw[zgm] at hd
  obtain⟨ls,hls,rfl⟩:=zme.mp hd
  obtain⟨hz,hr2⟩:=nr j ls x hls hx
  have hr3:=Rep.sq (k3.trans s4.sq) _ hr2
  obtain⟨b,rfl⟩:∃ b,x=.ref b:=by unfold zax Rep at hr3;obtain⟨a,_,e,_⟩:=hr3;exact⟨a,e⟩
  ac_rfl
  refine⟨b,ls,rfl,hr3,hz,λv' H5 s5 n5=>?_⟩
  exact hR _ _ s5 n5
 have p4:=s4 _ _ (zac (H:=H3) (a:=p) (o:=.ins (C 0) dx (putF "deeds" w3 (putF "leaves" w2 (putF "needs" w1 [])))))
 ac_rfl
 refine⟨p,(C 0),dx,_,rfl,p4,Z.c_Craft,Z.n_Craft_notes,Nat.lt_of_lt_of_le (zdg (n:=3) (zdg (n:=2) (zdg (n:=1) (by decide)))) (by decide),?_⟩
 have u4:=(u3.snoc' f3 s4 n4).sq (zfI (o:=.ins (C 0) dx (putF "notes" w4 (putF "deeds" w3 (putF "leaves" w2 (putF "needs" w1 []))))) p4 rfl)
 refine q _ w1 w2 w3 w4 (λb o e hb=>?_) zac u4
 rw[zam hb]
 refine s4 _ _ ?_
 rw[zam hb]
 refine s3 _ _ ?_
 rw[zam hb]
 refine s2 _ _ ?_
 rw[zam hb]
 exact s1 _ _ e
def zdD (K:Fg):Sp:=λvs H Q _=>∃ i:Int,vs=[.int i]/\∀ v H',Same H H'->New H H' (nums (zaz i)) v->Q v H'
theorem zcT {H:Hp}{Q:VK}{E:XK}{i:Int}(q:∀ v H',Same H H'->New H H' (nums (zaz i)) v->Q v H'):zdD K [.int i] H Q E:=⟨i,rfl,q⟩
include B Z in
theorem znM (F:Fun K "bare" "bare" zht f fd)(m:mg "bare"=some (.ref f)):Fn P w K mg b8 "bare" ["i"] 1 (zdD K):=by
 refine Fn.of (k:=0) F znL m (λ_ _ _ _ _ _ us hl=>(by obtain⟨_,rfl⟩:=len1 hl;rfl)) (λvs H Q E h=>?_) (λcdv A outer s H vs Q E hr h=>?_)
 ·first
  | (obtain⟨_,rfl,_⟩:=h;rfl)
 obtain⟨i,rfl,q⟩:=h
 refine⟨_,(zah (zap (zaS (zaV K) (zaL (zao zag zaa)) (zaN rfl (COk.m (sc0:=zad zht) (N:=["i"]) (N':=["i","factor"]) (ms:=[false,true])) (zcx rfl B.range (zab (zaY rfl B.c_FACTORS) zaa)) (λ_ _ _ _ _=>(zas (i:=1) (ndS (N:=["i","factor"])) rfl (Or.inl rfl))) (λ_ _ _ _ _=>zav) (λ_ _ _ _ _=>(zi1 (zaM (k_eq K hr) (pv 1) (pv 0) (zaD _)) zag zag)))))),?_⟩
 ac_rfl
 refine⟨by decide,λp hp=>?_⟩
 ac_rfl
 refine zd5 (by decide) (by decide) ?_
 refine zaA (n:=8) zeP (((List.range 8).map λ(k:Nat)=>(if (0+(k:Int))=i then 1 else 0:Int)).map D.int) (by simp) (by decide) (λj x d H1 R hj hd s1 hx hR=>?_) (λv H1 s1 n1=>?_)
 ·subst hx
  rw[List.map_map] at hd
  have hd':=zkQ hd
  subst hd'
  ac_rfl
  refine ite2 (λe=>?_) (λe=>?_)
  ·have e':0+(j:Int)=i:=of_decide_eq_true e
   ac_rfl
   refine hR _ _ (Same.refl _) ?_
   simp only[Function.comp,if_pos e']
   exact New.int
  ·have e':¬ 0+(j:Int)=i:=of_decide_eq_false (Bool.eq_false_iff.mpr e)
   ac_rfl
   refine hR _ _ (Same.refl _) ?_
   simp only[Function.comp,if_neg e']
   exact New.int
 obtain⟨la,rfl,la0,la1⟩:=New.iif.mp n1
 have s2:=(zaf hp (.lst [.int 0])).trans s1
 refine zbe (s1 _ _ zac) la1 (by simp;decide) λr hr'=>?_
 refine q _ _ (s2.trans (zaf hr' _)) (New.iif.mpr ⟨r,rfl,s2.free hr',?_⟩)
 rw[zac]
 rfl
inductive Q1 (K:Fg)(vs:List V)(H:Hp)(Q:VK)(E:XK):Prop
 | mk (a b:Addr) (ls:List (List Int)) (ws:List Int):vs=[.ref a,.ref b]->Rep K H (.lst (ls.map nums)) (.ref a)->SqL K H b (ws.map V.int)->ls.length=ws.length->ls.length<=1000->(∀ l∈ls,l.length=9)->zl3 ls ws->(∀ v H',Same H H'->New H H' (nums (zbV ls ws)) v->Q v H')->Q1 K vs H Q E
include B Z in
theorem zk9 (F:Fun K "summed" "summed" zed f fd)(m:mg "summed"=some (.ref f)):Fn P w K mg b8 "summed" ["lines","weights"] 1 (Q1 K):=by
 refine Fn.of (k:=0) F zdB m (λ_ _ _ _ _ _ us hl=>(by obtain⟨_,_,rfl⟩:=len2 hl;rfl)) (λvs H Q E h=>?_) (λcdv A outer s H vs Q E hr h=>?_)
 ·first
  | (obtain⟨_,_,_,_,rfl,_⟩:=h;rfl)
 obtain⟨a,b,ls,ws,rfl,hA,hB,hl,h1000,h9,ok,q⟩:=h
 refine⟨_,(zae (zat (i:=2) zdB.nd rfl (Or.inl rfl) (zaS zcP (zaL (zao zag zaa)) (zaY rfl B.c_NUMBERS)))
   (zae (zcM PassesOwn.never rfl (zmG K rfl B.zip (zab (pv 0) (zab (pv 1) zaa))) (zkP K (n:=2) rfl (zdI (zas (i:=3) zdB.nd rfl (Or.inl rfl)) (zdI (zas (i:=4) zdB.nd rfl (Or.inr rfl)) zir))) (zah (zeM (i:=2) zdB.nd rfl rfl rfl (COk.m (sc0:=zad zed) (N:=["lines","weights","total","line","weight"]) (N':=["lines","weights","total","line","weight","so_far","number"]) (ms:=[false,false,false,false,false,true,true])) (zmG K rfl B.zip (zab (pv 2) (zab (pv 3) zaa))) (λ_ _ _ _ _=>(zkP K (n:=2) rfl (zdI (zas (i:=5) (ndS (N:=["lines","weights","total","line","weight","so_far","number"])) rfl (Or.inl rfl)) (zdI (zas (i:=6) (ndS (N:=["lines","weights","total","line","weight","so_far","number"])) rfl (Or.inl rfl)) zir)))) (λ_ _ _ _ _=>zav) (λ_ _ _ _ _=>(zaS (zaV K) (pv 5) (zaS zcP (pv 6) (pv 4)))))))
   (zah (zap (pv 2))))),?_⟩
 unfold Rep at hA
 obtain⟨a',xs,e,hA,hx⟩:=hA
 cases e
 have lx:=hx.length
 rw[zlm] at lx
 ac_rfl
 refine⟨by decide,λp hp=>?_⟩
 ac_rfl
 refine .inr ⟨p,9,[.int 0],rfl,rfl,zac,by decide,by decide,by decide,λt ht=>?_⟩
 have s0:=(zaf hp (.lst [.int 0])).trans (zaf ht (.lst (List.replicate (9:Int).toNat [V.int 0]).flatten))
 ac_rfl
 refine⟨a,b,rfl,⟨_,s0.seq hA⟩,⟨_,s0.seq hB⟩,?_⟩
 refine zg1 (n:=ws.length) (zjb (s0.seq hA) (s0.seq hB) (by rw[zlm];omega)) (λi σ H2=>∃ (ta:Addr) (x y:Option V),σ=[some (.ref a),some (.ref b),some (.ref ta),x,y]/\Same (upd (upd H p (.lst [.int 0])) t (.lst (List.replicate (9:Int).toNat [V.int 0]).flatten)) H2/\H ta=none/\H2 ta=some (.lst ((zha ((ls.zip ws).take i) (List.replicate 9 0)).map V.int)))
  ⟨t,none,none,rfl,Same.refl _,(zaf hp _).free ht,by rw[zac];rfl⟩ (λi σ H2 ⟨_,_,_,_,e,_⟩=>e) ?_ ?_
 ·rintro i v σ H2 H3 hi ⟨ta,x,y,rfl,s2,ta0,ta1⟩ s3 ⟨T,u,z,rfl,hT,eu,ez⟩
  have il:i<ls.length:=by omega
  rw[zgm] at ez
  obtain⟨w',hw,rfl⟩:=zme.mp ez
  obtain⟨dl,hdl,hru⟩:=hx.get' eu
  rw[zgm,List.getElem?_eq_getElem il] at hdl
  cases hdl
  obtain⟨lu,rfl,hlu⟩:=za5.mp (Rep.same (s0.trans (s2.trans s3)) _ hru)
  have l9:=h9 ls[i] (List.getElem_mem il)
  have ft9:(zha ((ls.zip ws).take i) (List.replicate 9 0)).length=9:=zdx _ _ (by simp) λp hp=>zk0 h9 p (List.mem_of_mem_take hp)
  refine⟨T,_,rfl,SqT.of hT,rfl,⟨_,_,rfl,?_⟩⟩
  refine⟨_,_,rfl,?_⟩
  refine⟨rfl,?_⟩
  ac_rfl
  refine⟨ta,lu,rfl,⟨_,SqL.of (s3 _ _ ta1)⟩,⟨_,hlu⟩,?_⟩
  refine zaA (n:=9) (zjb (SqL.of (s3 _ _ ta1)) hlu (by rw[zlm,zlm,ft9,l9];rfl)) ((addW w' (zha ((ls.zip ws).take i) (List.replicate 9 0)) ls[i]).map D.int) (by rw[zlm];exact zfO ft9 l9) (by decide) (λj x' d H4 R hj hd s4 hx' hR=>?_) (λv H4 s4 n4=>?_)
  ·obtain⟨T2,u2,z2,rfl,hT2,e1,e2⟩:=hx'
   rw[zgm] at e1 e2
   obtain⟨s',hs',rfl⟩:=zme.mp e1
   obtain⟨n',hn',rfl⟩:=zme.mp e2
   have ed:d=.int (s' + n' * w'):=by
    unfold addW at hd
    rw[zgm,List.getElem?_zipWith,hs',hn'] at hd
    cases hd
    rfl
   subst ed
   refine⟨T2,_,rfl,SqT.of hT2,rfl,⟨_,_,rfl,?_⟩⟩
   refine⟨_,_,rfl,?_⟩
   refine⟨rfl,?_⟩
   ac_rfl
   refine zjd (ok i ls[i] w' (by simp) hw n' (zmg hn')) ?_
   ac_rfl
   exact hR _ _ (Same.refl _) New.int
  obtain⟨na,rfl,na0,na1⟩:=New.iif.mp n4
  ac_rfl
  refine⟨na,_,_,rfl,s2.trans (s3.trans s4),(s0.trans (s2.trans s3)).free na0,?_⟩
  rw[na1,List.take_add_one,znI (List.getElem?_eq_getElem il) hw,zjR]
 ·rintro σ H2 ⟨ta,x,y,rfl,s2,ta0,ta1⟩
  ac_rfl
  refine q _ _ (s0.trans s2) (New.iif.mpr ⟨ta,rfl,ta0,?_⟩)
  rw[ta1,List.take_of_length_le (by rw[List.length_zip];omega)]
  rfl
inductive Q4 (K:Fg)(vs:List V)(H:Hp)(Q:VK)(E:XK):Prop
 | mk (a b:Addr) (c:Int) (fs:List Int) (ls:List (List Int)):vs=[.ref a,.ref b]->SqL K H a ((c::fs).map V.int)->Rep K H (.lst (ls.map nums)) (.ref b)->fs.length=8->ls.length=8->(∀ l∈ls,l.length=9)->zl3 ls fs->(∀ v H',Same H H'->New H H' (nums (zaQ (c::fs) ls)) v->Q v H')->Q4 K vs H Q E
theorem zl9 (c:Int)(fs:List Int):cutV ((c::fs).map V.int) (some 1) none=fs.map V.int:=by
 unfold cutV
 rw[show HT.sIx ((c::fs).map V.int).length 0 (some 1)=1 by rw[show (1:Int)=((1:Nat):Int) by rfl,HT.sIx_nat];simp]
 rw[HT.sIx_none]
 simp[List.take_of_length_le]
include B Z in
theorem zla (Q3:Fn P w K mg b8 "summed" ["lines","weights"] 1 (Q1 K))(F:Fun K "turned" "turned" zfc f fd)(m:mg "turned"=some (.ref f)):Fn P w K mg b8 "turned" ["line","eight"] 2 (Q4 K):=by
 refine Fn.of (k:=1) F zh5 m (λ_ _ _ _ _ _ us hl=>(by obtain⟨_,_,rfl⟩:=len2 hl;rfl)) (λvs H Q E h=>?_) (λcdv A outer s H vs Q E hr h=>?_)
 ·first
  | (obtain⟨_,_,_,_,_,rfl,_⟩:=h;rfl)
 obtain⟨a,b,c,fs,ls,rfl,hA,hB,lf,ll,h9,ok,q⟩:=h
 refine⟨_,(zae (zat (i:=2) zh5.nd rfl (Or.inl rfl) (zak Q3 hr rfl (zab (pv 1) (za3 (zgV (k_sl K) (pv 0) (ziv zag) ziu) zaa))))
   (zae (zn7 (zaS (zaV K) (zaH (k_ix K) (pv 2) zag (λ_ _=>rfl)) (zaH (k_ix K) (pv 0) zag (λ_ _=>rfl))) (zn6 (pv 2) zag zlC))
   (zah (zap (pv 2))))),?_⟩
 ac_rfl
 refine .inl ⟨a,_,rfl,hA,λp hp=>?_⟩
 rw[zl9]
 have s1:=zaf hp (.lst (fs.map V.int))
 ac_rfl
 refine⟨b,p,ls,fs,rfl,Rep.same s1 _ hB,SqL.of zac,by omega,by omega,h9,ok,λv H2 s2 n2=>?_⟩
 obtain⟨ta,rfl,ta0,ta1⟩:=New.iif.mp n2
 have s3:=s1.trans s2
 obtain⟨x,r,hs⟩:∃ x r,zbV ls fs=x::r:=by
  have:=zaU (ws:=fs) h9
  cases e:zbV ls fs with
  | nil=>rw[e] at this;simp at this
  | cons x r=>exact⟨x,r,rfl⟩
 rw[hs] at ta1
 ac_rfl
 refine zgf (SqL.of ta1) (v:=.int x) zbs ?_
 ac_rfl
 refine zgf (s3.seq hA) (v:=.int c) zbs ?_
 ac_rfl
 refine zo2 ta1 ix0 ?_
 ac_rfl
 have ta2:=s1.free ta0
 refine q _ _ (λd o e=>?_) (New.iif.mpr ⟨ta,rfl,ta2,?_⟩)
 ·rw[zam (zau e ta2)];exact s3 _ _ e
 ·rw[zac]
  unfold zaQ
  rw[show (c::fs).tail=fs by rfl,hs]
  rfl
theorem zid {K:Fg}{C:Nat->Addr}{H:Hp}{p dx a3 a4:Addr}{v1 v2:V}{c:Cr}{dvs nvs:List V}{Q:VK}{E:XK}(np:H p=none)(nd:H dx=none)(r1:Rep K H (zax c.needs) v1)(r2:Rep K H (zax c.leaves) v2)(h3:SqL K H a3 dvs)(h4:SqL K H a4 nvs)(dr:zeT H c.deeds dvs)(nr:R2 (λls x=>Rep K H (zax ls) x) c.notes nvs)(g:c.Nine)
  (q:∀ H1 f,Same H H1->zcE (C 0) H1 p c f->(∀ b∈f,H b=none)->f.Nodup->Q .non H1):Q6 K C [.ref p,v1,v2,.ref a3,.ref a4] (upd (upd H dx (.own p)) p (.ins (C 0) dx [])) Q E:=by
 have sm:Same H (upd (upd H dx (.own p)) p (.ins (C 0) dx [])):=λb o e=>by
  rw[zam (zau e np),zam (zau e nd)];exact e
 have ld:=dr.1
 have ln:=nr.1
 have e1:=g.d
 have e2:=g.n
 have e3:=g.l
 have e4:=g.o
 refine⟨p,dx,v1,v2,.ref a3,.ref a4,c.needs,c.leaves,c.deeds.map toD,c.notes,a3,a4,dvs,nvs,rfl,zac,Rep.same sm _ r1,Rep.same sm _ r2,rfl,sm.seq h3,rfl,sm.seq h4,by omega,by omega,by rw[zlm];omega,by omega,by rw[zlm];exact ld,ln,λi d x q1 q2=>?_,λi ls x q1 q2=>?_,λH1 w1 w2 w3 w4 keep hp nw=>?_⟩
 ·rw[zgm] at q1
  obtain⟨d',hd',rfl⟩:=zme.mp q1
  exact (dr.2 i d' x hd' q2).sq sm.sq
 ·exact⟨by have:=(g.o9 ls (zmg q1)).1;omega,Rep.same sm _ (nr.2 i ls x q1 q2)⟩
 ·have s1:Same H H1:=λb o e=>keep b o (sm _ _ e) (zau e np)
  obtain⟨f,k1,k2,k3⟩:=nw
  have pf:p∉f:=λz=>by have:=k3 p z;rw[zac] at this;cases this
  refine q H1 (p::f) s1 ⟨dx,w1,w2,w3,w4,f,rfl,hp,k1⟩ (λb hb=>?_) (List.nodup_cons.mpr ⟨pf,k2⟩)
  rcases List.mem_cons.mp hb with rfl | hb
  ·exact np
  ·exact sm.fr b (k3 b hb)
theorem zmb {a1 a2 a3 a4 b1 b2 b3 b4:V}(h:flds a1 a2 a3 a4=flds b1 b2 b3 b4):a1=b1/\a2=b2/\a3=b3/\a4=b4:=by
 refine⟨?_,?_,?_,?_⟩
 ·have:=zcS a1 a2 a3 a4;rw[h,zcS] at this;injection this with this;exact this.symm
 ·have:=zcj a1 a2 a3 a4;rw[h,zcj] at this;injection this with this;exact this.symm
 ·have:=zcd a1 a2 a3 a4;rw[h,zcd] at this;injection this with this;exact this.symm
 ·have:=zdf a1 a2 a3 a4;rw[h,zdf] at this;injection this with this;exact this.symm
inductive Qb (K:Fg)(C:Nat->Addr)(vs:List V)(H:Hp)(Q:VK)(E:XK):Prop
 | mk (p:Addr) (c:Cr):vs=[.ref p]->zdA K (C 0) H p c.needs c.leaves c.deeds c.notes->c.Nine->(∀ q f H',Same H H'->zcE (C 0) H' q c f->(∀ b∈f,H b=none)->f.Nodup->Q (.ref q) H')->Qb K C vs H Q E
include B Z in
theorem zf3 (M_Craft:Mkr P w K mg b8 "Craft" (C 0) ["self","needs","leaves","deeds","notes"] 2 (Q6 K C))(F:Fun K "copied_craft" "copied_craft" zb8 f fd)(m:mg "copied_craft"=some (.ref f)):Fn P w K mg b8 "copied_craft" ["craft"] 4 (Qb K C):=by
 refine Fn.of (k:=3) F zfY m (λ_ _ _ _ _ _ us hl=>(by obtain⟨_,rfl⟩:=len1 hl;rfl)) (λvs H Q E h=>?_) (λcdv A outer s H vs Q E hr h=>?_)
 ·first
  | (obtain⟨_,_,rfl,_⟩:=h;rfl)
 obtain⟨p,c,rfl,hT,g,q⟩:=h
 refine⟨_,(zah (zap (zo3 M_Craft hr rfl (zbo (zbk K (pv 0) rfl) (zbo (zbk K (pv 0) rfl) (zbo (zbk K (pv 0) rfl) (zbo (zbk K (pv 0) rfl) zaa))))))),?_⟩
 obtain⟨⟨dx,w1,w2,w3,w4,hp,r1,r2,r3,r4⟩,dx',u1,u2,b3,u4,dvs,hp',hb3,hD⟩:=hT
 have e:=hp
 rw[hp'] at e
 injection e with e
 injection e with _ e0 e
 obtain⟨rfl,rfl,rfl,rfl⟩:=zmb e
 unfold Rep at r4
 obtain⟨b4,nvs,rfl,q4,z4⟩:=r4
 have z4l:=z4.length
 nofun
 refine⟨p,(C 0),dx,_,_,rfl,hp,Z.c_Craft,Z.n_Craft_needs,zcS _ _ _ _,?_⟩
 nofun
 refine⟨p,(C 0),dx,_,_,rfl,hp,Z.c_Craft,Z.n_Craft_leaves,zcj _ _ _ _,?_⟩
 nofun
 refine⟨p,(C 0),dx,_,_,rfl,hp,Z.c_Craft,Z.n_Craft_deeds,zcd _ _ _ _,?_⟩
 nofun
 refine⟨p,(C 0),dx,_,_,rfl,hp,Z.c_Craft,Z.n_Craft_notes,zdf _ _ _ _,?_⟩
 nofun
 intro y dy hy hdy ndy
 refine zid (c:=c) hy hdy r1 r2 (SqL.of hb3) q4 hD ⟨by simpa using z4l,λi ls x e1 e2=>?_⟩ g λH1 f s1 hC hf fn=>⟨rfl,q y f H1 s1 hC hf fn⟩
 obtain⟨d,hd,hrx⟩:=Reps.get' z4 e2
 rw[zgm,e1] at hd
 cases hd
 exact hrx
def zcU (deeds:List Dd)(i:Nat):Bool:=match deeds[i]? with
 | some d=>(zbf d).isSome
 | none=>false
def ze8 (deeds:List Dd)(i:Nat):D:=match deeds[i]? with
 | some d=>.int ((zbf d).getD 0)
 | none=>.int 0
theorem zgR:∀ (deeds:List Dd),((List.range deeds.length).filter (zcU deeds)).map (ze8 deeds)=(zaw deeds).map D.int
 | []=>rfl
 | d::ds=>by
  have ih:=zgR ds
  have f:(List.map Nat.succ (List.range ds.length)).filter (zcU (d::ds))=((List.range ds.length).filter (zcU ds)).map Nat.succ:=by
   rw[List.filter_map];rfl
  have g:(((List.range ds.length).filter (zcU ds)).map Nat.succ).map (ze8 (d::ds))=(zaw ds).map D.int:=by
   rw[List.map_map,<-ih];rfl
  rw[List.length_cons,List.range_succ_eq_map,List.filter_cons,f]
  unfold zaw at g ⊢
  cases e:zbf d with
  | none=>
   rw[show zcU (d::ds) 0=false by unfold zcU;simp[e],if_neg (by decide),List.filterMap_cons,e]
   exact g
  | some m=>
   rw[show zcU (d::ds) 0=true by unfold zcU;simp[e],if_pos rfl,List.filterMap_cons,e,zmc,zmc,g,show ze8 (d::ds) 0=.int m by unfold ze8;simp[e]]
theorem zlb (deeds:List Dd)(n:Nat)(h:n=deeds.length):((List.range n).filter (zcU deeds)).map (ze8 deeds)=(zaw deeds).map D.int:=by
 subst h;exact zgR deeds
inductive Qd (K:Fg)(C:Nat->Addr)(vs:List V)(H:Hp)(Q:VK)(E:XK):Prop
 | mk (p:Addr) (dx b3:Addr) (w1 w2 w4:V) (dvs:List V) (deeds:List Dd):vs=[.ref p]->H p=some (.ins (C 0) dx (flds w1 w2 (.ref b3) w4))->H b3=some (.lst dvs)->zeT H deeds dvs->deeds.length<=1000->(∀ v H',Same H H'->New H H' (nums (zaw deeds)) v->Q v H')->Qd K C vs H Q E
include B Z in
theorem zie (F:Fun K "called_by" "called_by" zcv f fd)(m:mg "called_by"=some (.ref f)):Fn P w K mg b8 "called_by" ["craft"] 1 (Qd K C):=by
 refine Fn.of (k:=0) F zh6 m (λ_ _ _ _ _ _ us hl=>(by obtain⟨_,rfl⟩:=len1 hl;rfl)) (λvs H Q E h=>?_) (λcdv A outer s H vs Q E hr h=>?_)
 ·first
  | (obtain⟨_,_,_,_,_,_,_,_,rfl,_⟩:=h;rfl)
 obtain⟨p,dx,b3,w1,w2,w4,dvs,deeds,rfl,hp,hb3,hD,hl,q⟩:=h
 refine⟨_,(zah (zap (zaN rfl (COk.m (sc0:=zad zcv) (N:=["craft"]) (N':=["craft","deed"]) (ms:=[false,true])) (zaK K (zbk K (pv 0) rfl)) (λ_ _ _ _ _=>(zas (i:=1) (ndS (N:=["craft","deed"])) rfl (Or.inl rfl))) (λ_ _ _ _ _=>(zlG (zaM (k_eq K hr) (zaH (k_ix K) (pv 1) zag (λ_ _=>rfl)) zb3 (zaD _)))) (λ_ _ _ _ _=>(zaH (k_ix K) (pv 1) zag (λ_ _=>rfl)))))),?_⟩
 have ld:=hD.1
 ac_rfl
 refine⟨p,(C 0),dx,_,_,rfl,hp,Z.c_Craft,Z.n_Craft_deeds,zcd _ _ _ _,?_⟩
 refine⟨b3,rfl,⟨_,SqL.of hb3⟩,?_⟩
 refine zkL (zay (SqL.of hb3)) (zcU deeds) (ze8 deeds) (zaj (by omega)) (λi x H1 R1 R2' hi s1 hx hy hn=>?_) (λv H1 s1 n1=>?_)
 ·have hi':i<deeds.length:=by omega
  have drx:=(hD.2 i deeds[i] x (by simp) hx).sq s1.sq
  have ek:zcU deeds i=(zbf deeds[i]).isSome:=by unfold zcU;simp[hi']
  have en:ze8 deeds i=.int ((zbf deeds[i]).getD 0):=by unfold ze8;simp[hi']
  generalize deeds[i]=d at drx ek en
  obtain⟨t,xs,rfl,ht⟩:=zd9 drx
  nofun
  refine zaO (SqT.of ht) zbs ?_
  nofun
  have ew:decide (zbX d ="call")=zcU deeds i:=by
   rw[ek]
   cases d <;> first | rfl | (unfold zbX zbf;decide +kernel)
  rw[ew]
  cases hk:zcU deeds i with
  | false=>
   rw[if_neg (by decide)]
   exact hn hk _ (Same.refl _)
  | true=>
   rw[if_pos rfl]
   rw[hk] at ek
   cases d with
   | call m g0 g1 t0 t1=>
    obtain⟨t',ys,et,hT2,px⟩:=zbl drx
    cases et
    obtain⟨x0,r,rfl,e0,px⟩:=zar px
    obtain⟨x1,r,rfl,e1,px⟩:=zar px
    cases zbz e1
    nofun
    refine zaO (SqT.of hT2) (v:=.int m) (zaJ (j:=1) rfl) ?_
    refine hy hk _ _ (Same.refl _) ?_
    rw[en]
    exact New.int
   | _=>cases ek
 ·ac_rfl
  rw[zlb deeds _ ld.symm] at n1
  exact q _ _ s1 n1
inductive Q24 (K:Fg)(vs:List V)(H:Hp)(Q:VK)(E:XK):Prop
 | mk (a b c:Int):vs=[.int a,.int b,.int c]->Q (.bl (decide (a<=b) && decide (b<=c))) H->Q24 K vs H Q E
theorem zcF {H:Hp}{Q:VK}{E:XK}{a b c:Int}(q:Q (.bl (decide (a<=b) && decide (b<=c))) H):Q24 K [.int a,.int b,.int c] H Q E:=⟨a,b,c,rfl,q⟩
include B Z in
theorem zj1 (F:Fun K "between" "between" zee f fd)(m:mg "between"=some (.ref f)):Fn P w K mg b8 "between" ["low","number","high"] 1 (Q24 K):=by
 refine Fn.of (k:=0) F zjZ m (λ_ _ _ _ _ _ us hl=>(by obtain⟨_,_,_,rfl⟩:=len3 hl;rfl)) (λvs H Q E h=>?_) (λcdv A outer s H vs Q E hr h=>?_)
 ·first
  | (obtain⟨_,_,_,rfl,_⟩:=h;rfl)
 obtain⟨a,b,c,rfl,q⟩:=h
 refine⟨_,(zah (zap (zlv zlu zlu (pv 0) (pv 1) (pv 2)))),?_⟩
 ac_rfl
 cases h:decide (a<=b) with
 | false=>rw[h] at q;ac_rfl;exact q
 | true=>rw[h] at q;ac_rfl;exact q
def zb0 (K:Fg):Sp:=λvs H Q _=>∃ n:Int,vs=[.int n]/\Q (.bl (zdW n)) H
theorem ziR {H:Hp}{Q:VK}{E:XK}{n:Int}(q:Q (.bl (zdW n)) H):zb0 K [.int n] H Q E:=⟨n,rfl,q⟩
include B Z in
theorem zf4 (Q25:Fn P w K mg b8 "between" ["low","number","high"] 1 (Q24 K))(F:Fun K "small_enough" "small_enough" zb9 f fd)(m:mg "small_enough"=some (.ref f)):Fn P w K mg b8 "small_enough" ["number"] 2 (zb0 K):=by
 refine Fn.of (k:=1) F zfZ m (λ_ _ _ _ _ _ us hl=>(by obtain⟨_,rfl⟩:=len1 hl;rfl)) (λvs H Q E h=>?_) (λcdv A outer s H vs Q E hr h=>?_)
 ·first
  | (obtain⟨_,rfl,_⟩:=h;rfl)
 obtain⟨n,rfl,q⟩:=h
 refine⟨_,(zah (zap (zak Q25 hr rfl (ziF (zfp zdq (zaY rfl B.c_GREATEST)) (zab (pv 0) (zab (zaY rfl B.c_GREATEST) zaa)))))),?_⟩
 ac_rfl
 refine zcF ?_
 exact q
inductive Q18 (K:Fg)(vs:List V)(H:Hp)(Q:VK)(E:XK):Prop
 | mk (a t:Addr) (l:List Int) (spots:List Nat):vs=[.ref a,.ref t]->SqL K H a (l.map V.int)->SqT K H t (spots.map λ(s:Nat)=>V.int (s:Int))->l.length=9->spots.length<=9->(∀ s∈spots,s<9)->(∀ H',Same H H'->Q (.bl (zdy spots l)) H')->Q18 K vs H Q E
include B Z in
theorem zhi (Q23:Fn P w K mg b8 "small_enough" ["number"] 2 (zb0 K))(F:Fun K "line_right" "line_right" zbN f fd)(m:mg "line_right"=some (.ref f)):Fn P w K mg b8 "line_right" ["line","nought_spots"] 3 (Q18 K):=by
 refine Fn.of (k:=2) F zex m (λ_ _ _ _ _ _ us hl=>(by obtain⟨_,_,rfl⟩:=len2 hl;rfl)) (λvs H Q E h=>?_) (λcdv A outer s H vs Q E hr h=>?_)
 ·first
  | (obtain⟨_,_,_,_,rfl,_⟩:=h;rfl)
 obtain⟨a,t,l,spots,rfl,hA,hT,l9,ls9,hs,q⟩:=h
 refine⟨_,(zae (zat (i:=2) zex.nd rfl (Or.inl rfl) (zaq (zfa K rfl) rfl B.all L2.zby (zbn (zaN rfl (COk.m (sc0:=zad zbN) (N:=["line","nought_spots","small"]) (N':=["line","nought_spots","small","number"]) (ms:=[false,false,false,true])) (zaK K (pv 0)) (λ_ _ _ _ _=>(zas (i:=3) (ndS (N:=["line","nought_spots","small","number"])) rfl (Or.inl rfl))) (λ_ _ _ _ _=>zav) (λ_ _ _ _ _=>(zak Q23 hr rfl (zab (pv 3) zaa)))) zaa)))
   (zah (zap (zbq (pv 2) (zbD (zaq (zfa K rfl) rfl B.all L2.zby (zbn (zaN rfl (COk.m (sc0:=zad zbN) (N:=["line","nought_spots","small"]) (N':=["line","nought_spots","small","spot"]) (ms:=[false,false,false,true])) (zhP K (pv 1)) (λ_ _ _ _ _=>(zas (i:=3) (ndS (N:=["line","nought_spots","small","spot"])) rfl (Or.inl rfl))) (λ_ _ _ _ _=>zav) (λ_ _ _ _ _=>(zba (k_eq K hr) (zaH (k_ix K) (pv 0) (pv 3) (λ_ _=>rfl)) zag (zaD _)))) zaa))))))),?_⟩
 unfold zdy at q
 ac_rfl
 refine⟨a,rfl,⟨_,hA⟩,?_⟩
 refine zaA (zay hA) ((l.map zdW).map D.bl) (by simp) (zaj (by simp;omega)) (λk x d H1 R hk hd s1 hx hR=>?_) (λv H1 s1 n1=>?_)
 ·rw[zgm] at hx
  obtain⟨y,hy,rfl⟩:=zme.mp hx
  rw[zgm,zgm,hy] at hd
  cases hd
  ac_rfl
  refine ziR ?_
  exact hR _ _ (Same.refl _) New.bl
 obtain⟨la,rfl,la0,la1⟩:=New.bls n1
 ac_rfl
 refine zeQ (SqL.of la1) ?_
 ac_rfl
 refine zdS (λe=>?_) (λe=>by have q1:=q _ s1;rw[e] at q1;exact q1)
 rw[e,Bool.true_and] at q
 ac_rfl
 refine⟨t,rfl,⟨_,s1.tup hT⟩,?_⟩
 refine zaA (zer (s1.tup hT)) ((spots.map λs=>decide (l.getD s 0=0)).map D.bl) (by simp) (zaj (by simp;omega)) (λk x d H2 R hk hd s2 hx hR=>?_) (λv H2 s2 n2=>?_)
 ·rw[zgm] at hx
  obtain⟨sp,hsp,rfl⟩:=zme.mp hx
  rw[zgm,zgm,hsp] at hd
  cases hd
  have sl:sp<l.length:=by have:=hs sp (zmg hsp);omega
  ac_rfl
  refine zgf ((s1.trans s2).seq hA) (v:=.int (l.getD sp 0)) (zaJ (by simp[sl])) ?_
  ac_rfl
  exact hR _ _ (Same.refl _) New.bl
 obtain⟨lb,rfl,lb0,lb1⟩:=New.bls n2
 ac_rfl
 refine zeQ (SqL.of lb1) ?_
 exact q _ (s1.trans s2)
inductive Q16 (K:Fg)(vs:List V)(H:Hp)(Q:VK)(E:XK):Prop
 | mk (a t:Addr) (ls:List (List Int)) (spots:List Nat):vs=[.ref a,.ref t]->Rep K H (zax ls) (.ref a)->SqT K H t (spots.map λ(s:Nat)=>V.int (s:Int))->ls.length<=1000->(∀ l∈ls,l.length=9)->spots.length<=9->(∀ s∈spots,s<9)->(∀ H',Same H H'->Q (.bl (zd7 spots ls)) H')->Q16 K vs H Q E
include B Z in
theorem zgn (Q19:Fn P w K mg b8 "line_right" ["line","nought_spots"] 3 (Q18 K))(F:Fun K "lines_right" "lines_right" zbS f fd)(m:mg "lines_right"=some (.ref f)):Fn P w K mg b8 "lines_right" ["lines","nought_spots"] 4 (Q16 K):=by
 refine Fn.of (k:=3) F zgj m (λ_ _ _ _ _ _ us hl=>(by obtain⟨_,_,rfl⟩:=len2 hl;rfl)) (λvs H Q E h=>?_) (λcdv A outer s H vs Q E hr h=>?_)
 ·first
  | (obtain⟨_,_,_,_,rfl,_⟩:=h;rfl)
 obtain⟨a,t,ls,spots,rfl,hA,hT,l1000,h9,ls9,hs,q⟩:=h
 refine⟨_,(zah (zap (zbq (zba zlu (zaq (zdm K) rfl B.len L2.boot_len (zab (pv 0) zaa)) (zaY rfl B.c_MOST_LINES) (zaD _)) (zbD (zaq (zfa K rfl) rfl B.all L2.zby (zbn (zaN rfl (COk.m (sc0:=zad zbS) (N:=["lines","nought_spots"]) (N':=["lines","nought_spots","line"]) (ms:=[false,false,true])) (zaK K (pv 0)) (λ_ _ _ _ _=>(zas (i:=2) (ndS (N:=["lines","nought_spots","line"])) rfl (Or.inl rfl))) (λ_ _ _ _ _=>zav) (λ_ _ _ _ _=>(zak Q19 hr rfl (zab (pv 2) (zab (pv 1) zaa))))) zaa)))))),?_⟩
 unfold zax Rep at hA
 obtain⟨a',xs,e,hA,hx⟩:=hA
 cases e
 have lx:=hx.length
 rw[zlm] at lx
 unfold zd7 at q
 ac_rfl
 refine zdR (.inl hA) ?_
 ac_rfl
 rw[<-lx]
 refine zdS (λe=>?_) (λe=>by have q1:=q _ (Same.refl _);rw[e] at q1;exact q1)
 rw[e,Bool.true_and] at q
 ac_rfl
 refine⟨a,rfl,⟨_,hA⟩,?_⟩
 refine zaA (zay hA) ((ls.map (zdy spots)).map D.bl) (by simp;omega) (zaj (by omega)) (λk x d H1 R hk hd s1 hx' hR=>?_) (λv H1 s1 n1=>?_)
 ·obtain⟨d2,hd2,hrx⟩:=Reps.get' hx hx'
  rw[zgm] at hd2
  obtain⟨l,hl,rfl⟩:=zme.mp hd2
  rw[zgm,zgm,hl] at hd
  cases hd
  obtain⟨xa,rfl,hxa⟩:=za5.mp (Rep.same s1 _ hrx)
  ac_rfl
  refine⟨xa,t,l,spots,rfl,hxa,s1.tup hT,h9 l (zmg hl),ls9,hs,λH2 s2=>?_⟩
  exact hR _ _ s2 New.bl
 obtain⟨la,rfl,la0,la1⟩:=New.bls n1
 ac_rfl
 refine zeQ (SqL.of la1) ?_
 exact q _ s1
inductive Q10 (K:Fg)(C:Nat->Addr)(vs:List V)(H:Hp)(Q:VK)(E:XK):Prop
 | mk (p:Addr) (needs leaves:List (List Int)) (ds:List D) (notes:List (List (List Int))):vs=[.ref p]->zbg K (C 0) H p needs leaves ds notes->needs.length<=1000->leaves.length<=1000->(∀ l∈needs,l.length=9)->(∀ l∈leaves,l.length=9)->(∀ H',Same H H'->Q (.bl (zjk needs leaves)) H')->Q10 K C vs H Q E
include B Z in
theorem zhj (Q17:Fn P w K mg b8 "lines_right" ["lines","nought_spots"] 4 (Q16 K))(F:Fun K "oath_right" "oath_right" zcH f fd)(m:mg "oath_right"=some (.ref f)):Fn P w K mg b8 "oath_right" ["craft"] 5 (Q10 K C):=by
 refine Fn.of (k:=4) F zew m (λ_ _ _ _ _ _ us hl=>(by obtain⟨_,rfl⟩:=len1 hl;rfl)) (λvs H Q E h=>?_) (λcdv A outer s H vs Q E hr h=>?_)
 ·first
  | (obtain⟨_,_,_,_,_,rfl,_⟩:=h;rfl)
 obtain⟨p,needs,leaves,ds,notes,rfl,hC,ln,ll,h9n,h9l,q⟩:=h
 obtain⟨gl,g_LEFT_SPOTS,hL⟩:=B.t_LEFT_SPOTS
 obtain⟨gh,g_HAND_SPOTS,hH⟩:=B.t_HAND_SPOTS
 have sp9:∀ s∈([1,2,3,4,7,8]:List Nat),s<9:=by decide
 have sp4:∀ s∈([1,2,3,4]:List Nat),s<9:=by decide
 refine⟨_,(zae (zat (i:=1) zew.nd rfl (Or.inl rfl) (zak Q17 hr rfl (zbo (zbk K (pv 0) rfl) (zbt (zaS (zaV K) (zcW rfl g_HAND_SPOTS) (zcW rfl g_LEFT_SPOTS)) zaa))))
   (zah (zap (zbq (pv 1) (zbD (zak Q17 hr rfl (zbo (zbk K (pv 0) rfl) (zab (zcW rfl g_HAND_SPOTS) zaa)))))))),?_⟩
 obtain⟨dx,w1,w2,w3,w4,hp,r1,r2,r3,r4⟩:=hC
 obtain⟨b1,rfl⟩:∃ b,w1=.ref b:=by unfold zax Rep at r1;obtain⟨a,_,e,_⟩:=r1;exact⟨a,e⟩
 obtain⟨b2,rfl⟩:∃ b,w2=.ref b:=by unfold zax Rep at r2;obtain⟨a,_,e,_⟩:=r2;exact⟨a,e⟩
 unfold zjk at q
 ac_rfl
 refine⟨p,(C 0),dx,_,_,rfl,hp,Z.c_Craft,Z.n_Craft_needs,zcS _ _ _ _,?_⟩
 ac_rfl
 refine zo7 (hH _) (hL _) (by simp) (by simp) ((by walk_at "sm")) λt t0=>?_
 have s0:=zaf t0 (.tup ([V.int 1,.int 2,.int 3,.int 4]++[V.int 7,.int 8]))
 ac_rfl
 refine⟨b1,t,needs,[1,2,3,4,7,8],rfl,Rep.same s0 _ r1,.inl (.inl zac),ln,h9n,by decide,sp9,λH1 s1=>?_⟩
 have s2:=s0.trans s1
 ac_rfl
 refine zdS (λe=>?_) (λe=>by have q1:=q _ s2;rw[e] at q1;exact q1)
 rw[e,Bool.true_and] at q
 ac_rfl
 refine⟨p,(C 0),dx,_,_,rfl,s2 _ _ hp,Z.c_Craft,Z.n_Craft_leaves,zcj _ _ _ _,?_⟩
 ac_rfl
 exact⟨b2,gh,leaves,[1,2,3,4],rfl,Rep.same s2 _ r2,hH _,ll,h9l,by decide,sp4,λH3 s3=>q _ (s2.trans s3)⟩
def zct (K:Fg):Sp:=λvs H Q _=>∃ n:Int,vs=[.int n]/\Q (.bl (zck n)) H
theorem zjp {H:Hp}{Q:VK}{E:XK}{n:Int}(q:Q (.bl (zck n)) H):zct K [.int n] H Q E:=⟨n,rfl,q⟩
include B Z in
theorem zhk (Q25:Fn P w K mg b8 "between" ["low","number","high"] 1 (Q24 K))(F:Fun K "hand_right" "hand_right" zcK f fd)(m:mg "hand_right"=some (.ref f)):Fn P w K mg b8 "hand_right" ["hand"] 2 (zct K):=by
 refine Fn.of (k:=1) F zhe m (λ_ _ _ _ _ _ us hl=>(by obtain⟨_,rfl⟩:=len1 hl;rfl)) (λvs H Q E h=>?_) (λcdv A outer s H vs Q E hr h=>?_)
 ·first
  | (obtain⟨_,rfl,_⟩:=h;rfl)
 obtain⟨n,rfl,q⟩:=h
 refine⟨_,(zah (zap (zak Q25 hr rfl (zao zag (zab (pv 0) (zab (zaY rfl B.c_LAST_HAND) zaa)))))),?_⟩
 ac_rfl
 refine zcF ?_
 exact q
inductive Q20 (K:Fg)(vs:List V)(H:Hp)(Q:VK)(E:XK):Prop
 | mk (a:Addr) (i j:Int):vs=[.ref a]->SqT K H a [.int i,.int j]->(∀ H',Same H H'->Q (.bl ([zck i,zck j].all id)) H')->Q20 K vs H Q E
include B Z in
theorem zeE (Q22:Fn P w K mg b8 "hand_right" ["hand"] 2 (zct K))(F:Fun K "two_hands_right" "two_hands_right" za8 f fd)(m:mg "two_hands_right"=some (.ref f)):Fn P w K mg b8 "two_hands_right" ["hands"] 3 (Q20 K):=by
 refine Fn.of (k:=2) F zeA m (λ_ _ _ _ _ _ us hl=>(by obtain⟨_,rfl⟩:=len1 hl;rfl)) (λvs H Q E h=>?_) (λcdv A outer s H vs Q E hr h=>?_)
 ·first
  | (obtain⟨_,_,_,rfl,_⟩:=h;rfl)
 obtain⟨a,i,j,rfl,hA,q⟩:=h
 refine⟨_,(zah (zap (zbq (zba (k_eq K hr) (zaq (zdm K) rfl B.len L2.boot_len (zab (pv 0) zaa)) zag (zaD _)) (zbD (zaq (zfa K rfl) rfl B.all L2.zby (zbn (zaN rfl (COk.m (sc0:=zad za8) (N:=["hands"]) (N':=["hands","hand"]) (ms:=[false,true])) (zhP K (pv 0)) (λ_ _ _ _ _=>(zas (i:=1) (ndS (N:=["hands","hand"])) rfl (Or.inl rfl))) (λ_ _ _ _ _=>zav) (λ_ _ _ _ _=>(zak Q22 hr rfl (zab (pv 1) zaa)))) zaa)))))),?_⟩
 ac_rfl
 refine zdR (.inr hA) ?_
 ac_rfl
 rw[show decide ((([V.int i,.int j].length:Nat):Int)=2)=true from rfl]
 ac_rfl
 refine⟨a,rfl,⟨_,hA⟩,?_⟩
 refine zaA (zer hA) ([zck i,zck j].map D.bl) rfl ((by walk_at "sm")) (λk x d H1 R hk hd s1 hx hR=>?_) (λv H1 s1 n1=>?_)
 ·have hx':([i,j].map V.int)[k]?=some x:=hx
  have hd':([i,j].map λz=>D.bl (zck z))[k]?=some d:=hd
  rw[zgm] at hx' hd'
  obtain⟨y,hy,rfl⟩:=zme.mp hx'
  rw[hy] at hd'
  cases hd'
  ac_rfl
  refine zjp ?_
  exact hR _ _ (Same.refl _) New.bl
 obtain⟨la,rfl,la0,la1⟩:=New.bls n1
 ac_rfl
 refine zeQ (SqL.of la1) ?_
 exact q _ s1
inductive Q1e (K:Fg)(vs:List V)(H:Hp)(Q:VK)(E:XK):Prop
 | mk (m:Int) (a b:Addr) (g0 g1 t0 t1:Int):vs=[.int m,.ref a,.ref b]->SqT K H a [.int g0,.int g1]->SqT K H b [.int t0,.int t1]->(∀ H',Same H H'->Q (.bl (([zck g0,zck g1].all id && [zck t0,zck t1].all id) && (btw 0 m 99 && !decide (t0=t1)))) H')->Q1e K vs H Q E
include B Z in
theorem zhl (Q21:Fn P w K mg b8 "two_hands_right" ["hands"] 3 (Q20 K))(Q25:Fn P w K mg b8 "between" ["low","number","high"] 1 (Q24 K))(F:Fun K "call_right" "call_right" zcJ f fd)(m:mg "call_right"=some (.ref f)):Fn P w K mg b8 "call_right" ["number","given","taken"] 4 (Q1e K):=by
 refine Fn.of (k:=3) F zez m (λ_ _ _ _ _ _ us hl=>(by obtain⟨_,_,_,rfl⟩:=len3 hl;rfl)) (λvs H Q E h=>?_) (λcdv A outer s H vs Q E hr h=>?_)
 ·first
  | (obtain⟨_,_,_,_,_,_,_,rfl,_⟩:=h;rfl)
 obtain⟨m,a,b,g0,g1,t0,t1,rfl,hA,hB,q⟩:=h
 refine⟨_,(zae (zat (i:=3) zez.nd rfl (Or.inl rfl) (zbq (zak Q21 hr rfl (zab (pv 1) zaa)) (zbD (zak Q21 hr rfl (zab (pv 2) zaa)))))
   (zah (zap (zbq (pv 3) (zbq (zak Q25 hr rfl (zao zag (zab (pv 0) (zab (zaY rfl B.c_LAST_NUMBER) zaa)))) (zbD (zba (k_ne K hr) (zaH (k_ix K) (pv 2) zag (λ_ _=>rfl)) (zaH (k_ix K) (pv 2) zag (λ_ _=>rfl)) (zaD _)))))))),?_⟩
 generalize eg:[zck g0,zck g1].all id=bg at q
 generalize et:[zck t0,zck t1].all id=bt at q
 ac_rfl
 refine⟨a,g0,g1,rfl,hA,λH1 s1=>?_⟩
 rw[eg]
 -- hands=.. and ..
 refine zc2 (λe=>?_) (λe=>?_)
 ·subst e
  ac_rfl
  refine⟨b,t0,t1,rfl,s1.tup hB,λH2 s2=>?_⟩
  rw[et]
  ac_rfl
  have s3:=s1.trans s2
  rw[Bool.true_and] at q
  refine zdS (λe=>?_) (λe=>by have q1:=q _ s3;rw[e] at q1;exact q1)
  rw[e,Bool.true_and] at q
  ac_rfl
  refine zcF ?_
  refine zc2 (λe=>?_) (λe=>by have q1:=q _ s3;unfold btw at q1;rw[e] at q1;exact q1)
  unfold btw at q
  rw[e,Bool.true_and] at q
  ac_rfl
  refine zaO (s3.tup hB) (v:=.int t0) rfl ?_
  ac_rfl
  refine zaO (s3.tup hB) (v:=.int t1) rfl ?_
  ac_rfl
  exact q _ s3
 ·subst e
  ac_rfl
  exact q _ s1
inductive Q1c (K:Fg)(vs:List V)(H:Hp)(Q:VK)(E:XK):Prop
 | mk (lo hi:Int):vs=[.int lo,.int hi]->Q (.bl (zdW lo && (zdW hi && decide (lo<=hi)))) H->Q1c K vs H Q E
include B Z in
theorem zgo (Q23:Fn P w K mg b8 "small_enough" ["number"] 2 (zb0 K))(F:Fun K "range_right" "range_right" zcm f fd)(m:mg "range_right"=some (.ref f)):Fn P w K mg b8 "range_right" ["low","high"] 3 (Q1c K):=by
 refine Fn.of (k:=2) F zgk m (λ_ _ _ _ _ _ us hl=>(by obtain⟨_,_,rfl⟩:=len2 hl;rfl)) (λvs H Q E h=>?_) (λcdv A outer s H vs Q E hr h=>?_)
 ·first
  | (obtain⟨_,_,rfl,_⟩:=h;rfl)
 obtain⟨lo,hi,rfl,q⟩:=h
 refine⟨_,(zah (zap (zbq (zak Q23 hr rfl (zab (pv 0) zaa)) (zbq (zak Q23 hr rfl (zab (pv 1) zaa)) (zbD (zba zlu (pv 0) (pv 1) (zaD _))))))),?_⟩
 ac_rfl
 refine ziR ?_
 refine zc2 (λe=>?_) (λe=>by rw[e] at q;exact q)
 rw[e,Bool.true_and] at q
 ac_rfl
 refine ziR ?_
 refine zc2 (λe=>?_) (λe=>by rw[e] at q;exact q)
 rw[e,Bool.true_and] at q
 ac_rfl
 exact q
inductive Q1a (K:Fg)(vs:List V)(H:Hp)(Q:VK)(E:XK):Prop
 | mk (v:V) (n:Int) (d:Dd):vs=[v,.int n]->Rep K H (toD d) v->zes d->(∀ H',Same H H'->Q (.bl (zcC n d)) H')->Q1a K vs H Q E
theorem zaI {K:Fg}{H:Hp}{d:D}{ds:List D}{xs:List V}(h:Reps K H (d::ds) xs):∃ v r,xs=v::r/\Rep K H d v/\Reps K H ds r:=by unfold Reps at h;exact h
theorem zdh {K:Fg}{H:Hp}{xs:List V}(h:Reps K H [] xs):xs=[]:=by unfold Reps at h;exact h
theorem zcY {K:Fg}{H:Hp}{i:Int}{v:V}(h:Rep K H (.int i) v):v=.int i:=by unfold Rep at h;exact h
theorem zeX {K:Fg}{H:Hp}{i:Str}{v:V}(h:Rep K H (.str i) v):v=.str i:=by unfold Rep at h;exact h
theorem zjq {K:Fg}{H:Hp}{i j:Int}{v:V}(h:Rep K H (.tup [.int i,.int j]) v):∃ a,v=.ref a/\SqT K H a [.int i,.int j]:=by
 obtain⟨a,xs,rfl,h1,h2⟩:=zd6 h
 obtain⟨v1,r1,rfl,e1,h2⟩:=zaI h2
 obtain⟨v2,r2,rfl,e2,h2⟩:=zaI h2
 cases zdh h2;cases zcY e1;cases zcY e2
 exact⟨a,rfl,h1⟩
theorem znN:decide (("part" : Str) ="set")=false:=by decide +kernel
theorem zlc:decide (("draw" : Str) ="set")=false/\decide (("draw" : Str) ="part")=false:=by decide +kernel
theorem ziS:decide (("turn" : Str) ="set")=false/\decide (("turn" : Str) ="part")=false/\decide (("turn" : Str) ="draw")=false:=by decide +kernel
theorem zhm:decide (("hold" : Str) ="set")=false/\decide (("hold" : Str) ="part")=false/\decide (("hold" : Str) ="draw")=false/\decide (("hold" : Str) ="turn")=false:=by decide +kernel
theorem zf5:decide (("call" : Str) ="set")=false/\decide (("call" : Str) ="part")=false/\decide (("call" : Str) ="draw")=false/\decide (("call" : Str) ="turn")=false/\decide (("call" : Str) ="hold")=false:=by decide +kernel
include B Z in
theorem zhn (Q1f:Fn P w K mg b8 "call_right" ["number","given","taken"] 4 (Q1e K))(Q19:Fn P w K mg b8 "line_right" ["line","nought_spots"] 3 (Q18 K))(Q22:Fn P w K mg b8 "hand_right" ["hand"] 2 (zct K))(Q25:Fn P w K mg b8 "between" ["low","number","high"] 1 (Q24 K))(Q1d:Fn P w K mg b8 "range_right" ["low","high"] 3 (Q1c K))(F:Fun K "deed_right" "deed_right" zcI f fd)(m:mg "deed_right"=some (.ref f)):Fn P w K mg b8 "deed_right" ["deed","last_place"] 5 (Q1a K):=by
 refine Fn.of (k:=4) F zey m (λ_ _ _ _ _ _ us hl=>(by obtain⟨_,_,rfl⟩:=len2 hl;rfl)) (λvs H Q E h=>?_) (λcdv A outer s H vs Q E hr h=>?_)
 ·first
  | (obtain⟨_,_,_,rfl,_⟩:=h;rfl)
 obtain⟨v,n,d,rfl,hR,h9,q⟩:=h
 obtain⟨gl,g_LEFT_SPOTS,hL⟩:=B.t_LEFT_SPOTS
 refine⟨_,(zae (zat (i:=2) zey.nd rfl (Or.inl rfl) (zaH (k_ix K) (pv 0) zag (λ_ _=>rfl)))
   (zae (zbj (zaM (k_eq K hr) (pv 2) zb3 (zaD _)) (zah (zap (zbq (zak Q22 hr rfl (za3 (zaH (k_ix K) (pv 0) zag (λ_ _=>rfl)) zaa)) (zbD (zak Q19 hr rfl (za3 (zaH (k_ix K) (pv 0) zag (λ_ _=>rfl)) (zab (zcW rfl g_LEFT_SPOTS) zaa))))))) zaB)
   (zae (zbj (zaM (k_eq K hr) (pv 2) zb3 (zaD _)) (zah (zap (zbq (zak Q22 hr rfl (za3 (zaH (k_ix K) (pv 0) zag (λ_ _=>rfl)) zaa)) (zbq (zak Q19 hr rfl (za3 (zaH (k_ix K) (pv 0) zag (λ_ _=>rfl)) (zab (zcW rfl g_LEFT_SPOTS) zaa))) (zbD (zak Q25 hr rfl (zao zag (za3 (zaH (k_ix K) (pv 0) zag (λ_ _=>rfl)) (zab (zaY rfl B.c_GREATEST_BY) zaa))))))))) zaB)
   (zae (zbj (zaM (k_eq K hr) (pv 2) zb3 (zaD _)) (zah (zap (zbq (zak Q22 hr rfl (za3 (zaH (k_ix K) (pv 0) zag (λ_ _=>rfl)) zaa)) (zbD (zak Q1d hr rfl (za3 (zaH (k_ix K) (pv 0) zag (λ_ _=>rfl)) (za3 (zaH (k_ix K) (pv 0) zag (λ_ _=>rfl)) zaa))))))) zaB)
   (zae (zbj (zaM (k_eq K hr) (pv 2) zb3 (zaD _)) (zah (zap (zbq (zak Q19 hr rfl (za3 (zaH (k_ix K) (pv 0) zag (λ_ _=>rfl)) (zab (zcW rfl g_LEFT_SPOTS) zaa))) (zbD (zak Q25 hr rfl (zao zag (za3 (zaH (k_ix K) (pv 0) zag (λ_ _=>rfl)) (zab (pv 1) zaa)))))))) zaB)
   (zae (zbj (zaM (k_eq K hr) (pv 2) zb3 (zaD _)) (zah (zap (zak Q19 hr rfl (za3 (zaH (k_ix K) (pv 0) zag (λ_ _=>rfl)) (zab (zcW rfl g_LEFT_SPOTS) zaa))))) zaB)
   (zah (zap (zak Q1f hr rfl (za3 (zaH (k_ix K) (pv 0) zag (λ_ _=>rfl)) (za3 (zaH (k_ix K) (pv 0) zag (λ_ _=>rfl)) (za3 (zaH (k_ix K) (pv 0) zag (λ_ _=>rfl)) zaa)))))))))))),?_⟩
 have sp9:∀ s∈([7,8]:List Nat),s<9:=by decide
 cases d with
 | set hd l=>
  obtain⟨a,xs,rfl,hA,hx⟩:=zd6 hR
  obtain⟨v1,r1,rfl,e1,hx⟩:=zaI hx
  obtain⟨v2,r2,rfl,e2,hx⟩:=zaI hx
  obtain⟨v3,r3,rfl,e3,hx⟩:=zaI hx
  cases zdh hx;cases zeX e1;cases zcY e2
  obtain⟨la,rfl,hla⟩:=za5.mp e3
  ac_rfl
  refine zaO hA (v:=.str "set") rfl ?_
  ac_rfl
  rw[decide_eq_true rfl]
  ac_rfl
  refine zaO hA (v:=.int hd) rfl ?_
  ac_rfl
  refine zjp ?_
  show ∃ c,V.bl (zck hd)=.bl c/\_
  simp only[zcC] at q
  refine zc2 (λe=>?_) (λe=>by have q1:=q _ (Same.refl _);rw[e] at q1;exact q1)
  rw[e,Bool.true_and] at q
  ac_rfl
  refine zaO hA (v:=.ref la) rfl ?_
  ac_rfl
  exact⟨la,gl,l,[7,8],rfl,hla,hL _,h9,by decide,sp9,λH1 s1=>q _ s1⟩
 | part hd l b=>
  obtain⟨a,xs,rfl,hA,hx⟩:=zd6 hR
  obtain⟨v1,r1,rfl,e1,hx⟩:=zaI hx
  obtain⟨v2,r2,rfl,e2,hx⟩:=zaI hx
  obtain⟨v3,r3,rfl,e3,hx⟩:=zaI hx
  obtain⟨v4,r4,rfl,e4,hx⟩:=zaI hx
  cases zdh hx;cases zeX e1;cases zcY e2;cases zcY e4
  obtain⟨la,rfl,hla⟩:=za5.mp e3
  ac_rfl
  refine zaO hA (v:=.str "part") rfl ?_
  ac_rfl
  rw[znN]
  ac_rfl
  rw[decide_eq_true rfl]
  ac_rfl
  refine zaO hA (v:=.int hd) rfl ?_
  ac_rfl
  refine zjp ?_
  show ∃ c,V.bl (zck hd)=.bl c/\_
  simp only[zcC] at q
  refine zc2 (λe=>?_) (λe=>by have q1:=q _ (Same.refl _);rw[e] at q1;exact q1)
  rw[e,Bool.true_and] at q
  ac_rfl
  refine zaO hA (v:=.ref la) rfl ?_
  ac_rfl
  refine⟨la,gl,l,[7,8],rfl,hla,hL _,h9,by decide,sp9,λH1 s1=>?_⟩
  refine zc2 (λe=>?_) (λe=>by have q1:=q _ s1;rw[e] at q1;exact q1)
  rw[e,Bool.true_and] at q
  ac_rfl
  refine zaO (s1.tup hA) (v:=.int b) rfl ?_
  ac_rfl
  refine zcF ?_
  exact q _ s1
 | draw hd lo hi=>
  obtain⟨a,xs,rfl,hA,hx⟩:=zd6 hR
  obtain⟨v1,r1,rfl,e1,hx⟩:=zaI hx
  obtain⟨v2,r2,rfl,e2,hx⟩:=zaI hx
  obtain⟨v3,r3,rfl,e3,hx⟩:=zaI hx
  obtain⟨v4,r4,rfl,e4,hx⟩:=zaI hx
  cases zdh hx;cases zeX e1;cases zcY e2;cases zcY e3;cases zcY e4
  ac_rfl
  refine zaO hA (v:=.str "draw") rfl ?_
  ac_rfl
  rw[zlc.1]
  ac_rfl
  rw[zlc.2]
  ac_rfl
  rw[decide_eq_true rfl]
  ac_rfl
  refine zaO hA (v:=.int hd) rfl ?_
  ac_rfl
  refine zjp ?_
  show ∃ c,V.bl (zck hd)=.bl c/\_
  simp only[zcC] at q
  refine zc2 (λe=>?_) (λe=>by have q1:=q _ (Same.refl _);rw[e] at q1;exact q1)
  rw[e,Bool.true_and] at q
  ac_rfl
  refine zaO hA (v:=.int lo) rfl ?_
  ac_rfl
  refine zaO hA (v:=.int hi) rfl ?_
  ac_rfl
  exact⟨lo,hi,rfl,q _ (Same.refl _)⟩
 | turn l p=>
  obtain⟨a,xs,rfl,hA,hx⟩:=zd6 hR
  obtain⟨v1,r1,rfl,e1,hx⟩:=zaI hx
  obtain⟨v2,r2,rfl,e2,hx⟩:=zaI hx
  obtain⟨v3,r3,rfl,e3,hx⟩:=zaI hx
  cases zdh hx;cases zeX e1;cases zcY e3
  obtain⟨la,rfl,hla⟩:=za5.mp e2
  ac_rfl
  refine zaO hA (v:=.str "turn") rfl ?_
  ac_rfl
  rw[ziS.1]
  ac_rfl
  rw[ziS.2.1]
  ac_rfl
  rw[ziS.2.2]
  ac_rfl
  rw[decide_eq_true rfl]
  ac_rfl
  refine zaO hA (v:=.ref la) rfl ?_
  ac_rfl
  simp only[zcC] at q
  refine⟨la,gl,l,[7,8],rfl,hla,hL _,h9,by decide,sp9,λH1 s1=>?_⟩
  refine zc2 (λe=>?_) (λe=>by have q1:=q _ s1;rw[e] at q1;exact q1)
  rw[e,Bool.true_and] at q
  ac_rfl
  refine zaO (s1.tup hA) (v:=.int p) rfl ?_
  ac_rfl
  refine zcF ?_
  exact q _ s1
 | hold l=>
  obtain⟨a,xs,rfl,hA,hx⟩:=zd6 hR
  obtain⟨v1,r1,rfl,e1,hx⟩:=zaI hx
  obtain⟨v2,r2,rfl,e2,hx⟩:=zaI hx
  cases zdh hx;cases zeX e1
  obtain⟨la,rfl,hla⟩:=za5.mp e2
  ac_rfl
  refine zaO hA (v:=.str "hold") rfl ?_
  ac_rfl
  rw[zhm.1]
  ac_rfl
  rw[zhm.2.1]
  ac_rfl
  rw[zhm.2.2.1]
  ac_rfl
  rw[zhm.2.2.2]
  ac_rfl
  rw[decide_eq_true rfl]
  ac_rfl
  refine zaO hA (v:=.ref la) rfl ?_
  ac_rfl
  exact⟨la,gl,l,[7,8],rfl,hla,hL _,h9,by decide,sp9,λH1 s1=>q _ s1⟩
 | call m g0 g1 t0 t1=>
  obtain⟨a,xs,rfl,hA,hx⟩:=zd6 hR
  obtain⟨v1,r1,rfl,e1,hx⟩:=zaI hx
  obtain⟨v2,r2,rfl,e2,hx⟩:=zaI hx
  obtain⟨v3,r3,rfl,e3,hx⟩:=zaI hx
  obtain⟨v4,r4,rfl,e4,hx⟩:=zaI hx
  cases zdh hx;cases zeX e1;cases zcY e2
  obtain⟨ga,rfl,hga⟩:=zjq e3
  obtain⟨ta,rfl,hta⟩:=zjq e4
  ac_rfl
  refine zaO hA (v:=.str "call") rfl ?_
  ac_rfl
  rw[zf5.1]
  ac_rfl
  rw[zf5.2.1]
  ac_rfl
  rw[zf5.2.2.1]
  ac_rfl
  rw[zf5.2.2.2.1]
  ac_rfl
  rw[zf5.2.2.2.2]
  ac_rfl
  refine zaO hA (v:=.int m) rfl ?_
  ac_rfl
  refine zaO hA (v:=.ref ga) rfl ?_
  ac_rfl
  refine zaO hA (v:=.ref ta) rfl ?_
  ac_rfl
  exact⟨m,ga,ta,g0,g1,t0,t1,rfl,hga,hta,λH1 s1=>q _ s1⟩
inductive Q12 (K:Fg)(vs:List V)(H:Hp)(Q:VK)(E:XK):Prop
 | mk (a:Addr) (ds:List Dd):vs=[.ref a]->Rep K H (.lst (ds.map toD)) (.ref a)->ds.length<=1000->(∀ d∈ds,zes d)->(∀ H',Same H H'->Q (.bl (zeR ds)) H')->Q12 K vs H Q E
include B Z in
theorem zgp (Q25:Fn P w K mg b8 "between" ["low","number","high"] 1 (Q24 K))(Q1b:Fn P w K mg b8 "deed_right" ["deed","last_place"] 5 (Q1a K))(F:Fun K "deeds_right" "deeds_right" zbQ f fd)(m:mg "deeds_right"=some (.ref f)):Fn P w K mg b8 "deeds_right" ["deeds"] 6 (Q12 K):=by
 refine Fn.of (k:=5) F zdY m (λ_ _ _ _ _ _ us hl=>(by obtain⟨_,rfl⟩:=len1 hl;rfl)) (λvs H Q E h=>?_) (λcdv A outer s H vs Q E hr h=>?_)
 ·first
  | (obtain⟨_,_,rfl,_⟩:=h;rfl)
 obtain⟨a,ds,rfl,hA,l1000,h9,q⟩:=h
 refine⟨_,(zae (zat (i:=1) zdY.nd rfl (Or.inr rfl) (zaq (zdm K) rfl B.len L2.boot_len (zab (pv 0) zaa)))
   (zah (zap (zbq (zak Q25 hr rfl (zao zag (zab (pv 1) (zab (zaY rfl B.c_MOST_DEEDS) zaa)))) (zbD (zaq (zfa K rfl) rfl B.all L2.zby (zbn (zaN rfl (COk.m (sc0:=zad zbQ) (N:=["deeds","count"]) (N':=["deeds","count","deed"]) (ms:=[false,false,true])) (zaK K (pv 0)) (λ_ _ _ _ _=>(zas (i:=2) (ndS (N:=["deeds","count","deed"])) rfl (Or.inl rfl))) (λ_ _ _ _ _=>zav) (λ_ _ _ _ _=>(zak Q1b hr rfl (zab (pv 2) (zab (pv 1) zaa))))) zaa))))))),?_⟩
 unfold Rep at hA
 obtain⟨a',xs,e,hA,hx⟩:=hA
 cases e
 have lx:=hx.length
 rw[zlm] at lx
 unfold zeR btw at q
 ac_rfl
 refine zdR (.inl hA) ?_
 rw[<-lx]
 ac_rfl
 refine zcF ?_
 refine zc2 (λe=>?_) (λe=>by have q1:=q _ (Same.refl _);rw[e] at q1;exact q1)
 rw[e,Bool.true_and] at q
 ac_rfl
 refine⟨a,rfl,⟨_,hA⟩,?_⟩
 refine zaA (zay hA) ((ds.map (zcC (ds.length:Int))).map D.bl) (by simp;omega) (zaj (by omega)) (λk x d H1 R hk hd s1 hx' hR=>?_) (λv H1 s1 n1=>?_)
 ·obtain⟨d2,hd2,hrx⟩:=Reps.get' hx hx'
  rw[zgm] at hd2
  obtain⟨l,hl,rfl⟩:=zme.mp hd2
  rw[zgm,zgm,hl] at hd
  cases hd
  ac_rfl
  refine⟨_,_,l,rfl,Rep.same s1 _ hrx,h9 l (zmg hl),λH2 s2=>?_⟩
  exact hR _ _ s2 New.bl
 obtain⟨la,rfl,la0,la1⟩:=New.bls n1
 ac_rfl
 refine zeQ (SqL.of la1) ?_
 exact q _ s1
inductive Q14 (K:Fg)(C:Nat->Addr)(vs:List V)(H:Hp)(Q:VK)(E:XK):Prop
 | mk (p:Addr) (needs leaves:List (List Int)) (ds:List Dd) (notes:List (List (List Int))):vs=[.ref p]->zbg K (C 0) H p needs leaves (ds.map toD) notes->notes.length<=1000->(∀ ls∈notes,ls.length<=1000/\∀ l∈ls,l.length=9)->(∀ H',Same H H'->Q (.bl (zeS ds notes)) H')->Q14 K C vs H Q E
include B Z in
theorem zgq (Q17:Fn P w K mg b8 "lines_right" ["lines","nought_spots"] 4 (Q16 K))(F:Fun K "notes_right" "notes_right" zbR f fd)(m:mg "notes_right"=some (.ref f)):Fn P w K mg b8 "notes_right" ["craft"] 5 (Q14 K C):=by
 refine Fn.of (k:=4) F zdZ m (λ_ _ _ _ _ _ us hl=>(by obtain⟨_,rfl⟩:=len1 hl;rfl)) (λvs H Q E h=>?_) (λcdv A outer s H vs Q E hr h=>?_)
 ·first
  | (obtain⟨_,_,_,_,_,rfl,_⟩:=h;rfl)
 obtain⟨p,needs,leaves,ds,notes,rfl,hC,l1000,h9,q⟩:=h
 obtain⟨gl,g_LEFT_SPOTS,hL⟩:=B.t_LEFT_SPOTS
 have sp9:∀ s∈([7,8]:List Nat),s<9:=by decide
 refine⟨_,(zae (zat (i:=1) zdZ.nd rfl (Or.inl rfl) (zba (k_eq K hr) (zaq (zdm K) rfl B.len L2.boot_len (zbo (zbk K (pv 0) rfl) zaa)) (zaq (zdm K) rfl B.len L2.boot_len (zbo (zbk K (pv 0) rfl) zaa)) (zaD _)))
   (zah (zap (zbq (pv 1) (zbD (zaq (zfa K rfl) rfl B.all L2.zby (zbn (zaN rfl (COk.m (sc0:=zad zbR) (N:=["craft","as_many"]) (N':=["craft","as_many","lines"]) (ms:=[false,false,true])) (zaK K (zbk K (pv 0) rfl)) (λ_ _ _ _ _=>(zas (i:=2) (ndS (N:=["craft","as_many","lines"])) rfl (Or.inl rfl))) (λ_ _ _ _ _=>zav) (λ_ _ _ _ _=>(zak Q17 hr rfl (zab (pv 2) (zab (zcW rfl g_LEFT_SPOTS) zaa))))) zaa))))))),?_⟩
 obtain⟨dx,w1,w2,w3,w4,hp,r1,r2,r3,r4⟩:=hC
 unfold Rep at r3 r4
 obtain⟨b3,xs3,rfl,q3,z3⟩:=r3
 obtain⟨b4,xs4,rfl,q4,z4⟩:=r4
 have m3:=z3.length
 have m4:=z4.length
 rw[zlm] at m3 m4
 unfold zeS at q
 ac_rfl
 refine⟨p,(C 0),dx,_,_,rfl,hp,Z.c_Craft,Z.n_Craft_notes,zdf _ _ _ _,?_⟩
 ac_rfl
 refine zdR (.inl q4) ?_
 ac_rfl
 refine⟨p,(C 0),dx,_,_,rfl,hp,Z.c_Craft,Z.n_Craft_deeds,zcd _ _ _ _,?_⟩
 ac_rfl
 refine zdR (.inl q3) ?_
 rw[<-m3,<-m4]
 ac_rfl
 refine zdS (λe=>?_) (λe=>by have q1:=q _ (Same.refl _);rw[e] at q1;exact q1)
 rw[e,Bool.true_and] at q
 ac_rfl
 refine⟨p,(C 0),dx,_,_,rfl,hp,Z.c_Craft,Z.n_Craft_notes,zdf _ _ _ _,?_⟩
 refine⟨b4,rfl,⟨_,q4⟩,?_⟩
 refine zaA (zay q4) ((notes.map (zd7 [7,8])).map D.bl) (by simp;omega) (zaj (by omega)) (λk x d H1 R hk hd s1 hx' hR=>?_) (λv H1 s1 n1=>?_)
 ·obtain⟨d2,hd2,hrx⟩:=Reps.get' z4 hx'
  rw[zgm] at hd2
  obtain⟨l,hl,rfl⟩:=zme.mp hd2
  rw[zgm,zgm,hl] at hd
  cases hd
  have hr':=Rep.same s1 _ hrx
  obtain⟨xa,rfl⟩:∃ b,x=.ref b:=by unfold zax Rep at hrx;obtain⟨a,_,e,_⟩:=hrx;exact⟨a,e⟩
  have h9':=h9 l (zmg hl)
  ac_rfl
  refine⟨xa,gl,l,[7,8],rfl,hr',hL _,h9'.1,h9'.2,by decide,sp9,λH2 s2=>?_⟩
  exact hR _ _ s2 New.bl
 obtain⟨la,rfl,la0,la1⟩:=New.bls n1
 ac_rfl
 refine zeQ (SqL.of la1) ?_
 exact q _ s1
inductive Qf (K:Fg)(C:Nat->Addr)(vs:List V)(H:Hp)(Q:VK)(E:XK):Prop
 | mk (p:Addr) (needs leaves:List (List Int)) (ds:List Dd) (notes:List (List (List Int))):vs=[.ref p]->zbg K (C 0) H p needs leaves (ds.map toD) notes->needs.length<=1000->leaves.length<=1000->ds.length<=1000->notes.length<=1000->(∀ l∈needs,l.length=9)->(∀ l∈leaves,l.length=9)->(∀ d∈ds,zes d)->(∀ ls∈notes,ls.length<=1000/\∀ l∈ls,l.length=9)->(∀ H',Same H H'->Q (.bl (ze5 needs leaves ds notes)) H')->Qf K C vs H Q E
include B Z in
theorem zmd (Q11:Fn P w K mg b8 "oath_right" ["craft"] 5 (Q10 K C))(Q13:Fn P w K mg b8 "deeds_right" ["deeds"] 6 (Q12 K))(Q15:Fn P w K mg b8 "notes_right" ["craft"] 5 (Q14 K C))(F:Fun K "right" "right" zgS f fd)(m:mg "right"=some (.ref f)):Fn P w K mg b8 "right" ["craft"] 7 (Qf K C):=by
 refine Fn.of (k:=6) F zl5 m (λ_ _ _ _ _ _ us hl=>(by obtain⟨_,rfl⟩:=len1 hl;rfl)) (λvs H Q E h=>?_) (λcdv A outer s H vs Q E hr h=>?_)
 ·first
  | (obtain⟨_,_,_,_,_,rfl,_⟩:=h;rfl)
 obtain⟨p,needs,leaves,ds,notes,rfl,hC,ln,ll,ld,lo,h9n,h9l,h9d,h9o,q⟩:=h
 refine⟨_,(zah (zap (zbq (zak Q11 hr rfl (zab (pv 0) zaa)) (zbq (zak Q13 hr rfl (zbo (zbk K (pv 0) rfl) zaa)) (zbD (zak Q15 hr rfl (zab (pv 0) zaa))))))),?_⟩
 unfold ze5 at q
 ac_rfl
 refine⟨p,needs,leaves,_,notes,rfl,hC,ln,ll,h9n,h9l,λH1 s1=>?_⟩
 refine zc2 (λe=>?_) (λe=>by have q1:=q _ s1;rw[e] at q1;exact q1)
 rw[e,Bool.true_and] at q
 ac_rfl
 obtain⟨dx,w1,w2,w3,w4,hp,r1,r2,r3,r4⟩:=zbg.same s1 hC
 obtain⟨b3,rfl⟩:∃ b,w3=.ref b:=by unfold Rep at r3;obtain⟨a,_,e,_⟩:=r3;exact⟨a,e⟩
 refine⟨p,(C 0),dx,_,_,rfl,hp,Z.c_Craft,Z.n_Craft_deeds,zcd _ _ _ _,?_⟩
 ac_rfl
 refine⟨b3,ds,rfl,r3,ld,h9d,λH2 s2=>?_⟩
 have s3:=s1.trans s2
 refine zc2 (λe=>?_) (λe=>by have q1:=q _ s3;rw[e] at q1;exact q1)
 rw[e,Bool.true_and] at q
 ac_rfl
 exact⟨p,needs,leaves,ds,notes,rfl,zbg.same s3 hC,lo,h9o,λH4 s4=>q _ (s3.trans s4)⟩
inductive Q26 (K:Fg)(C:Nat->Addr)(vs:List V)(H:Hp)(Q:VK)(E:XK):Prop
 | mk (p:Addr) (place:Int) (needs leaves:List (List Int)) (deeds:List D) (notes:List (List (List Int))):vs=[.ref p,.int place]->zbg K (C 0) H p needs leaves deeds notes->0<=place->place<=(deeds.length:Int)->deeds.length=notes.length->deeds.length<=1000->leaves.length<=1000->(∀ l∈leaves,l.length=9)->(∀ ls∈notes,ls.length<=1000)->(∀ v H',Same H H'->New H H' (zax (dueL leaves notes place)) v->Q v H')->Q26 K C vs H Q E
include B Z in
theorem zld (Q25:Fn P w K mg b8 "between" ["low","number","high"] 1 (Q24 K))(Q8:Fn P w K mg b8 "copied_lines" ["lines"] 1 (Q7 K))(Q0:Fn P w K mg b8 "bare" ["i"] 1 (zdD K))(Q5:Fn P w K mg b8 "turned" ["line","eight"] 2 (Q4 K))(F:Fun K "due_at" "due_at" zdE f fd)(m:mg "due_at"=some (.ref f)):Fn P w K mg b8 "due_at" ["craft","place"] 3 (Q26 K C):=by
 refine Fn.of (k:=2) F zh7 m (λ_ _ _ _ _ _ us hl=>(by obtain⟨_,_,rfl⟩:=len2 hl;rfl)) (λvs H Q E h=>?_) (λcdv A outer s H vs Q E hr h=>?_)
 ·first
  | (obtain⟨_,_,_,_,_,_,rfl,_⟩:=h;rfl)
 obtain⟨p,place,needs,leaves,deeds,notes,rfl,hC,h0,hn,hdn,h1000,hl1000,h9,hns,q⟩:=h
 obtain⟨ga,g_LEFT_AS_HANDS,hT⟩:=B.t_LEFT_AS_HANDS
 refine⟨_,(zae (zbj (zaM (k_eq K hr) (pv 1) (zaq (zdm K) rfl B.len L2.boot_len (zbo (zbk K (pv 0) rfl) zaa)) (zaD _)) (zae (zat (i:=2) zh7.nd rfl (Or.inr rfl) (zaN rfl (COk.m (sc0:=zad zdE) (N:=["craft","place","eight"]) (N':=["craft","place","eight","i"]) (ms:=[false,false,false,true])) (zhP K (zcW rfl g_LEFT_AS_HANDS)) (λ_ _ _ _ _=>(zas (i:=3) (ndS (N:=["craft","place","eight","i"])) rfl (Or.inl rfl))) (λ_ _ _ _ _=>zav) (λ_ _ _ _ _=>(zak Q0 hr rfl (zab (pv 3) zaa)))))
   (zah (zap (zaN rfl (COk.m (sc0:=zad zdE) (N:=["craft","place","eight"]) (N':=["craft","place","eight","line"]) (ms:=[false,false,false,true])) (zaK K (zbk K (pv 0) rfl)) (λ_ _ _ _ _=>(zas (i:=3) (ndS (N:=["craft","place","eight","line"])) rfl (Or.inl rfl))) (λ_ _ _ _ _=>zav) (λ_ _ _ _ _=>(zak Q5 hr rfl (zab (pv 3) (zab (pv 2) zaa)))))))) zaB)
   (zae (zbj (zcZ (zak Q25 hr rfl (zao zag (zab (pv 1) (zbt (zaS zmo (zaq (c_min rfl) rfl B.min L2.zlP (zaF (zaq (zdm K) rfl B.len L2.boot_len (zbo (zbk K (pv 0) rfl) zaa)) (zaF (zaq (zdm K) rfl B.len L2.boot_len (zbo (zbk K (pv 0) rfl) zaa)) zaa))) zag) zaa))))) (zah (zap (zak Q8 hr rfl (za3 (zaH (k_ix K) (zbk K (pv 0) rfl) (pv 1) (λ_ _=>rfl)) zaa)))) zaB)
   (zah (zap (zaL zaa))))),?_⟩
 obtain⟨dx,w1,w2,w3,w4,hp,r1,r2,r3,r4⟩:=hC
 unfold zax Rep at r2
 unfold Rep at r3 r4
 obtain⟨b2,xs2,rfl,q2,z2⟩:=r2
 obtain⟨b3,xs3,rfl,q3,z3⟩:=r3
 obtain⟨b4,xs4,rfl,q4,z4⟩:=r4
 have m2:=z2.length
 have m3:=z3.length
 have m4:=z4.length
 rw[zlm] at m2 m4
 ac_rfl
 refine⟨p,(C 0),dx,_,_,rfl,hp,Z.c_Craft,Z.n_Craft_deeds,zcd _ _ _ _,?_⟩
 ac_rfl
 refine zdR (.inl q3) ?_
 ac_rfl
 unfold dueL at q
 refine ite2 (λe=>?_) (λe=>?_)
 ·have e':place=(xs3.length:Int):=of_decide_eq_true e
  rw[if_pos (by omega)] at q
  ac_rfl
  refine⟨ga,rfl,⟨_,hT _⟩,?_⟩
  refine zaA (n:=8) (zer (xs:=zjj.map V.int) (hT H)) (zc4.map nums) (by simp[zc4,zjj]) (by decide) (λj x d H1 R hj hd s1 hx hR=>?_) (λv H1 s1 n1=>?_)
  ·unfold zc4 at hd
   rw[zgm] at hx
   obtain⟨i,hi,rfl⟩:=zme.mp hx
   rw[zgm,zgm,hi] at hd
   cases hd
   ac_rfl
   refine zcT λv H2 s2 n2=>?_
   exact hR _ _ s2 n2
  have hE:Rep K H1 (.lst (zc4.map nums)) v:=New.rep n1
  obtain⟨ea,evs,rfl,ea0,ea1,ew⟩:=New.news n1
  ac_rfl
  refine⟨p,(C 0),dx,_,_,rfl,s1 _ _ hp,Z.c_Craft,Z.n_Craft_leaves,zcj _ _ _ _,?_⟩
  refine⟨b2,rfl,⟨_,s1.seq q2⟩,?_⟩
  refine zaA (zay (s1.seq q2)) ((leaves.map λl=>zaQ l zc4).map nums) (by rw[zlm,zlm];omega) (zaj (by omega)) (λj x d H2 R hj hd s2 hx hR=>?_) (λv H2 s2 n2=>?_)
  ·obtain⟨d2,hd2,hrx⟩:=Reps.get' z2 hx
   rw[zgm] at hd2
   obtain⟨l,hl,rfl⟩:=zme.mp hd2
   rw[zgm,zgm,hl] at hd
   cases hd
   obtain⟨xa,rfl,hxa⟩:=za5.mp (Rep.same (s1.trans s2) _ hrx)
   have l9:=h9 l (zmg hl)
   cases l with
   | nil=>simp at l9
   | cons c fs=>
    ac_rfl
    refine⟨xa,ea,c,fs,zc4,rfl,hxa,Rep.same s2 _ hE,by simpa using l9,by simp[zc4,zjj],zjS,λi l w el _ n hn=>?_,λv' H3 s3 n3=>?_⟩
    ·rcases zjT l (zmg el) n hn with z | z <;> subst z <;> exact .inl ⟨by decide,by decide⟩
    ·exact hR _ _ s3 n3
  exact q _ _ (s1.trans s2) (n2.back s1)
 ·have e':¬ place=(xs3.length:Int):=of_decide_eq_false (Bool.eq_false_iff.mpr e)
  rw[if_neg (by omega)] at q
  ac_rfl
  refine⟨p,(C 0),dx,_,_,rfl,hp,Z.c_Craft,Z.n_Craft_deeds,zcd _ _ _ _,?_⟩
  ac_rfl
  refine zdR (.inl q3) ?_
  ac_rfl
  refine⟨p,(C 0),dx,_,_,rfl,hp,Z.c_Craft,Z.n_Craft_notes,zdf _ _ _ _,?_⟩
  ac_rfl
  refine zdR (.inl q4) ?_
  ac_rfl
  refine i_min ?_
  ac_rfl
  refine zcF ?_
  rw[show (if ((xs4.length:Nat):Int)<((xs3.length:Nat):Int) then ((xs4.length:Nat):Int) else ((xs3.length:Nat):Int))=(xs3.length:Int) by rw[if_neg (by omega)],decide_eq_true h0,decide_eq_true (show place<=(xs3.length:Int) - 1 by omega)]
  show ∃ c,V.bl true=.bl c/\_
  ac_rfl
  refine⟨p,(C 0),dx,_,_,rfl,hp,Z.c_Craft,Z.n_Craft_notes,zdf _ _ _ _,?_⟩
  ac_rfl
  have pl:place.toNat<notes.length:=by omega
  obtain⟨x,hx,hr4⟩:=z4.get (i:=place.toNat) (d:=zax notes[place.toNat]) (by simp[pl])
  have ei:atI xs4 place=some x:=by
   have:=zaJ hx
   rwa [show ((place.toNat:Nat):Int)=place by omega] at this
  obtain⟨b,rfl⟩:∃ b,x=.ref b:=by unfold zax Rep at hr4;obtain⟨a,_,e,_⟩:=hr4;exact⟨a,e⟩
  refine zgf q4 ei ?_
  ac_rfl
  refine⟨b,_,rfl,hr4,hns _ (List.getElem_mem pl),λv H1 s1 n1=>?_⟩
  refine q _ _ s1 ?_
  rw[show notes.getD place.toNat []=notes[place.toNat] by simp[List.getD,pl]]
  exact n1
inductive Q39 (K:Fg)(vs:List V)(H:Hp)(Q:VK)(E:XK):Prop
 | mk (d:Addr) (kvs:List (Key × V)) (ch:Nat->Option (List Int)):vs=[.ref d]->H d=some (.dK kvs)->(∀ i:Nat,i<8->(ch i=none/\valV kvs (.inl (0+(i:Int)))=none)\/∃ a l,ch i=some l/\valV kvs (.inl (0+(i:Int)))=some (.ref a)/\l.length=9/\H a=some (.lst (l.map V.int)))->(∀ a H',Same H H'->H a=none->Ls H' a (zaG ch)->Q (.ref a) H')->Q39 K vs H Q E
theorem zif (i:Int):(zaz i).length=9:=by simp[zaz]
theorem zbi (ch:Nat->Option (List Int)):(zaG ch).length=8:=by simp[zaG]
theorem zj2 {i n:Int}(h:n∈zaz i):n=0\/n=1:=by
 unfold zaz at h
 rcases List.mem_cons.mp h with h | h
 ·exact .inl h
 ·obtain⟨k,_,rfl⟩:=zmm.mp h
  split
  ·exact .inr rfl
  ·exact .inl rfl
theorem zb1 (i:Int):Sm (zaz i):=λn hn=>by rcases zj2 hn with z | z <;> subst z <;> exact⟨by decide,by decide⟩
theorem zdi {eight:List (List Int)}{ws:List Int}(h:∀ l∈eight,Sm l):zl3 eight ws:=λi l w e _ n hn=>.inl (h l (zmg e) n hn)
theorem za7 {ch:Nat->Option (List Int)}{P:List Int->Prop}(hb:∀ i:Int,P (zaz i))(hc:∀ i l,ch i=some l->P l):∀ l∈zaG ch,P l:=λl hl=>by
 obtain⟨i,_,rfl⟩:=zmm.mp hl
 cases e:ch i with
 | none=>exact hb _
 | some l=>exact hc i l e
theorem zeY {k:Int}{l:List Int}{P:List Int->Prop}(h:P l):∀ i m,ch1 k l i=some m->P m:=λi m e=>by
 unfold ch1 at e
 split at e
 ·cases e;exact h
 ·cases e
theorem zle {H:Hp}{k:Int}{l:List Int}{a:Addr}(h9:l.length=9)(ha:H a=some (.lst (l.map V.int))):∀ i:Nat,i<8->(ch1 k l i=none/\valV (zbB [] [(Sum.inl k,V.ref a)]) (.inl (0+(i:Int)))=none)\/∃ b m,ch1 k l i=some m/\valV (zbB [] [(Sum.inl k,V.ref a)]) (.inl (0+(i:Int)))=some (.ref b)/\m.length=9/\H b=some (.lst (m.map V.int)):=λi _=>by
 have e:valV (zbB [] [((Sum.inl k:Key),V.ref a)]) (.inl (0+(i:Int)))=if (Sum.inl (0+(i:Int)):Key)=Sum.inl k then some (.ref a) else none:=by
  show valV (putK [] _ _) _=_
  rw[zdJ];rfl
 by_cases z:k=0+(i:Int)
 ·refine .inr ⟨a,l,by unfold ch1;rw[if_pos z],?_,h9,ha⟩
  rw[e,if_pos (by rw[z])]
 ·refine .inl ⟨by unfold ch1;rw[if_neg z],?_⟩
  rw[e,if_neg (by intro w;injection w with w;exact z w.symm)]
theorem zho {k0 k1:Int}{l0 l1:List Int}{P:List Int->Prop}(h0:P l0)(h1:P l1):∀ i m,ch2 k0 l0 k1 l1 i=some m->P m:=λi m e=>by
 unfold ch2 at e
 split at e
 ·cases e;exact h1
 split at e
 ·cases e;exact h0
 ·cases e
theorem zmN {H:Hp}{k0 k1:Int}{l0 l1:List Int}{a0 a1:Addr}(h90:l0.length=9)(h91:l1.length=9)(ha0:H a0=some (.lst (l0.map V.int)))(ha1:H a1=some (.lst (l1.map V.int))):∀ i:Nat,i<8->(ch2 k0 l0 k1 l1 i=none/\valV (zbB [] [(Sum.inl k0,V.ref a0),(Sum.inl k1,V.ref a1)]) (.inl (0+(i:Int)))=none)\/∃ b m,ch2 k0 l0 k1 l1 i=some m/\valV (zbB [] [(Sum.inl k0,V.ref a0),(Sum.inl k1,V.ref a1)]) (.inl (0+(i:Int)))=some (.ref b)/\m.length=9/\H b=some (.lst (m.map V.int)):=λi _=>by
 have e:valV (zbB [] [((Sum.inl k0:Key),V.ref a0),(Sum.inl k1,V.ref a1)]) (.inl (0+(i:Int)))=if (Sum.inl (0+(i:Int)):Key)=Sum.inl k1 then some (.ref a1) else if (Sum.inl (0+(i:Int)):Key)=Sum.inl k0 then some (.ref a0) else none:=by
  show valV (putK (putK [] _ _) _ _) _=_
  rw[zdJ,zdJ];rfl
 by_cases z1:k1=0+(i:Int)
 ·refine .inr ⟨a1,l1,by unfold ch2;rw[if_pos z1],?_,h91,ha1⟩
  rw[e,if_pos (by rw[z1])]
 ·have n1:¬ (Sum.inl (0+(i:Int)):Key)=Sum.inl k1:=by intro w;injection w with w;exact z1 w.symm
  by_cases z0:k0=0+(i:Int)
  ·refine .inr ⟨a0,l0,by unfold ch2;rw[if_neg z1,if_pos z0],?_,h90,ha0⟩
   rw[e,if_neg n1,if_pos (by rw[z0])]
  ·refine .inl ⟨by unfold ch2;rw[if_neg z1,if_neg z0],?_⟩
   rw[e,if_neg n1,if_neg (by intro w;injection w with w;exact z0 w.symm)]
include B Z in
theorem zhp (Q0:Fn P w K mg b8 "bare" ["i"] 1 (zdD K))(F:Fun K "eight_with" "eight_with" zcf f fd)(m:mg "eight_with"=some (.ref f)):Fn P w K mg b8 "eight_with" ["changes"] 2 (Q39 K):=by
 refine Fn.of (k:=1) F zhg m (λ_ _ _ _ _ _ us hl=>(by obtain⟨_,rfl⟩:=len1 hl;rfl)) (λvs H Q E h=>?_) (λcdv A outer s H vs Q E hr h=>?_)
 ·first
  | (obtain⟨_,_,_,rfl,_⟩:=h;rfl)
 obtain⟨d,kvs,ch,rfl,hd,hch,q⟩:=h
 refine⟨_,(zah (zap (zaN rfl (COk.m (sc0:=zad zcf) (N:=["changes"]) (N':=["changes","i"]) (ms:=[false,true])) (zcx rfl B.range (zab (zaY rfl B.c_FACTORS) zaa)) (λ_ _ _ _ _=>(zas (i:=1) (ndS (N:=["changes","i"])) rfl (Or.inl rfl))) (λ_ _ _ _ _=>zav) (λ_ _ _ _ _=>(zi8 (hr_u hr) (pv 0) (pv 1) (zak Q0 hr rfl (zab (pv 1) zaa)) ⟨rfl,rfl,rfl,rfl⟩))))),?_⟩
 have h9:∀ l∈zaG ch,l.length=9:=λl hl=>by
  obtain⟨i,hi,rfl⟩:=zmm.mp hl
  rcases hch i (List.mem_range.mp hi) with ⟨e,_⟩ | ⟨a,l,e,_,hl9,_⟩
  ·rw[e];exact zif _
  ·rw[e];exact hl9
 ac_rfl
 refine zd5 (by decide) (by decide) ?_
 refine znA (n:=8) zeP (zaG ch) (zbi ch) (by decide) h9 (λi x l H1 R hi hl s1 hx hR=>?_) (λa H1 s1 ha hL=>?_)
 ·subst hx
  have el:l=(ch i).getD (zaz (0+(i:Int))):=by
   unfold zaG at hl
   rw[zgm,List.getElem?_range hi] at hl
   cases hl;rfl
  ac_rfl
  refine⟨d,rfl,.inl ⟨kvs,.inl (s1 _ _ hd)⟩,?_⟩
  ac_rfl
  refine zcT λv H2 s2 n2=>?_
  obtain⟨b,rfl,b0,b1⟩:=New.iif.mp n2
  have hg:DGet H2 d (.int (0+(i:Int))) (valV kvs (.inl (0+(i:Int)))):=DGet.k (k:=.inl (0+(i:Int))) (s2 _ _ (s1 _ _ hd))
  refine⟨_,hg,?_⟩
  rcases hch i hi with ⟨e,ev⟩ | ⟨a,l',e,ev,_,ha⟩
  ·rw[ev]
   exact hR b _ s2 (by rw[el,e];exact b1)
  ·rw[ev]
   exact hR a _ s2 (by rw[el,e];exact s2 _ _ (s1 _ _ ha))
 ·ac_rfl
  exact q a H1 s1 ha hL
inductive Q35 (K:Fg)(vs:List V)(H:Hp)(Q:VK)(E:XK):Prop
 | mk (a b:Addr) (goals hyps:List (List Int)):vs=[.ref a,.ref b]->Rep K H (zax goals) (.ref a)->Rep K H (zax hyps) (.ref b)->goals.length<=1000->hyps.length<=1000->(∀ v H',Same H H'->New H H' (.lst (goals.map λg=>zdn g hyps)) v->Q v H')->Q35 K vs H Q E
include B Z in
theorem zig (Q8:Fn P w K mg b8 "copied_lines" ["lines"] 1 (Q7 K))(F:Fun K "each_from" "each_from" zcw f fd)(m:mg "each_from"=some (.ref f)):Fn P w K mg b8 "each_from" ["goals","hypotheses"] 2 (Q35 K):=by
 refine Fn.of (k:=1) F zh8 m (λ_ _ _ _ _ _ us hl=>(by obtain⟨_,_,rfl⟩:=len2 hl;rfl)) (λvs H Q E h=>?_) (λcdv A outer s H vs Q E hr h=>?_)
 ·first
  | (obtain⟨_,_,_,_,rfl,_⟩:=h;rfl)
 obtain⟨a,b,goals,hyps,rfl,hA,hB,hg,hh,q⟩:=h
 refine⟨_,(zah (zap (zaN rfl (COk.m (sc0:=zad zcw) (N:=["goals","hypotheses"]) (N':=["goals","hypotheses","goal"]) (ms:=[false,false,true])) (zaK K (pv 0)) (λ_ _ _ _ _=>(zas (i:=2) (ndS (N:=["goals","hypotheses","goal"])) rfl (Or.inl rfl))) (λ_ _ _ _ _=>zav) (λ_ _ _ _ _=>(zdT (zaF (zdr (zkO K) rfl B.list L2.zc1 (zab (pv 2) zaa)) (zaF (zak Q8 hr rfl (zab (pv 1) zaa)) zaa))))))),?_⟩
 unfold zax Rep at hA
 obtain⟨_,xs,e,hA,hx⟩:=hA
 cases e
 have lx:=hx.length
 rw[zlm] at lx
 ac_rfl
 refine⟨a,rfl,⟨_,hA⟩,?_⟩
 refine zaA (zay hA) (goals.map λg=>zdn g hyps) (by simp[lx]) (zaj (by omega)) (λi x d H1 R hi hd s1 hx' hR=>?_) (λv H1 s1 n1=>?_)
 ·obtain⟨d2,hd2,hrx⟩:=hx.get' hx'
  rw[zgm] at hd2
  obtain⟨l,hl',rfl⟩:=zme.mp hd2
  rw[zgm,hl'] at hd
  cases hd
  obtain⟨xa,rfl,hxa⟩:=za5.mp (Rep.same s1 _ hrx)
  ac_rfl
  refine zg2 (.inl hxa) λp hp=>?_
  have t1:=zaf hp (.lst (l.map V.int))
  ac_rfl
  refine⟨b,hyps,rfl,Rep.same (s1.trans t1) _ hB,hh,λv H2 s2 n2=>?_⟩
  ac_rfl
  refine⟨(by walk_at "sm"),λT hT=>?_⟩
  have t3:=zaf hT (.tup [.ref p,v])
  obtain⟨fp,f1,f2,f3⟩:=n2
  have pn:p∉fp:=λm=>by have:=f3 p m;rw[zac] at this;cases this
  refine hR _ _ (t1.trans (s2.trans t3)) (New.tup (fp:=p::fp) (zai.cany (f:=[p]) (fp:=fp) (RepF.line (t3 _ _ (s2 _ _ zac))) ?_) (List.nodup_cons.mpr ⟨pn,f2⟩) (λc hc=>?_) zac)
  ·have:=zai.cany (RepF.sq t3.sq _ f1) (zai.nil (H:=upd H2 T (.tup [.ref p,v])))
   rw[List.append_nil] at this
   exact this
  ·rcases List.mem_cons.mp hc with z | z
   ·rw[z];exact hp
   ·exact t1.free (f3 c z)
 ·ac_rfl
  exact q _ _ s1 n1
inductive Q37 (K:Fg)(vs:List V)(H:Hp)(Q:VK)(E:XK):Prop
 | mk (a b:Addr) (ls eight:List (List Int)):vs=[.ref a,.ref b]->Rep K H (zax ls) (.ref a)->Rep K H (.lst (eight.map nums)) (.ref b)->ls.length<=1000->(∀ l∈ls,l.length=9/\zl3 eight l.tail)->eight.length=8->(∀ l∈eight,l.length=9)->(∀ v H',Same H H'->New H H' (zax (ls.map λl=>zaQ l eight)) v->Q v H')->Q37 K vs H Q E
include B Z in
theorem zhq (Q5:Fn P w K mg b8 "turned" ["line","eight"] 2 (Q4 K))(F:Fun K "all_turned" "all_turned" zce f fd)(m:mg "all_turned"=some (.ref f)):Fn P w K mg b8 "all_turned" ["lines","eight"] 3 (Q37 K):=by
 refine Fn.of (k:=2) F zhf m (λ_ _ _ _ _ _ us hl=>(by obtain⟨_,_,rfl⟩:=len2 hl;rfl)) (λvs H Q E h=>?_) (λcdv A outer s H vs Q E hr h=>?_)
 ·first
  | (obtain⟨_,_,_,_,rfl,_⟩:=h;rfl)
 obtain⟨a,b,ls,eight,rfl,hA,hB,hl,hk,l8,e9,q⟩:=h
 refine⟨_,(zah (zap (zaN rfl (COk.m (sc0:=zad zce) (N:=["lines","eight"]) (N':=["lines","eight","line"]) (ms:=[false,false,true])) (zaK K (pv 0)) (λ_ _ _ _ _=>(zas (i:=2) (ndS (N:=["lines","eight","line"])) rfl (Or.inl rfl))) (λ_ _ _ _ _=>zav) (λ_ _ _ _ _=>(zak Q5 hr rfl (zab (pv 2) (zab (pv 1) zaa))))))),?_⟩
 unfold zax Rep at hA
 obtain⟨_,xs,e,hA,hx⟩:=hA
 cases e
 have lx:=hx.length
 rw[zlm] at lx
 ac_rfl
 refine⟨a,rfl,⟨_,hA⟩,?_⟩
 refine zaA (zay hA) ((ls.map λl=>zaQ l eight).map nums) (by simp[lx]) (zaj (by omega)) (λi x d H1 R hi hd s1 hx' hR=>?_) (λv H1 s1 n1=>?_)
 ·obtain⟨d2,hd2,hrx⟩:=hx.get' hx'
  rw[zgm] at hd2
  obtain⟨l,hl',rfl⟩:=zme.mp hd2
  rw[zgm,zgm,hl'] at hd
  cases hd
  obtain⟨xa,rfl,hxa⟩:=za5.mp (Rep.same s1 _ hrx)
  obtain⟨l9,ok⟩:=hk l (zmg hl')
  obtain⟨c,fs,rfl⟩:∃ c fs,l=c::fs:=by
   cases l with
   | nil=>simp at l9
   | cons c fs=>exact⟨c,fs,rfl⟩
  ac_rfl
  refine⟨xa,b,c,fs,eight,rfl,hxa,Rep.same s1 _ hB,by simpa using l9,l8,e9,ok,λv H2 s2 n2=>?_⟩
  exact hR _ _ s2 n2
 ·ac_rfl
  exact q _ _ s1 n1
abbrev zmO:=kL
def zb7 (K:Fg):Sp:=λvs H Q _=>∃ i:Int,vs=[.int i]/\∀ v H',Same H H'->New H H' (nums (zmO i)) v->Q v H'
theorem zeZ {H:Hp}{Q:VK}{E:XK}{i:Int}(q:∀ v H',Same H H'->New H H' (nums (zmO i)) v->Q v H'):zb7 K [.int i] H Q E:=⟨i,rfl,q⟩
include B Z in
theorem ziT (F:Fun K "constant" "constant" zdF f fd)(m:mg "constant"=some (.ref f)):Fn P w K mg b8 "constant" ["number"] 1 (zb7 K):=by
 refine Fn.of (k:=0) F ziO m (λ_ _ _ _ _ _ us hl=>(by obtain⟨_,rfl⟩:=len1 hl;rfl)) (λvs H Q E h=>?_) (λcdv A outer s H vs Q E hr h=>?_)
 ·first
  | (obtain⟨_,rfl,_⟩:=h;rfl)
 obtain⟨i,rfl,q⟩:=h
 refine⟨_,(zah (zap (zaS (zaV K) (zaL (zab (pv 0) zaa)) (zaS zcP (zaL (zao zag zaa)) (zaY rfl B.c_FACTORS))))),?_⟩
 ac_rfl
 refine⟨(by walk_at "sm"),λp hp=>?_⟩
 ac_rfl
 refine⟨(by walk_at "sm"),λp2 hp2=>?_⟩
 ac_rfl
 refine .inr ⟨p2,8,[.int 0],rfl,rfl,zac,by decide,by decide,by decide,λp3 hp3=>?_⟩
 have t1:=zaf hp (.lst [.int i])
 have t2:=zaf hp2 (.lst [.int 0])
 have t3:=zaf hp3 (.lst (List.replicate (8:Int).toNat [V.int 0]).flatten)
 ac_rfl
 refine zbe (t3 _ _ (t2 _ _ zac)) zac (zaj (by show 1+8<=1000;decide)) λp4 hp4=>?_
 have s:=t1.trans (t2.trans t3)
 exact q _ _ (s.trans (zaf hp4 _)) (New.iif.mpr ⟨p4,rfl,s.free hp4,zac⟩)
theorem sm_k {n:Int}(h:-(2 ^ 64)<n/\n<2 ^ 64):Sm (kL n):=λm hm=>by
 unfold kL at hm
 rcases List.mem_cons.mp hm with z | z
 ·rw[z];exact h
 ·rw[(List.mem_replicate.mp z).2];exact⟨by decide,by decide⟩
theorem zlf {P:List Int->Prop}(h4:P (zaz 4))(h5:P (zaz 5))(hk:P (kL 0)):∀ i m,ch4 i=some m->P m:=λi m e=>by
 unfold ch4 at e
 split at e
 ·cases e;exact h4
 split at e
 ·cases e;exact h5
 split at e
 ·cases e;exact hk
 split at e
 ·cases e;exact hk
 ·cases e
theorem zps {H:Hp}{a b c d:Addr}(ha:H a=some (.lst ((zaz 4).map V.int)))(hb:H b=some (.lst ((zaz 5).map V.int)))(hc:H c=some (.lst ((kL 0).map V.int)))(hd:H d=some (.lst ((kL 0).map V.int))):∀ i:Nat,i<8->(ch4 i=none/\valV (zbB [] [(Sum.inl 0,V.ref a),(Sum.inl 1,V.ref b),(Sum.inl 2,V.ref c),(Sum.inl 3,V.ref d)]) (.inl (0+(i:Int)))=none)\/∃ x m,ch4 i=some m/\valV (zbB [] [(Sum.inl 0,V.ref a),(Sum.inl 1,V.ref b),(Sum.inl 2,V.ref c),(Sum.inl 3,V.ref d)]) (.inl (0+(i:Int)))=some (.ref x)/\m.length=9/\H x=some (.lst (m.map V.int)):=λi hi=>by
 have e:∀ k:Key,valV (zbB [] [((Sum.inl 0:Key),V.ref a),(Sum.inl 1,V.ref b),(Sum.inl 2,V.ref c),(Sum.inl 3,V.ref d)]) k=if k=Sum.inl 3 then some (.ref d) else if k=Sum.inl 2 then some (.ref c) else if k=Sum.inl 1 then some (.ref b) else if k=Sum.inl 0 then some (.ref a) else none:=λk=>by
  simp only[zbB,List.foldl_cons,List.foldl_nil,zdJ]
  rfl
 rw[e]
 match i,hi with
 | 0,_=>exact .inr ⟨a,_,rfl,rfl,zan 4,ha⟩
 | 1,_=>exact .inr ⟨b,_,rfl,rfl,zan 5,hb⟩
 | 2,_=>exact .inr ⟨c,_,rfl,rfl,zbc 0,hc⟩
 | 3,_=>exact .inr ⟨d,_,rfl,rfl,zbc 0,hd⟩
 | 4,_=>exact .inl ⟨rfl,rfl⟩
 | 5,_=>exact .inl ⟨rfl,rfl⟩
 | 6,_=>exact .inl ⟨rfl,rfl⟩
 | 7,_=>exact .inl ⟨rfl,rfl⟩
inductive Q29 (K:Fg)(C:Nat->Addr)(vs:List V)(H:Hp)(Q:VK)(E:XK):Prop
 | mk (p:Addr) (needs leaves:List (List Int)) (deeds:List D) (notes:List (List (List Int))):vs=[.ref p]->zbg K (C 0) H p needs leaves deeds notes->Good needs leaves deeds.length notes->(∀ v H',Same H H'->New H H' (.lst (zh2 needs leaves notes)) v->Q v H')->Q29 K C vs H Q E
include B Z in
theorem zf6 (Q3a:Fn P w K mg b8 "eight_with" ["changes"] 2 (Q39 K))(Q36:Fn P w K mg b8 "each_from" ["goals","hypotheses"] 2 (Q35 K))(Q38:Fn P w K mg b8 "all_turned" ["lines","eight"] 3 (Q37 K))(Q0:Fn P w K mg b8 "bare" ["i"] 1 (zdD K))(Q3b:Fn P w K mg b8 "constant" ["number"] 1 (zb7 K))(Q27:Fn P w K mg b8 "due_at" ["craft","place"] 3 (Q26 K C))(F:Fun K "first_duties" "first_duties" zca f fd)(m:mg "first_duties"=some (.ref f)):Fn P w K mg b8 "first_duties" ["craft"] 4 (Q29 K C):=by
 refine Fn.of (k:=3) F zdC m (λ_ _ _ _ _ _ us hl=>(by obtain⟨_,rfl⟩:=len1 hl;rfl)) (λvs H Q E h=>?_) (λcdv A outer s H vs Q E hr h=>?_)
 ·first
  | (obtain⟨_,_,_,_,_,rfl,_⟩:=h;rfl)
 obtain⟨p,needs,leaves,deeds,notes,rfl,hC,hg,q⟩:=h
 refine⟨_,(zae (zat (i:=1) zdC.nd rfl (Or.inl rfl) (zak Q3a hr rfl (zbd (zeL (zbU zag (zak Q0 hr rfl (zab (zaY rfl B.c_ASKED_0) zaa)) (zbU zag (zak Q0 hr rfl (zab (zaY rfl B.c_ASKED_1) zaa)) (zbU zag (zak Q3b hr rfl (zao zag zaa)) (zbU zag (zak Q3b hr rfl (zao zag zaa)) zeK)))) rfl rfl (by simp) (by simp)) zaa)))
   (zah (zap (zak Q36 hr rfl (zaF (zak Q38 hr rfl (zaF (zak Q27 hr rfl (zab (pv 0) (zao zag zaa))) (zab (pv 1) zaa))) (zbo (zbk K (pv 0) rfl) zaa)))))),?_⟩
 walk_at "q"
 nofun
 refine zgL λdp hdp=>?_
 have u0:=zaf hdp (.dK [])
 nofun
 refine zcT λv H1 s1 n1=>?_
 obtain⟨b1,rfl,b10,b11⟩:=New.iif.mp n1
 nofun
 refine zcT λv H2 s2 n2=>?_
 obtain⟨b2,rfl,b20,b21⟩:=New.iif.mp n2
 nofun
 refine zeZ λv H3 s3 n3=>?_
 obtain⟨b3,rfl,b30,b31⟩:=New.iif.mp n3
 nofun
 refine zeZ λv H4 s4 n4=>?_
 obtain⟨b4,rfl,b40,b41⟩:=New.iif.mp n4
 nofun
 have d1:H1 dp=some (.dK []):=s1 _ _ zac
 have d4:H4 dp=some (.dK []):=s4 _ _ (s3 _ _ (s2 _ _ d1))
 have ne:∀ {b:Addr}{l:List Int},H4 b=some (.lst (l.map V.int))->b≠dp:=λe z=>by rw[z,d4] at e;cases e
 have f1:=s4 _ _ (s3 _ _ (s2 _ _ b11))
 have f2:=s4 _ _ (s3 _ _ b21)
 have f3:=s4 _ _ b31
 refine⟨d4,[(.inl 0,.ref b1),(.inl 1,.ref b2),(.inl 2,.ref b3),(.inl 3,.ref b4)],rfl,by simp,?_⟩
 have s05:Same H (upd H4 dp (.dK (zbB [] [(.inl 0,.ref b1),(.inl 1,.ref b2),(.inl 2,.ref b3),(.inl 3,.ref b4)]))):=(u0.trans (s1.trans (s2.trans (s3.trans s4)))).put hdp
 nofun
 refine⟨dp,_,ch4,rfl,zac,zps (by rw[zam (ne f1)];exact f1) (by rw[zam (ne f2)];exact f2) (by rw[zam (ne f3)];exact f3) (by rw[zam (ne b41)];exact b41),λea H6 s6 ea0 hE=>?_⟩
 have s06:=s05.trans s6
 have m9:∀ l∈zaG ch4,l.length=9:=za7 (λi=>zan i) (zlf (zan 4) (zan 5) (zbc 0))
 have msm:∀ l∈zaG ch4,Sm l:=za7 (λi=>zb1 i) (zlf (zb1 4) (zb1 5) (sm_k ⟨by decide,by decide⟩))
 have gd:=hg.due 0
 nofun
 refine⟨p,0,needs,leaves,deeds,notes,rfl,hC.same s06,by decide,by omega,hg.dn,by have:=hg.d;omega,by have:=hg.l;omega,hg.l9,λls hl=>by have:=(hg.o ls hl).1;omega,λv H7 s7 n7=>?_⟩
 have rv:=New.rep (K:=K) n7
 obtain⟨da,rfl⟩:∃ b,v=.ref b:=by obtain⟨b,_,e,_⟩:=New.news n7;exact⟨b,e⟩
 nofun
 refine⟨da,ea,_,zaG ch4,rfl,rv,(hE.same s7).rep,by omega,λl hl=>⟨gd.2 l hl,zdi msm⟩,zbi _,m9,λv H8 s8 n8=>?_⟩
 have rv8:=New.rep (K:=K) n8
 obtain⟨ga,rfl⟩:∃ b,v=.ref b:=by obtain⟨b,_,e,_⟩:=New.news n8;exact⟨b,e⟩
 have s08:=s06.trans (s7.trans s8)
 obtain⟨dx,w1,w2,w3,w4,hp,r1,r2,r3,r4⟩:=hC.same s08
 obtain⟨y1,rfl⟩:∃ b,w1=.ref b:=by unfold zax Rep at r1;obtain⟨a,_,e,_⟩:=r1;exact⟨a,e⟩
 nofun
 refine⟨p,(C 0),dx,_,_,rfl,hp,Z.c_Craft,Z.n_Craft_needs,zcS _ _ _ _,?_⟩
 nofun
 refine⟨ga,y1,_,needs,rfl,rv8,r1,by simp;omega,by have:=hg.n;omega,λv H9 s9 n9=>?_⟩
 exact q _ _ (s08.trans s9) (n9.back s08)
--LEN (obtain ⟨_, _, _, _, _, _, _, _, _, _, _, _, _, _, _, _, _, rfl, _⟩ := h; rfl)
inductive Q33 (K:Fg)(C:Nat->Addr)(vs:List V)(H:Hp)(Q:VK)(E:XK):Prop
 | mk (t na aa o g2 t2:Addr) (m g0 g1 t0 t1:Int) (notes after needs leaves:List (List Int)) (deeds:List D) (ns:List (List (List Int))):vs=[.ref t,.ref na,.ref aa,.ref o]->SqT K H t [.str "call",.int m,.ref g2,.ref t2]->SqT K H g2 [.int g0,.int g1]->SqT K H t2 [.int t0,.int t1]->Ls H na notes->Rep K H (zax after) (.ref aa)->notes.length<=100->after.length<=100->(∀ l∈notes,l.length=9)->(∀ l∈after,l.length=9)->zbg K (C 0) H o needs leaves deeds ns->Good needs leaves deeds.length ns->(∀ v H',Same H H'->New H H' (.lst (((needs.map λl=>zaQ l (zaG (ch2 4 (zaz g0) 5 (zaz g1)))).map λg=>zdn g notes)++(after.map λl=>zaQ l (zaG (ch2 t0 (zaz 6) t1 (zaz 7)))).map λg=>zdn g (notes++leaves.map λl=>zaQ l (zaG (ch2 4 (zaz g0) 5 (zaz g1)))))) v->Q v H')->Q33 K C vs H Q E
include B Z in
theorem zgr (Q3a:Fn P w K mg b8 "eight_with" ["changes"] 2 (Q39 K))(Q36:Fn P w K mg b8 "each_from" ["goals","hypotheses"] 2 (Q35 K))(Q38:Fn P w K mg b8 "all_turned" ["lines","eight"] 3 (Q37 K))(Q0:Fn P w K mg b8 "bare" ["i"] 1 (zdD K))(F:Fun K "call_duties" "call_duties" zcr f fd)(m:mg "call_duties"=some (.ref f)):Fn P w K mg b8 "call_duties" ["deed","notes","after","other"] 4 (Q33 K C):=by
 refine Fn.of (k:=3) F zbm m (λ_ _ _ _ _ _ us hl=>(by obtain⟨_,_,_,_,rfl⟩:=len4 hl;rfl)) (λvs H Q E h=>?_) (λcdv A outer s H vs Q E hr h=>?_)
 ·first
  | (obtain⟨_,_,_,_,_,_,_,_,_,_,_,_,_,_,_,_,_,rfl,_⟩:=h;rfl)
 obtain⟨t,na,aa,o,g2,t2,m,g0,g1,t0,t1,notes,after,needs,leaves,deeds,ns,rfl,hT,hG,hK,hN,hA,ln,lf,o9,a9,hC,hg,q⟩:=h
 refine⟨_,(zae (zat (i:=4) zbm.nd rfl (Or.inl rfl) (zaH (k_ix K) (pv 0) zag (λ_ _=>rfl)))
   (zae (zat (i:=5) zbm.nd rfl (Or.inl rfl) (zaH (k_ix K) (pv 0) zag (λ_ _=>rfl)))
   (zae (zat (i:=6) zbm.nd rfl (Or.inl rfl) (zak Q3a hr rfl (zbd (zeL (zbU (zaY rfl B.c_ASKED_0) (zak Q0 hr rfl (za3 (zaH (k_ix K) (pv 4) zag (λ_ _=>rfl)) zaa)) (zbU (zaY rfl B.c_ASKED_1) (zak Q0 hr rfl (za3 (zaH (k_ix K) (pv 4) zag (λ_ _=>rfl)) zaa)) zeK)) rfl rfl (by simp) (by simp)) zaa)))
   (zae (zat (i:=7) zbm.nd rfl (Or.inl rfl) (zak Q3a hr rfl (zbd (zeL (zbU (zaH (k_ix K) (pv 5) zag (λ_ _=>rfl)) (zak Q0 hr rfl (zab (zaY rfl B.c_NEW_0) zaa)) (zbU (zaH (k_ix K) (pv 5) zag (λ_ _=>rfl)) (zak Q0 hr rfl (zab (zaY rfl B.c_NEW_1) zaa)) zeK)) rfl rfl (by simp) (by simp)) zaa)))
   (zae (zat (i:=8) zbm.nd rfl (Or.inl rfl) (zak Q36 hr rfl (zaF (zak Q38 hr rfl (zbo (zbk K (pv 3) rfl) (zab (pv 6) zaa))) (zab (pv 1) zaa))))
   (zah (zap (zaS (zaV K) (pv 8) (zak Q36 hr rfl (zaF (zak Q38 hr rfl (zab (pv 2) (zab (pv 7) zaa))) (zbt (zaS (zaV K) (pv 1) (zak Q38 hr rfl (zbo (zbk K (pv 3) rfl) (zab (pv 6) zaa)))) zaa))))))))))),?_⟩
 walk_at "q"
 nofun
 refine zaO hT (v:=.ref g2) (zaJ (j:=2) rfl) ?_
 nofun
 walk_at "q"
 nofun
 refine zaO hT (v:=.ref t2) (zaJ (j:=3) rfl) ?_
 nofun
 walk_at "q"
 nofun
 refine zgL λdp hdp=>?_
 have u0:=zaf hdp (.dK [])
 nofun
 refine zaO (u0.tup hG) (v:=.int g0) zbs ?_
 nofun
 refine zcT λv H1 s1 n1=>?_
 obtain⟨b1,rfl,b10,b11⟩:=New.iif.mp n1
 nofun
 refine zaO ((u0.trans s1).tup hG) (v:=.int g1) (zaJ (j:=1) rfl) ?_
 nofun
 refine zcT λv H2 s2 n2=>?_
 obtain⟨b2,rfl,b20,b21⟩:=New.iif.mp n2
 nofun
 have d2:H2 dp=some (.dK []):=s2 _ _ (s1 _ _ zac)
 have ne:∀ {b:Addr}{l:List Int},H2 b=some (.lst (l.map V.int))->b≠dp:=λe z=>by rw[z,d2] at e;cases e
 have f1:=s2 _ _ b11
 refine⟨d2,[(.inl 4,.ref b1),(.inl 5,.ref b2)],rfl,by simp,?_⟩
 have s03:Same H (upd H2 dp (.dK (zbB [] [(.inl 4,.ref b1),(.inl 5,.ref b2)]))):=(u0.trans (s1.trans s2)).put hdp
 nofun
 refine⟨dp,_,ch2 4 (zaz g0) 5 (zaz g1),rfl,zac,zmN (zan g0) (zan g1) (by rw[zam (ne f1)];exact f1) (by rw[zam (ne b21)];exact b21),λea H4 s4 ea0 hE=>?_⟩
 have s04:=s03.trans s4
 have e9:∀ l∈zaG (ch2 4 (zaz g0) 5 (zaz g1)),l.length=9:=za7 (λi=>zan i) (zho (zan g0) (zan g1))
 have esm:∀ l∈zaG (ch2 4 (zaz g0) 5 (zaz g1)),Sm l:=za7 (λi=>zb1 i) (zho (zb1 g0) (zb1 g1))
 have elen:=zbi (ch2 4 (zaz g0) 5 (zaz g1))
 generalize zaG (ch2 4 (zaz g0) 5 (zaz g1))=giving at hE e9 esm elen q
 nofun
 walk_at "q"
 nofun
 refine zgL λdq hdq=>?_
 have w0:=zaf hdq (.dK [])
 nofun
 refine zaO ((s04.trans w0).tup hK) (v:=.int t0) zbs ?_
 nofun
 refine zcT λv H5 s5 n5=>?_
 obtain⟨b3,rfl,b30,b31⟩:=New.iif.mp n5
 nofun
 refine zaO ((s04.trans (w0.trans s5)).tup hK) (v:=.int t1) (zaJ (j:=1) rfl) ?_
 nofun
 refine zcT λv H6 s6 n6=>?_
 obtain⟨b4,rfl,b40,b41⟩:=New.iif.mp n6
 nofun
 have d6:H6 dq=some (.dK []):=s6 _ _ (s5 _ _ zac)
 have ne6:∀ {b:Addr}{l:List Int},H6 b=some (.lst (l.map V.int))->b≠dq:=λe z=>by rw[z,d6] at e;cases e
 have f3:=s6 _ _ b31
 refine⟨d6,[(.inl t0,.ref b3),(.inl t1,.ref b4)],rfl,by simp,?_⟩
 have s47:Same H4 (upd H6 dq (.dK (zbB [] [(.inl t0,.ref b3),(.inl t1,.ref b4)]))):=(w0.trans (s5.trans s6)).put hdq
 nofun
 refine⟨dq,_,ch2 t0 (zaz 6) t1 (zaz 7),rfl,zac,zmN (zan 6) (zan 7) (by rw[zam (ne6 f3)];exact f3) (by rw[zam (ne6 b41)];exact b41),λta H8 s8 ta0 hF=>?_⟩
 have s48:=s47.trans s8
 have s08:=s04.trans s48
 have k9:∀ l∈zaG (ch2 t0 (zaz 6) t1 (zaz 7)),l.length=9:=za7 (λi=>zan i) (zho (zan 6) (zan 7))
 have ksm:∀ l∈zaG (ch2 t0 (zaz 6) t1 (zaz 7)),Sm l:=za7 (λi=>zb1 i) (zho (zb1 6) (zb1 7))
 have klen:=zbi (ch2 t0 (zaz 6) t1 (zaz 7))
 generalize zaG (ch2 t0 (zaz 6) t1 (zaz 7))=taking at hF k9 ksm klen q
 obtain⟨dx,w1,w2,w3,w4,hp,r1,r2,r3,r4⟩:=hC
 obtain⟨y1,rfl⟩:∃ b,w1=.ref b:=by unfold zax Rep at r1;obtain⟨a,_,e,_⟩:=r1;exact⟨a,e⟩
 obtain⟨y2,rfl⟩:∃ b,w2=.ref b:=by unfold zax Rep at r2;obtain⟨a,_,e,_⟩:=r2;exact⟨a,e⟩
 nofun
 walk_at "q"
 nofun
 refine⟨o,(C 0),dx,_,_,rfl,s08 _ _ hp,Z.c_Craft,Z.n_Craft_needs,zcS _ _ _ _,?_⟩
 nofun
 have hE8:=hE.same s48
 refine⟨y1,ea,needs,giving,rfl,Rep.same s08 _ r1,hE8.rep,by have:=hg.n;omega,λl hl=>⟨hg.n9 l hl,zdi esm⟩,elen,e9,λv H9 s9 n9=>?_⟩
 have rv9:=New.rep (K:=K) n9
 obtain⟨ga,rfl⟩:∃ b,v=.ref b:=by obtain⟨b,_,e,_⟩:=New.news n9;exact⟨b,e⟩
 nofun
 have hN9:=hN.same (s08.trans s9)
 refine⟨ga,na,_,notes,rfl,rv9,hN9.rep,by simp;have:=hg.n;omega,by omega,λv1 Ha sa n1'=>?_⟩
 have s0a:=s08.trans (s9.trans sa)
 nofun
 refine⟨aa,ta,after,taking,rfl,Rep.same s0a _ hA,(hF.same (s9.trans sa)).rep,by omega,λl hl=>⟨a9 l hl,zdi ksm⟩,klen,k9,λv Hb sb nb=>?_⟩
 have rvb:=New.rep (K:=K) nb
 obtain⟨ha,rfl⟩:∃ b,v=.ref b:=by obtain⟨b,_,e,_⟩:=New.news nb;exact⟨b,e⟩
 have s0b:=s0a.trans sb
 nofun
 refine⟨o,(C 0),dx,_,_,rfl,s0b _ _ hp,Z.c_Craft,Z.n_Craft_leaves,zcj _ _ _ _,?_⟩
 nofun
 refine⟨y2,ea,leaves,giving,rfl,Rep.same s0b _ r2,(hE8.same (s9.trans (sa.trans sb))).rep,by have:=hg.l;omega,λl hl=>⟨hg.l9 l hl,zdi esm⟩,elen,e9,λv Hc sc nc=>?_⟩
 obtain⟨la,rfl,la0,hL⟩:=nc.ls
 have s0c:=s0b.trans sc
 obtain⟨xs,hxs,lxs⟩:=(hN.same s0c).len
 have hLl:=hL.len
 obtain⟨bs,hbs,lbs,ibs⟩:=hL
 rw[zlm] at lbs
 nofun
 refine zbe hxs hbs (zaj (by rw[zlm];have:=hg.l;omega)) λp7 hp7=>?_
 have hM:=Ls.more (p:=p7) (bs:=bs) (ms:=leaves.map λl=>zaQ l giving) (hN.same s0c) hxs (by rw[zlm];exact lbs) ibs hp7
 have t7:=zaf hp7 (.lst (xs++bs.map V.ref))
 nofun
 refine⟨ha,p7,_,notes++leaves.map λl=>zaQ l giving,rfl,Rep.same (sc.trans t7) _ rvb,hM.rep,by simp;omega,by simp;have:=hg.l;omega,λv2 Hd sd nd=>?_⟩
 obtain⟨a1,vs1,fa1,rfl,z1,y1',r1',_⟩:=New.lso n1'
 obtain⟨a2,vs2,fa2,rfl,z2,y2',r2',_⟩:=New.lso nd
 have l1:=r1'.length
 have l2:=r2'.length
 simp only[zlm] at l1 l2
 have sad:=sb.trans (sc.trans (t7.trans sd))
 nofun
 refine zbe (sad _ _ y1') y2' (zaj (by have:=hg.n;omega)) λp8 hp8=>?_
 exact q _ _ ((s0a.trans sad).trans (zaf hp8 _)) (New.cat (n1'.back (s08.trans s9)) s0a sad (nd.back (sb.trans (sc.trans t7))) (sad _ _ y1') y2' hp8)
theorem ziU {H:Hp}{a c d:Addr}{l k j:List Int}(h:H a=some (.lst (l.map V.int)))(h':H c=some (.lst (k.map V.int)))(h2:H d=some (.lst (j.map V.int))):∀ (i:Nat) b m,[a,c,d][i]?=some b->[l,k,j][i]?=some m->H b=some (.lst (m.map V.int)):=λi b m e1 e2=>by
 cases i with
 | zero=>simp at e1 e2;subst e1;subst e2;exact h
 | succ i=>exact zcB h' h2 i b m (by simpa using e1) (by simpa using e2)
inductive Q2d (K:Fg)(vs:List V)(H:Hp)(Q:VK)(E:XK):Prop
 | mk (t na aa la:Addr) (h by':Int) (line:List Int) (notes after:List (List Int)):vs=[.ref t,.ref na,.ref aa]->SqT K H t [.str "part",.int h,.ref la,.int by']->H la=some (.lst (line.map V.int))->line.length=9->(-1000000<by'/\by'<1000000)->Ls H na notes->Rep K H (zax after) (.ref aa)->notes.length<=100->after.length<=100->(∀ l∈after,l.length=9)->(∀ v H',Same H H'->New H H' (.lst ((after.map λl=>zaQ l (zaG (ch1 h (zaz 6)))).map λg=>zdn g (notes++[zdd line by',greatest line by']))) v->Q v H')->Q2d K vs H Q E
include B Z in
theorem zgs (Q3:Fn P w K mg b8 "summed" ["lines","weights"] 1 (Q1 K))(Q36:Fn P w K mg b8 "each_from" ["goals","hypotheses"] 2 (Q35 K))(Q38:Fn P w K mg b8 "all_turned" ["lines","eight"] 3 (Q37 K))(Q0:Fn P w K mg b8 "bare" ["i"] 1 (zdD K))(Q3b:Fn P w K mg b8 "constant" ["number"] 1 (zb7 K))(Q3a:Fn P w K mg b8 "eight_with" ["changes"] 2 (Q39 K))(F:Fun K "part_duties" "part_duties" zco f fd)(m:mg "part_duties"=some (.ref f)):Fn P w K mg b8 "part_duties" ["deed","notes","after"] 4 (Q2d K):=by
 refine Fn.of (k:=3) F zbF m (λ_ _ _ _ _ _ us hl=>(by obtain⟨_,_,_,rfl⟩:=len3 hl;rfl)) (λvs H Q E h=>?_) (λcdv A outer s H vs Q E hr h=>?_)
 ·first
  | (obtain⟨_,_,_,_,_,_,_,_,_,rfl,_⟩:=h;rfl)
 obtain⟨t,na,aa,la,h,by',line,notes,after,rfl,hT,hla,l9,hby,hN,hA,ln,lf,a9,q⟩:=h
 refine⟨_,(zae (zat (i:=3) zbF.nd rfl (Or.inl rfl) (zaH (k_ix K) (pv 0) zag (λ_ _=>rfl)))
   (zae (zat (i:=4) zbF.nd rfl (Or.inl rfl) (zaH (k_ix K) (pv 0) zag (λ_ _=>rfl)))
   (zae (zat (i:=5) zbF.nd rfl (Or.inl rfl) (zak Q3 hr rfl (zcQ (zaL (zab (pv 3) (zaF (zak Q0 hr rfl (zab (zaY rfl B.c_NEW_0) zaa)) zaa))) (zcQ (zaL (zao zag (ziF (zfp zdq (pv 4)) zaa))) zaa))))
   (zae (zat (i:=6) zbF.nd rfl (Or.inl rfl) (zak Q3 hr rfl (zcQ (zaL (zaF (zak Q0 hr rfl (zab (zaY rfl B.c_NEW_0) zaa)) (zaF (zak Q3b hr rfl (zbt (zaS zmo (pv 4) zag) zaa)) (zab (pv 3) zaa)))) (zcQ (zaL (zab (pv 4) (zao zag (ziF (zfp zdq zag) zaa)))) zaa))))
   (zah (zap (zak Q36 hr rfl (zaF (zak Q38 hr rfl (zab (pv 2) (zaF (zak Q3a hr rfl (zbd (zeL (zbU (zaH (k_ix K) (pv 0) zag (λ_ _=>rfl)) (zak Q0 hr rfl (zab (zaY rfl B.c_NEW_0) zaa)) zeK) rfl rfl (by simp) (by simp)) zaa)) zaa))) (zbt (zaS (zaV K) (pv 1) (zaL (zab (pv 5) (zab (pv 6) zaa)))) zaa))))))))),?_⟩
 walk_at "q"
 nofun
 refine zaO hT (v:=.ref la) (zaJ (j:=2) rfl) ?_
 nofun
 walk_at "q"
 nofun
 refine zaO hT (v:=.int by') (zaJ (j:=3) rfl) ?_
 nofun
 walk_at "q"
 nofun
 refine zcT λv H1 s1 n1=>?_
 obtain⟨b1,rfl,b10,b11⟩:=New.iif.mp n1
 nofun
 refine⟨(by walk_at "sm"),λp hp=>?_⟩
 have t1:=zaf hp (.lst [V.ref la,.ref b1])
 nofun
 refine⟨(by walk_at "sm"),λp2 hp2=>?_⟩
 have t2:=zaf hp2 (.lst [V.int 1,.int (-by')])
 have s02:=s1.trans (t1.trans t2)
 nofun
 refine⟨p,p2,[line,zaz 6],[1,-by'],rfl,zc3 (bs:=[la,b1]) (t2 _ _ zac) rfl (zcB (s02 _ _ hla) ((t1.trans t2) _ _ b11)),SqL.of zac,rfl,by simp,λl hl=>?_,λi l w _ e2 n _=>?_,λv H3 s3 n3=>?_⟩
 ·simp at hl;rcases hl with rfl | rfl
  ·exact l9
  ·exact zan 6
 ·have:w=1\/w=-by':=by
   have:=zmg e2
   simp at this;exact this
  rcases this with z | z <;> subst z <;> exact .inr ⟨by omega,by omega⟩
 obtain⟨fa,rfl,fa0,fa1⟩:=New.iif.mp n3
 have s03:=s02.trans s3
 nofun
 walk_at "q"
 nofun
 refine zcT λv H4 s4 n4=>?_
 obtain⟨b2,rfl,b20,b21⟩:=New.iif.mp n4
 nofun
 refine zeZ λv H5 s5 n5=>?_
 obtain⟨c2,rfl,c20,c21⟩:=New.iif.mp n5
 nofun
 refine⟨(by walk_at "sm"),λp3 hp3=>?_⟩
 have t3:=zaf hp3 (.lst [V.ref b2,.ref c2,.ref la])
 nofun
 refine⟨(by walk_at "sm"),λp4 hp4=>?_⟩
 have t4:=zaf hp4 (.lst [V.int by',.int 1,.int (-1)])
 have s35:=s4.trans (s5.trans (t3.trans t4))
 nofun
 refine⟨p3,p4,[zaz 6,kL (by' - 1),line],[by',1,-1],rfl,zc3 (bs:=[b2,c2,la]) (t4 _ _ zac) rfl (ziU ((s5.trans (t3.trans t4)) _ _ b21) ((t3.trans t4) _ _ c21) ((s03.trans s35) _ _ hla)),SqL.of zac,rfl,by simp,λl hl=>?_,λi l w _ e2 n _=>?_,λv H6 s6 n6=>?_⟩
 ·simp at hl;rcases hl with rfl | rfl | rfl
  ·exact zan 6
  ·exact zbc _
  ·exact l9
 ·have:w=by'\/w=1\/w=-1:=by
   have:=zmg e2
   simp at this;exact this
  rcases this with z | z | z <;> subst z <;> exact .inr ⟨by omega,by omega⟩
 obtain⟨ta,rfl,ta0,ta1⟩:=New.iif.mp n6
 have s36:=s35.trans s6
 have s06:=s03.trans s36
 nofun
 refine zgL λdp hdp=>?_
 have u0:=zaf hdp (.dK [])
 nofun
 refine zaO ((s06.trans u0).tup hT) (v:=.int h) (zaJ (j:=1) rfl) ?_
 nofun
 refine zcT λv H7 s7 n7=>?_
 obtain⟨b3,rfl,b30,b31⟩:=New.iif.mp n7
 nofun
 refine⟨s7 _ _ zac,[(.inl h,.ref b3)],rfl,by simp,?_⟩
 have b3d:b3≠dp:=λz=>by rw[z,zac] at b30;cases b30
 have s67:Same H6 (upd H7 dp (.dK (zbB [] [(.inl h,.ref b3)]))):=(u0.trans s7).put hdp
 have s07:=s06.trans s67
 nofun
 refine⟨dp,_,ch1 h (zaz 6),rfl,zac,zle (zan 6) (by rw[zam b3d];exact b31),λea H8 s8 ea0 hE=>?_⟩
 have s08:=s07.trans s8
 have m9:∀ l∈zaG (ch1 h (zaz 6)),l.length=9:=za7 (λi=>zan i) (zeY (zan 6))
 have msm:∀ l∈zaG (ch1 h (zaz 6)),Sm l:=za7 (λi=>zb1 i) (zeY (zb1 6))
 nofun
 refine⟨aa,ea,after,zaG (ch1 h (zaz 6)),rfl,Rep.same s08 _ hA,hE.rep,by omega,λl hl=>⟨a9 l hl,zdi msm⟩,zbi _,m9,λv H9 s9 n9=>?_⟩
 have gv:=New.rep (K:=K) n9
 obtain⟨ga,rfl⟩:∃ b,v=.ref b:=by obtain⟨b,_,e,_⟩:=New.news n9;exact⟨b,e⟩
 have s09:=s08.trans s9
 have s69:=s67.trans (s8.trans s9)
 nofun
 refine⟨(by walk_at "sm"),λp5 hp5=>?_⟩
 have t5:=zaf hp5 (.lst [V.ref fa,.ref ta])
 obtain⟨xs,hxs,lxs⟩:=(hN.same s09).len
 nofun
 refine zbe (t5 _ _ hxs) zac (zaj (by simp;omega)) λp6 hp6=>?_
 have hL:=Ls.more (p:=p6) (bs:=[fa,ta]) (ms:=[zdd line by',greatest line by']) ((hN.same s09).same t5) (t5 _ _ hxs) rfl (zcB (t5 _ _ (s69 _ _ (s36 _ _ fa1))) (t5 _ _ (s69 _ _ ta1))) hp6
 have t6:=zaf hp6 (.lst (xs++[V.ref fa,.ref ta]))
 have t56:=t5.trans t6
 nofun
 refine⟨ga,p6,_,notes++[zdd line by',greatest line by'],rfl,Rep.same t56 _ gv,hL.rep,by simp;omega,by simp;omega,λv Ha sa na'=>?_⟩
 exact q _ _ (s09.trans (t56.trans sa)) (na'.back (s09.trans t56))
inductive Q2f (K:Fg)(vs:List V)(H:Hp)(Q:VK)(E:XK):Prop
 | mk (t na aa:Addr) (h lo hi:Int) (notes after:List (List Int)):vs=[.ref t,.ref na,.ref aa]->SqT K H t [.str "draw",.int h,.int lo,.int hi]->Ls H na notes->Rep K H (zax after) (.ref aa)->notes.length<=100->after.length<=100->(∀ l∈after,l.length=9)->(∀ v H',Same H H'->New H H' (.lst ((after.map λl=>zaQ l (zaG (ch1 h (zaz 6)))).map λg=>zdn g (notes++[zd8 lo,zfS hi]))) v->Q v H')->Q2f K vs H Q E
include B Z in
theorem zgt (Q3:Fn P w K mg b8 "summed" ["lines","weights"] 1 (Q1 K))(Q36:Fn P w K mg b8 "each_from" ["goals","hypotheses"] 2 (Q35 K))(Q38:Fn P w K mg b8 "all_turned" ["lines","eight"] 3 (Q37 K))(Q0:Fn P w K mg b8 "bare" ["i"] 1 (zdD K))(Q3b:Fn P w K mg b8 "constant" ["number"] 1 (zb7 K))(Q3a:Fn P w K mg b8 "eight_with" ["changes"] 2 (Q39 K))(F:Fun K "draw_duties" "draw_duties" zcp f fd)(m:mg "draw_duties"=some (.ref f)):Fn P w K mg b8 "draw_duties" ["deed","notes","after"] 4 (Q2f K):=by
 refine Fn.of (k:=3) F zcX m (λ_ _ _ _ _ _ us hl=>(by obtain⟨_,_,_,rfl⟩:=len3 hl;rfl)) (λvs H Q E h=>?_) (λcdv A outer s H vs Q E hr h=>?_)
 ·first
  | (obtain⟨_,_,_,_,_,_,_,_,rfl,_⟩:=h;rfl)
 obtain⟨t,na,aa,h,lo,hi,notes,after,rfl,hT,hN,hA,ln,lf,a9,q⟩:=h
 refine⟨_,(zae (zat (i:=3) zcX.nd rfl (Or.inl rfl) (zak Q3 hr rfl (zcQ (zaL (zaF (zak Q0 hr rfl (zab (zaY rfl B.c_NEW_0) zaa)) (zaF (zak Q3b hr rfl (za3 (zaH (k_ix K) (pv 0) zag (λ_ _=>rfl)) zaa)) zaa))) (zcQ (zaL (zao zag (ziF (zfp zdq zag) zaa))) zaa))))
   (zae (zat (i:=4) zcX.nd rfl (Or.inl rfl) (zak Q3 hr rfl (zcQ (zaL (zaF (zak Q3b hr rfl (za3 (zaH (k_ix K) (pv 0) zag (λ_ _=>rfl)) zaa)) (zaF (zak Q0 hr rfl (zab (zaY rfl B.c_NEW_0) zaa)) zaa))) (zcQ (zaL (zao zag (ziF (zfp zdq zag) zaa))) zaa))))
   (zah (zap (zak Q36 hr rfl (zaF (zak Q38 hr rfl (zab (pv 2) (zaF (zak Q3a hr rfl (zbd (zeL (zbU (zaH (k_ix K) (pv 0) zag (λ_ _=>rfl)) (zak Q0 hr rfl (zab (zaY rfl B.c_NEW_0) zaa)) zeK) rfl rfl (by simp) (by simp)) zaa)) zaa))) (zbt (zaS (zaV K) (pv 1) (zaL (zab (pv 3) (zab (pv 4) zaa)))) zaa))))))),?_⟩
 obtain⟨c6,hc6⟩:=B.c_NEW_0
 walk_at "q"
 nofun
 refine zcT λv H1 s1 n1=>?_
 obtain⟨b1,rfl,b10,b11⟩:=New.iif.mp n1
 nofun
 refine zaO (s1.tup hT) (v:=.int lo) (zaJ (j:=2) rfl) ?_
 nofun
 refine zeZ λv H2 s2 n2=>?_
 obtain⟨c1,rfl,c10,c11⟩:=New.iif.mp n2
 nofun
 refine⟨(by walk_at "sm"),λp hp=>?_⟩
 have t1:=zaf hp (.lst [V.ref b1,.ref c1])
 nofun
 refine⟨(by walk_at "sm"),λp2 hp2=>?_⟩
 have t2:=zaf hp2 (.lst [V.int 1,.int (-1)])
 have s02:=s1.trans (s2.trans (t1.trans t2))
 nofun
 refine⟨p,p2,[zaz 6,kL lo],[1,-1],rfl,zc3 (bs:=[b1,c1]) (t2 _ _ zac) rfl (zcB ((s2.trans (t1.trans t2)) _ _ b11) ((t1.trans t2) _ _ c11)),SqL.of zac,rfl,by simp,λl hl=>?_,λi l w _ e2 n _=>?_,λv H3 s3 n3=>?_⟩
 ·simp at hl;rcases hl with rfl | rfl
  ·exact zan 6
  ·exact zbc lo
 ·have:w=1\/w=-1:=by
   have:=zmg e2
   simp at this;exact this
  rcases this with z | z <;> subst z <;> exact .inr ⟨by decide,by decide⟩
 obtain⟨fa,rfl,fa0,fa1⟩:=New.iif.mp n3
 have s03:=s02.trans s3
 nofun
 walk_at "q"
 nofun
 refine zaO (s03.tup hT) (v:=.int hi) (zaJ (j:=3) rfl) ?_
 nofun
 refine zeZ λv H4 s4 n4=>?_
 obtain⟨c2,rfl,c20,c21⟩:=New.iif.mp n4
 nofun
 refine zcT λv H5 s5 n5=>?_
 obtain⟨b2,rfl,b20,b21⟩:=New.iif.mp n5
 nofun
 refine⟨(by walk_at "sm"),λp3 hp3=>?_⟩
 have t3:=zaf hp3 (.lst [V.ref c2,.ref b2])
 nofun
 refine⟨(by walk_at "sm"),λp4 hp4=>?_⟩
 have t4:=zaf hp4 (.lst [V.int 1,.int (-1)])
 have s35:=s4.trans (s5.trans (t3.trans t4))
 nofun
 refine⟨p3,p4,[kL hi,zaz 6],[1,-1],rfl,zc3 (bs:=[c2,b2]) (t4 _ _ zac) rfl (zcB ((s5.trans (t3.trans t4)) _ _ c21) ((t3.trans t4) _ _ b21)),SqL.of zac,rfl,by simp,λl hl=>?_,λi l w _ e2 n _=>?_,λv H6 s6 n6=>?_⟩
 ·simp at hl;rcases hl with rfl | rfl
  ·exact zbc hi
  ·exact zan 6
 ·have:w=1\/w=-1:=by
   have:=zmg e2
   simp at this;exact this
  rcases this with z | z <;> subst z <;> exact .inr ⟨by decide,by decide⟩
 obtain⟨ta,rfl,ta0,ta1⟩:=New.iif.mp n6
 have s36:=s35.trans s6
 have s06:=s03.trans s36
 nofun
 refine zgL λdp hdp=>?_
 have u0:=zaf hdp (.dK [])
 nofun
 refine zaO ((s06.trans u0).tup hT) (v:=.int h) (zaJ (j:=1) rfl) ?_
 nofun
 refine zcT λv H7 s7 n7=>?_
 obtain⟨b3,rfl,b30,b31⟩:=New.iif.mp n7
 nofun
 refine⟨s7 _ _ zac,[(.inl h,.ref b3)],rfl,by simp,?_⟩
 have b3d:b3≠dp:=λz=>by rw[z,zac] at b30;cases b30
 have s67:Same H6 (upd H7 dp (.dK (zbB [] [(.inl h,.ref b3)]))):=(u0.trans s7).put hdp
 have s07:=s06.trans s67
 nofun
 refine⟨dp,_,ch1 h (zaz 6),rfl,zac,zle (zan 6) (by rw[zam b3d];exact b31),λea H8 s8 ea0 hE=>?_⟩
 have s08:=s07.trans s8
 have m9:∀ l∈zaG (ch1 h (zaz 6)),l.length=9:=za7 (λi=>zan i) (zeY (zan 6))
 have msm:∀ l∈zaG (ch1 h (zaz 6)),Sm l:=za7 (λi=>zb1 i) (zeY (zb1 6))
 nofun
 refine⟨aa,ea,after,zaG (ch1 h (zaz 6)),rfl,Rep.same s08 _ hA,hE.rep,by omega,λl hl=>⟨a9 l hl,zdi msm⟩,zbi _,m9,λv H9 s9 n9=>?_⟩
 have gv:=New.rep (K:=K) n9
 obtain⟨ga,rfl⟩:∃ b,v=.ref b:=by obtain⟨b,_,e,_⟩:=New.news n9;exact⟨b,e⟩
 have s09:=s08.trans s9
 have s69:=s67.trans (s8.trans s9)
 nofun
 refine⟨(by walk_at "sm"),λp5 hp5=>?_⟩
 have t5:=zaf hp5 (.lst [V.ref fa,.ref ta])
 obtain⟨xs,hxs,lxs⟩:=(hN.same s09).len
 nofun
 refine zbe (t5 _ _ hxs) zac (zaj (by simp;omega)) λp6 hp6=>?_
 have hL:=Ls.more (p:=p6) (bs:=[fa,ta]) (ms:=[zd8 lo,zfS hi]) ((hN.same s09).same t5) (t5 _ _ hxs) rfl (zcB (t5 _ _ (s69 _ _ (s36 _ _ fa1))) (t5 _ _ (s69 _ _ ta1))) hp6
 have t6:=zaf hp6 (.lst (xs++[V.ref fa,.ref ta]))
 have t56:=t5.trans t6
 nofun
 refine⟨ga,p6,_,notes++[zd8 lo,zfS hi],rfl,Rep.same t56 _ gv,hL.rep,by simp;omega,by simp;omega,λv Ha sa na'=>?_⟩
 exact q _ _ (s09.trans (t56.trans sa)) (na'.back (s09.trans t56))
inductive Q31 (K:Fg)(vs:List V)(H:Hp)(Q:VK)(E:XK):Prop
 | mk (la na ta aa:Addr) (line:List Int) (notes there after:List (List Int)):vs=[.ref la,.ref na,.ref ta,.ref aa]->H la=some (.lst (line.map V.int))->line.length=9->Ls H na notes->Rep K H (zax there) (.ref ta)->Rep K H (zax after) (.ref aa)->notes.length<=100->there.length<=100->after.length<=100->(∀ v H',Same H H'->New H H' (.lst ((there.map λg=>zdn g (notes++[line]))++after.map λg=>zdn g (notes++[zfR line]))) v->Q v H')->Q31 K vs H Q E
include B Z in
theorem zgu (Q3:Fn P w K mg b8 "summed" ["lines","weights"] 1 (Q1 K))(Q36:Fn P w K mg b8 "each_from" ["goals","hypotheses"] 2 (Q35 K))(Q3b:Fn P w K mg b8 "constant" ["number"] 1 (zb7 K))(F:Fun K "turn_duties" "turn_duties" zcq f fd)(m:mg "turn_duties"=some (.ref f)):Fn P w K mg b8 "turn_duties" ["line","notes","there","after"] 3 (Q31 K):=by
 refine Fn.of (k:=2) F zd0 m (λ_ _ _ _ _ _ us hl=>(by obtain⟨_,_,_,_,rfl⟩:=len4 hl;rfl)) (λvs H Q E h=>?_) (λcdv A outer s H vs Q E hr h=>?_)
 ·first
  | (obtain⟨_,_,_,_,_,_,_,_,rfl,_⟩:=h;rfl)
 obtain⟨la,na,ta,aa,line,notes,there,after,rfl,hla,l9,hN,hT,hA,ln,lt,lf,q⟩:=h
 refine⟨_,(zae (zat (i:=4) zd0.nd rfl (Or.inl rfl) (zak Q3 hr rfl (zcQ (zaL (zab (pv 0) (zaF (zak Q3b hr rfl (zao zag zaa)) zaa))) (zcQ (zaL (ziF (zfp zdq zag) (ziF (zfp zdq zag) zaa))) zaa))))
   (zah (zap (zaS (zaV K) (zak Q36 hr rfl (zab (pv 2) (zbt (zaS (zaV K) (pv 1) (zaL (zab (pv 0) zaa))) zaa))) (zak Q36 hr rfl (zab (pv 3) (zbt (zaS (zaV K) (pv 1) (zaL (zab (pv 4) zaa))) zaa))))))),?_⟩
 walk_at "q"
 nofun
 refine zeZ λv H1 s1 n1=>?_
 obtain⟨ca,rfl,ca0,ca1⟩:=New.iif.mp n1
 nofun
 refine⟨(by walk_at "sm"),λp hp=>?_⟩
 have t1:=zaf hp (.lst [V.ref la,.ref ca])
 nofun
 refine⟨(by walk_at "sm"),λp2 hp2=>?_⟩
 have t2:=zaf hp2 (.lst [V.int (-1),.int (-1)])
 have s12:=s1.trans (t1.trans t2)
 nofun
 refine⟨p,p2,[line,kL 1],[-1,-1],rfl,zc3 (bs:=[la,ca]) (t2 _ _ zac) rfl (zcB (s12 _ _ hla) ((t1.trans t2) _ _ ca1)),SqL.of zac,rfl,by simp,λl hl=>?_,λi l w _ e2 n _=>?_,λv H2 s2 n2=>?_⟩
 ·simp at hl;rcases hl with rfl | rfl
  ·exact l9
  ·exact zbc 1
 ·have:w=-1:=by
   have:=zmg e2
   simp at this;exact this
  subst this;exact .inr ⟨by decide,by decide⟩
 obtain⟨ba,rfl,ba0,ba1⟩:=New.iif.mp n2
 have sA:=s12.trans s2
 obtain⟨xs,hxs,lxs⟩:=(hN.same sA).len
 nofun
 refine⟨(by walk_at "sm"),λp3 hp3=>?_⟩
 have t3:=zaf hp3 (.lst [V.ref la])
 nofun
 refine zbe (t3 _ _ hxs) zac (zaj (by simp;omega)) λp4 hp4=>?_
 have hL4:=Ls.more (p:=p4) (bs:=[la]) (ms:=[line]) ((hN.same sA).same t3) (t3 _ _ hxs) rfl (zfk (t3 _ _ (sA _ _ hla))) hp4
 have t4:=zaf hp4 (.lst (xs++[V.ref la]))
 have sB:=sA.trans (t3.trans t4)
 nofun
 refine⟨ta,p4,there,notes++[line],rfl,Rep.same sB _ hT,hL4.rep,by omega,by simp;omega,λv1 H3 s3 n3=>?_⟩
 have sC:=sB.trans s3
 have sAC:=(t3.trans t4).trans s3
 nofun
 refine⟨(by walk_at "sm"),λp5 hp5=>?_⟩
 have t5:=zaf hp5 (.lst [V.ref ba])
 nofun
 refine zbe (t5 _ _ (sAC _ _ hxs)) zac (zaj (by simp;omega)) λp6 hp6=>?_
 have hL6:=Ls.more (p:=p6) (bs:=[ba]) (ms:=[zfR line]) ((hN.same sC).same t5) (t5 _ _ (sAC _ _ hxs)) rfl (zfk (t5 _ _ (sAC _ _ ba1))) hp6
 have t6:=zaf hp6 (.lst (xs++[V.ref ba]))
 have t56:=t5.trans t6
 nofun
 refine⟨aa,p6,after,notes++[zfR line],rfl,Rep.same (sC.trans t56) _ hA,hL6.rep,by omega,by simp;omega,λv2 H4 s4 n4=>?_⟩
 obtain⟨a1,vs1,f1,rfl,z1,y1,r1,_⟩:=New.lso n3
 obtain⟨a2,vs2,f2,rfl,z2,y2,r2,_⟩:=New.lso n4
 have l1:=r1.length
 have l2:=r2.length
 simp only[zlm] at l1 l2
 have sD:=t56.trans s4
 nofun
 refine zbe (sD _ _ y1) y2 (zaj (by omega)) λp7 hp7=>?_
 exact q _ _ ((sC.trans sD).trans (zaf hp7 _)) (New.cat (n3.back sB) sC sD (n4.back t56) (sD _ _ y1) y2 hp7)
theorem zmf:decide (("part" : Str) ="set")=false/\decide (("draw" : Str) ="set")=false/\decide (("draw" : Str) ="part")=false/\decide (("turn" : Str) ="set")=false/\decide (("turn" : Str) ="part")=false/\decide (("turn" : Str) ="draw")=false/\decide (("hold" : Str) ="set")=false/\decide (("hold" : Str) ="part")=false/\decide (("hold" : Str) ="draw")=false/\decide (("hold" : Str) ="turn")=false/\decide (("call" : Str) ="set")=false/\decide (("call" : Str) ="part")=false/\decide (("call" : Str) ="draw")=false/\decide (("call" : Str) ="turn")=false/\decide (("call" : Str) ="hold")=false:=by decide +kernel
inductive Q2b (K:Fg)(C:Nat->Addr)(vs:List V)(H:Hp)(Q:VK)(E:XK):Prop
 | mk (p ca:Addr) (place:Nat) (needs leaves:List (List Int)) (deeds:List Dd) (notes:List (List (List Int))) (kvs:List (Key × V)) (oath:Oath) (d:Dd):vs=[.ref p,.int place,.ref ca]->zdA K (C 0) H p needs leaves deeds notes->Good needs leaves deeds.length notes->deeds[place]?=some d->dOk deeds.length d->H ca=some (.dK kvs)->zk6 K (C 0) H kvs oath d->(∀ v H',Same H H'->New H H' (.lst (zeu (dueL leaves notes place) (dueL leaves notes (place+1)) (dueL leaves notes) oath d)) v->Q v H')->Q2b K C vs H Q E
include B Z in
theorem zgv (Q27:Fn P w K mg b8 "due_at" ["craft","place"] 3 (Q26 K C))(Q34:Fn P w K mg b8 "call_duties" ["deed","notes","after","other"] 4 (Q33 K C))(Q36:Fn P w K mg b8 "each_from" ["goals","hypotheses"] 2 (Q35 K))(Q2e:Fn P w K mg b8 "part_duties" ["deed","notes","after"] 4 (Q2d K))(Q30:Fn P w K mg b8 "draw_duties" ["deed","notes","after"] 4 (Q2f K))(Q32:Fn P w K mg b8 "turn_duties" ["line","notes","there","after"] 3 (Q31 K))(Q38:Fn P w K mg b8 "all_turned" ["lines","eight"] 3 (Q37 K))(Q3a:Fn P w K mg b8 "eight_with" ["changes"] 2 (Q39 K))(F:Fun K "deed_duties" "deed_duties" zcn f fd)(m:mg "deed_duties"=some (.ref f)):Fn P w K mg b8 "deed_duties" ["craft","place","crafts"] 5 (Q2b K C):=by
 refine Fn.of (k:=4) F zbE m (λ_ _ _ _ _ _ us hl=>(by obtain⟨_,_,_,rfl⟩:=len3 hl;rfl)) (λvs H Q E h=>?_) (λcdv A outer s H vs Q E hr h=>?_)
 ·first
  | (obtain⟨_,_,_,_,_,_,_,_,_,_,rfl,_⟩:=h;rfl)
 obtain⟨p,ca,place,needs,leaves,deeds,notes,kvs,oath,d,rfl,hT,hg,hd,ok,hca,hcl,q⟩:=h
 refine⟨_,(zae (zat (i:=3) zbE.nd rfl (Or.inl rfl) (zaH (k_ix K) (zbk K (pv 0) rfl) (pv 1) (λ_ _=>rfl)))
   (zae (zat (i:=4) zbE.nd rfl (Or.inl rfl) (zak Q27 hr rfl (zab (pv 0) (zab (pv 1) zaa))))
   (zae (zat (i:=5) zbE.nd rfl (Or.inl rfl) (zak Q27 hr rfl (zab (pv 0) (zbt (zaS (zaV K) (pv 1) zag) zaa))))
   (zae (zat (i:=6) zbE.nd rfl (Or.inl rfl) (zaH (k_ix K) (pv 3) zag (λ_ _=>rfl)))
   (zae (zbj (zaM (k_eq K hr) (pv 6) zb3 (zaD _)) (zah (zap (zak Q36 hr rfl (zaF (zak Q38 hr rfl (zab (pv 5) (zaF (zak Q3a hr rfl (zbd (zeL (zbU (zaH (k_ix K) (pv 3) zag (λ_ _=>rfl)) (zaH (k_ix K) (pv 3) zag (λ_ _=>rfl)) zeK) rfl rfl (by simp) (by simp)) zaa)) zaa))) (zab (pv 4) zaa))))) zaB)
   (zae (zbj (zaM (k_eq K hr) (pv 6) zb3 (zaD _)) (zah (zap (zak Q2e hr rfl (zab (pv 3) (zab (pv 4) (zab (pv 5) zaa)))))) zaB)
   (zae (zbj (zaM (k_eq K hr) (pv 6) zb3 (zaD _)) (zah (zap (zak Q30 hr rfl (zab (pv 3) (zab (pv 4) (zab (pv 5) zaa)))))) zaB)
   (zae (zbj (zaM (k_eq K hr) (pv 6) zb3 (zaD _)) (zah (zap (zak Q32 hr rfl (za3 (zaH (k_ix K) (pv 3) zag (λ_ _=>rfl)) (zab (pv 4) (zaF (zak Q27 hr rfl (zab (pv 0) (za3 (zaH (k_ix K) (pv 3) zag (λ_ _=>rfl)) zaa))) (zab (pv 5) zaa))))))) zaB)
   (zae (zbj (zaM (k_eq K hr) (pv 6) zb3 (zaD _)) (zah (zap (zaS (zaV K) (zak Q36 hr rfl (zcQ (zaL (za3 (zaH (k_ix K) (pv 3) zag (λ_ _=>rfl)) zaa)) (zab (pv 4) zaa))) (zak Q36 hr rfl (zab (pv 5) (zbt (zaS (zaV K) (pv 4) (zaL (za3 (zaH (k_ix K) (pv 3) zag (λ_ _=>rfl)) zaa))) zaa)))))) zaB)
   (zah (zap (zak Q34 hr rfl (zab (pv 3) (zab (pv 4) (zab (pv 5) (za3 (zd4 (hr_u hr) (pv 2) (zaH (k_ix K) (pv 3) zag (λ_ _=>rfl)) (λ_ _=>rfl)) zaa)))))))))))))))),?_⟩
 obtain⟨k1,k2,k3,k4,k5,k6,k7,k8,k9,k10,k11,k12,k13,k14,k15⟩:=zmf
 have lp:place<deeds.length:=(zge.mp hd).1
 obtain⟨hC,dx,w1,w2,bd,w4,dvs,hp,hbd,hD⟩:=hT
 obtain⟨x,hx,rx⟩:=R2.get hD lp
 rw[List.getElem?_eq_getElem lp] at hd
 cases hd
 generalize hdd:deeds[place]=d at rx ok hcl q
 obtain⟨t,ys,rfl,htup⟩:=zd9 rx
 walk_at "q"
 nofun
 refine⟨p,(C 0),dx,_,_,rfl,hp,Z.c_Craft,Z.n_Craft_deeds,zcd _ _ _ _,?_⟩
 nofun
 refine zgf (SqL.of hbd) (v:=.ref t) (zaJ hx) ?_
 nofun
 have due:∀ {Hx:Hp}{Q':VK}(k:Int),Same H Hx->0<=k->k<=(deeds.length:Int)->(∀ a H',Same Hx H'->Hx a=none->Ls H' a (dueL leaves notes k)->Q' (.ref a) H')->Q26 K C [.ref p,.int k] Hx Q' E0:=λ{Hx Q'} k s k0 kn hq=>
  ⟨p,k,needs,leaves,deeds.map toD,notes,rfl,hC.same s,k0,by rw[zlm];exact kn,by rw[zlm];exact hg.dn,by rw[zlm];have:=hg.d;omega,by have:=hg.l;omega,hg.l9,λls hl=>by have:=(hg.o ls hl).1;omega,λv H' s' n'=>by obtain⟨a,rfl,a0,hL⟩:=n'.ls;exact hq a H' s' a0 hL⟩
 walk_at "q"
 nofun
 refine due _ (Same.refl _) (by omega) (by omega) λna H1 s1 na0 hN=>?_
 nofun
 walk_at "q"
 nofun
 refine due _ s1 (by omega) (by omega) λaa H2 s2 aa0 hA=>?_
 have s02:=s1.trans s2
 have hN2:=hN.same s2
 have gN:=hg.due (place:Int)
 have gA:=hg.due ((place:Int)+1)
 have h2:=s02 _ _ htup
 nofun
 walk_at "q"
 nofun
 refine zaO (SqT.of h2) zbs ?_
 nofun
 have rx2:zaW H2 (toD d) (.ref t):=rx.sq s02.sq
 generalize dueL leaves notes (place:Int)=N at hN2 gN q
 generalize dueL leaves notes ((place:Int)+1)=A at hA gA q
 cases d with
 | set h l=>
  obtain⟨t',xs,et,hT2,px⟩:=zbl rx2
  cases et
  obtain⟨x0,r,rfl,e0,px⟩:=zar px
  obtain⟨x1,r,rfl,e1,px⟩:=zar px
  obtain⟨x2,r,rfl,e2,px⟩:=zar px
  cases zc6 px;cases zbW e0
  cases zbz e1
  obtain⟨b2,rfl,hb2⟩:=zet e2
  with_reducible refine zhW (λQ2 q2=>?_) (λNX=>?_)
  ·nofun
   rw[decide_eq_true (show zbX (Dd.set h l) ="set" from rfl)]
   exact q2
  nofun
  refine zgL λdp hdp=>?_
  have u0:=zaf hdp (.dK [])
  nofun
  refine zaO (SqT.of (u0 _ _ hT2)) (v:=.int h) (zaJ (j:=1) rfl) ?_
  nofun
  refine zaO (SqT.of (u0 _ _ hT2)) (v:=.ref b2) (zaJ (j:=2) rfl) ?_
  nofun
  refine⟨zac,[(.inl h,.ref b2)],rfl,by simp,?_⟩
  have s23:Same H2 (upd (upd H2 dp (.dK [])) dp (.dK (zbB [] [(.inl h,.ref b2)]))):=u0.put hdp
  nofun
  refine⟨dp,_,ch1 h l,rfl,zac,zle ok.1 (s23 _ _ hb2),λea H4 s4 ea0 hE=>?_⟩
  have s24:=s23.trans s4
  nofun
  refine⟨aa,ea,A,zaG (ch1 h l),rfl,(hA.same s24).rep,hE.rep,by omega,λz hz=>⟨gA.2 z hz,zdi (za7 (λi=>zb1 i) (zeY ok.2))⟩,zbi _,za7 (λi=>zan i) (zeY ok.1),λv H5 s5 n5=>?_⟩
  have rv:=New.rep (K:=K) n5
  obtain⟨ga,rfl⟩:∃ b,v=.ref b:=by obtain⟨b,_,e,_⟩:=New.news n5;exact⟨b,e⟩
  have s25:=s24.trans s5
  nofun
  refine⟨ga,na,_,N,rfl,rv,(hN2.same s25).rep,by simp;omega,by omega,λv H6 s6 n6=>?_⟩
  exact q _ _ (s02.trans (s25.trans s6)) (n6.back (s02.trans s25))
 | part h l b=>
  obtain⟨t',xs,et,hT2,px⟩:=zbl rx2
  cases et
  obtain⟨x0,r,rfl,e0,px⟩:=zar px
  obtain⟨x1,r,rfl,e1,px⟩:=zar px
  obtain⟨x2,r,rfl,e2,px⟩:=zar px
  obtain⟨x3,r,rfl,e3,px⟩:=zar px
  cases zc6 px;cases zbW e0
  cases zbz e1
  obtain⟨b2,rfl,hb2⟩:=zet e2
  cases zbz e3
  with_reducible refine zcA (λQ2 q2=>?_) ?_
  ·nofun
   rw[show decide (zbX (Dd.part h l b) ="set")=false from k1]
   exact q2
  with_reducible refine zhW (λQ2 q2=>?_) (λNX=>?_)
  ·nofun
   rw[decide_eq_true (show zbX (Dd.part h l b) ="part" from rfl)]
   exact q2
  nofun
  refine⟨t,na,aa,b2,h,b,l,N,A,rfl,SqT.of hT2,hb2,ok.1,ok.2,hN2,hA.rep,by omega,by omega,gA.2,λv H3 s3 n3=>?_⟩
  exact q _ _ (s02.trans s3) (n3.back s02)
 | draw h lo hi=>
  obtain⟨t',xs,et,hT2,px⟩:=zbl rx2
  cases et
  obtain⟨x0,r,rfl,e0,px⟩:=zar px
  obtain⟨x1,r,rfl,e1,px⟩:=zar px
  obtain⟨x2,r,rfl,e2,px⟩:=zar px
  obtain⟨x3,r,rfl,e3,px⟩:=zar px
  cases zc6 px;cases zbW e0
  cases zbz e1
  cases zbz e2
  cases zbz e3
  with_reducible refine zcA (λQ2 q2=>?_) ?_
  ·nofun
   rw[show decide (zbX (Dd.draw h lo hi) ="set")=false from k2]
   exact q2
  with_reducible refine zcA (λQ2 q2=>?_) ?_
  ·nofun
   rw[show decide (zbX (Dd.draw h lo hi) ="part")=false from k3]
   exact q2
  with_reducible refine zhW (λQ2 q2=>?_) (λNX=>?_)
  ·nofun
   rw[decide_eq_true (show zbX (Dd.draw h lo hi) ="draw" from rfl)]
   exact q2
  nofun
  refine⟨t,na,aa,h,lo,hi,N,A,rfl,SqT.of hT2,hN2,hA.rep,by omega,by omega,gA.2,λv H3 s3 n3=>?_⟩
  exact q _ _ (s02.trans s3) (n3.back s02)
 | turn l p2=>
  obtain⟨t',xs,et,hT2,px⟩:=zbl rx2
  cases et
  obtain⟨x0,r,rfl,e0,px⟩:=zar px
  obtain⟨x1,r,rfl,e1,px⟩:=zar px
  obtain⟨x2,r,rfl,e2,px⟩:=zar px
  cases zc6 px;cases zbW e0
  obtain⟨b1,rfl,hb1⟩:=zet e1
  cases zbz e2
  with_reducible refine zcA (λQ2 q2=>?_) ?_
  ·nofun
   rw[show decide (zbX (Dd.turn l p2) ="set")=false from k4]
   exact q2
  with_reducible refine zcA (λQ2 q2=>?_) ?_
  ·nofun
   rw[show decide (zbX (Dd.turn l p2) ="part")=false from k5]
   exact q2
  with_reducible refine zcA (λQ2 q2=>?_) ?_
  ·nofun
   rw[show decide (zbX (Dd.turn l p2) ="draw")=false from k6]
   exact q2
  with_reducible refine zhW (λQ2 q2=>?_) (λNX=>?_)
  ·nofun
   rw[decide_eq_true (show zbX (Dd.turn l p2) ="turn" from rfl)]
   exact q2
  nofun
  refine zaO (SqT.of hT2) (v:=.ref b1) (zaJ (j:=1) rfl) ?_
  nofun
  refine zaO (SqT.of hT2) (v:=.int p2) (zaJ (j:=2) rfl) ?_
  nofun
  refine due _ s02 ok.2.1 ok.2.2 λta H3 s3 ta0 hTh=>?_
  have gT:=hg.due p2
  have s03:=s02.trans s3
  nofun
  refine⟨b1,na,ta,aa,l,N,_,A,rfl,s3 _ _ hb1,ok.1,hN2.same s3,hTh.rep,(hA.same s3).rep,by omega,by omega,by omega,λv H4 s4 n4=>?_⟩
  exact q _ _ (s03.trans s4) (n4.back s03)
 | hold l=>
  obtain⟨t',xs,et,hT2,px⟩:=zbl rx2
  cases et
  obtain⟨x0,r,rfl,e0,px⟩:=zar px
  obtain⟨x1,r,rfl,e1,px⟩:=zar px
  cases zc6 px;cases zbW e0
  obtain⟨b1,rfl,hb1⟩:=zet e1
  with_reducible refine zcA (λQ2 q2=>?_) ?_
  ·nofun
   rw[show decide (zbX (Dd.hold l) ="set")=false from k7]
   exact q2
  with_reducible refine zcA (λQ2 q2=>?_) ?_
  ·nofun
   rw[show decide (zbX (Dd.hold l) ="part")=false from k8]
   exact q2
  with_reducible refine zcA (λQ2 q2=>?_) ?_
  ·nofun
   rw[show decide (zbX (Dd.hold l) ="draw")=false from k9]
   exact q2
  with_reducible refine zcA (λQ2 q2=>?_) ?_
  ·nofun
   rw[show decide (zbX (Dd.hold l) ="turn")=false from k10]
   exact q2
  with_reducible refine zhW (λQ2 q2=>?_) (λNX=>?_)
  ·nofun
   rw[decide_eq_true (show zbX (Dd.hold l) ="hold" from rfl)]
   exact q2
  nofun
  refine zaO (SqT.of hT2) (v:=.ref b1) (zaJ (j:=1) rfl) ?_
  nofun
  refine⟨(by walk_at "sm"),λp3 hp3=>?_⟩
  have t3:=zaf hp3 (.lst [V.ref b1])
  nofun
  refine⟨p3,na,[l],N,rfl,zc3 (bs:=[b1]) zac rfl (zfk (t3 _ _ hb1)),(hN2.same t3).rep,by simp,by omega,λv1 H3 s3 n3=>?_⟩
  have s23:=t3.trans s3
  nofun
  refine zaO (SqT.of (s23 _ _ hT2)) (v:=.ref b1) (zaJ (j:=1) rfl) ?_
  nofun
  refine⟨(by walk_at "sm"),λp5 hp5=>?_⟩
  have t5:=zaf hp5 (.lst [V.ref b1])
  obtain⟨xs,hxs,lxs⟩:=(hN2.same s23).len
  nofun
  refine zbe (t5 _ _ hxs) zac (zaj (by simp;omega)) λp6 hp6=>?_
  have hL6:=Ls.more (p:=p6) (bs:=[b1]) (ms:=[l]) ((hN2.same s23).same t5) (t5 _ _ hxs) rfl (zfk (t5 _ _ (s23 _ _ hb1))) hp6
  have t6:=zaf hp6 (.lst (xs++[V.ref b1]))
  have t56:=t5.trans t6
  nofun
  refine⟨aa,p6,A,N++[l],rfl,(hA.same (s23.trans t56)).rep,hL6.rep,by omega,by simp;omega,λv2 H4 s4 n4=>?_⟩
  obtain⟨a1,vs1,f1,rfl,z1,y1,r1,_⟩:=New.lso n3
  obtain⟨a2,vs2,f2,rfl,z2,y2,r2,_⟩:=New.lso n4
  have l1:=r1.length
  have l2:=r2.length
  simp only[zlm] at l1 l2
  have sD:=t56.trans s4
  nofun
  refine zbe (sD _ _ y1) y2 (zaj (by simp at l1;omega)) λp7 hp7=>?_
  exact q _ _ ((s02.trans (s23.trans sD)).trans (zaf hp7 _)) (New.cat (n3.back (s02.trans t3)) (s02.trans s23) sD (n4.back t56) (sD _ _ y1) y2 hp7)
 | call m g0 g1 t0 t1=>
  obtain⟨t',xs,et,hT2,px⟩:=zbl rx2
  cases et
  obtain⟨x0,r,rfl,e0,px⟩:=zar px
  obtain⟨x1,r,rfl,e1,px⟩:=zar px
  obtain⟨x2,r,rfl,e2,px⟩:=zar px
  obtain⟨x3,r,rfl,e3,px⟩:=zar px
  cases zc6 px;cases zbW e0
  cases zbz e1
  obtain⟨b2,rfl,hb2⟩:=zh0 e2
  obtain⟨b3,rfl,hb3⟩:=zh0 e3
  with_reducible refine zcA (λQ2 q2=>?_) ?_
  ·nofun
   rw[show decide (zbX (Dd.call m g0 g1 t0 t1) ="set")=false from k11]
   exact q2
  with_reducible refine zcA (λQ2 q2=>?_) ?_
  ·nofun
   rw[show decide (zbX (Dd.call m g0 g1 t0 t1) ="part")=false from k12]
   exact q2
  with_reducible refine zcA (λQ2 q2=>?_) ?_
  ·nofun
   rw[show decide (zbX (Dd.call m g0 g1 t0 t1) ="draw")=false from k13]
   exact q2
  with_reducible refine zcA (λQ2 q2=>?_) ?_
  ·nofun
   rw[show decide (zbX (Dd.call m g0 g1 t0 t1) ="turn")=false from k14]
   exact q2
  with_reducible refine zcA (λQ2 q2=>?_) ?_
  ·nofun
   rw[show decide (zbX (Dd.call m g0 g1 t0 t1) ="hold")=false from k15]
   exact q2
  obtain⟨o,od,ons,hv,hO,hgo⟩:=hcl
  nofun
  refine zaO (SqT.of hT2) (v:=.int m) (zaJ (j:=1) rfl) ?_
  nofun
  refine⟨ca,.ref o,rfl,by rw[<-hv];exact DGet.k (k:=.inl m) (s02 _ _ hca),?_⟩
  nofun
  refine⟨t,na,aa,o,b2,b3,m,g0,g1,t0,t1,N,A,_,_,od,ons,rfl,SqT.of hT2,SqT.of hb2,SqT.of hb3,hN2,hA.rep,by omega,by omega,gN.2,gA.2,hO.same s02,hgo,λv H3 s3 n3=>?_⟩
  exact q _ _ (s02.trans s3) (n3.back s02)
inductive Q28 (K:Fg)(C:Nat->Addr)(vs:List V)(H:Hp)(Q:VK)(E:XK):Prop
  | mk (p ca:Addr) (needs leaves:List (List Int)) (deeds:List Dd) (notes:List (List (List Int))) (kvs:List (Key × V)) (oath:Oath):vs=[.ref p,.ref ca]->zdA K (C 0) H p needs leaves deeds notes->Good needs leaves deeds.length notes->(∀ d∈deeds,dOk deeds.length d)->H ca=some (.dK kvs)->(∀ m∈zaw deeds,m.natAbs<zbb)->(((∃ m∈zaw deeds,valV kvs (.inl m)=none)/\∀ H',Same H H'->E (.ref (C 4)) none H')\/
   ((∀ m∈zaw deeds,(valV kvs (.inl m)).isSome=true)/\(∀ d∈deeds,zk6 K (C 0) H kvs oath d)/\(zfT needs leaves deeds notes oath).length<=1000/\∀ v H',Same H H'->New H H' (.lst (zfT needs leaves deeds notes oath)) v->Q v H'))->Q28 K C vs H Q E
include B Z in
theorem zlg (Qe:Fn P w K mg b8 "called_by" ["craft"] 1 (Qd K C))(Q2a:Fn P w K mg b8 "first_duties" ["craft"] 4 (Q29 K C))(Q2c:Fn P w K mg b8 "deed_duties" ["craft","place","crafts"] 5 (Q2b K C))(F:Fun K "duties" "duties" zfd f fd)(m:mg "duties"=some (.ref f)):Fnx P w K mg b8 "duties" ["craft","crafts"] 6 (Q28 K C):=by
 refine⟨f,fd,F.okx (k:=5) zeB (λvs H Q E h=>?_) (λcdv A outer s H vs Q E hr h=>?_),F.binds λ_ _ _ _ _ _ us hl=>(by obtain⟨_,_,rfl⟩:=len2 hl;rfl),F.kp,m⟩
 ·first
  | (obtain⟨_,_,_,_,_,_,_,_,rfl,_⟩:=h;rfl)
 obtain⟨p,ca,needs,leaves,deeds,notes,kvs,oath,rfl,hT,hg,hok,hca,hm,hc⟩:=h
 refine⟨_,(zae (zcM PassesOwn.leaving rfl (zaK K (zak Qe hr rfl (zab (pv 0) zaa))) (zas (i:=2) zeB.nd rfl (Or.inl rfl)) (zah (zbj (zhw (zfx (hr_u hr) (pv 2) (pv 1))) (zah (zg7 Z.e_Unmet rfl Z.m_Unmet rfl ziD (zbd (zpe (pv 2) (by decide +kernel) (by decide +kernel)) zaa))) zaB)))
   (zae (zat (i:=3) zeB.nd rfl (Or.inl rfl) (zak Q2a hr rfl (zab (pv 0) zaa)))
   (zae (zcM PassesOwn.leaving rfl (zcx rfl B.range (zaF (zaq (zdm K) rfl B.len L2.boot_len (zbo (zbk K (pv 0) rfl) zaa)) zaa)) (zas (i:=4) zeB.nd rfl (Or.inl rfl)) (zah (za9 (zjE PySem.F.plainAttrs_list PySem.F.slot_list_extend PySem.F.type_list_extend zhH (pv 3) (zaF (zak Q2c hr rfl (zab (pv 0) (zab (pv 4) (zab (pv 1) zaa)))) zaa)))))
   (zah (zap (pv 3)))))),?_⟩
 have hT0:=hT
 obtain⟨hC,dx,w1,w2,bd,w4,dvs,hp,hbd,hD⟩:=hT
 walk_at "q"
 nofun
 refine⟨p,dx,bd,w1,w2,w4,dvs,deeds,rfl,hp,hbd,hD,by have:=hg.d;omega,λv H1 s1 n1=>?_⟩
 obtain⟨la,rfl,la0,la1⟩:=New.iif.mp n1
 have lc:(zaw deeds).length<=deeds.length:=List.length_filterMap_le _ _
 refine⟨la,rfl,⟨_,SqL.of la1⟩,?_⟩
 refine zg1 (zay (SqL.of la1)) (λi σ H2=>∃ x,A3 (σ=[some (.ref p),some (.ref ca),x,none,none]) (Same H1 H2) (∀ m∈(zaw deeds).take i,(valV kvs (.inl m)).isSome=true))
  ⟨none,rfl,Same.refl _,λm hm=>by simp at hm⟩ (λi σ H2 ⟨_,_,e,_⟩=>e) ?_ ?_
 ·rintro i v σ H2 H3 hi ⟨x,rfl,s2,hpre⟩ s3 hv
  rw[zgm] at hv
  obtain⟨m,hm',rfl⟩:=zme.mp hv
  have mm:=zmg hm'
  have s03:=s1.trans (s2.trans s3)
  nofun
  refine⟨ca,_,rfl,DGet.k (k:=.inl m) (s03 _ _ hca),?_⟩
  cases hv':valV kvs (.inl m) with
  | none=>
   nofun
   refine zdS (λ_=>?_) (λz=>by cases z)
   nofun
   refine⟨hm m mm,λz=>?_⟩
   nofun
   refine⟨(by walk_at "sm"),?_⟩
   rcases hc with ⟨_,hE⟩ | ⟨hB,_⟩
   ·exact hE _ s03
   ·have:=hB m mm
    rw[hv'] at this;cases this
  | some y=>
   nofun
   refine zdS (λz=>by cases z) (λ_=>?_)
   nofun
   refine⟨_,rfl,s2.trans s3,λk hk=>?_⟩
   rw[List.take_add_one,hm'] at hk
   rcases zma.mp hk with hk | hk
   ·exact hpre k hk
   ·simp at hk;subst hk;rw[hv'];rfl
 rintro σ H2 ⟨x,rfl,s2,hall⟩
 rw[zlm,List.take_of_length_le (Nat.le_refl _)] at hall
 rcases hc with ⟨⟨m,mm,hn⟩,_⟩ | ⟨_,hcl,hlen,q⟩
 ·have:=hall m mm
  rw[hn] at this;cases this
 have s02:=s1.trans s2
 walk_at "q"
 nofun
 refine⟨p,needs,leaves,deeds.map toD,notes,rfl,hC.same s02,by rw[zlm];exact hg,λv H3 s3 n3=>?_⟩
 have s03:=s02.trans s3
 obtain⟨ta,tvs,rfl,ta0,ac⟩:=(n3.back s02).acc
 nofun
 walk_at "q"
 nofun
 refine⟨p,(C 0),dx,_,_,rfl,s03 _ _ hp,Z.c_Craft,Z.n_Craft_deeds,zcd _ _ _ _,?_⟩
 nofun
 refine zdR (.inl (SqL.of (s03 _ _ hbd))) ?_
 rw[<-hD.1]
 refine zd5 (by omega) (by have:=hg.d;omega) ?_
 refine zg3 (λi σ H4=>∃ x y vs,i<=deeds.length/\σ=[some (.ref p),some (.ref ca),x,some (.ref ta),y]/\Same H H4/\Free H H4/\Acc H ta H4 (zh2 needs leaves notes++za0 leaves notes oath (deeds.take i) 0) vs)
  ⟨_,none,tvs,Nat.zero_le _,rfl,s03,s03.fr,by rw[List.take_zero];show Acc H ta H3 (_++[]) tvs;rw[List.append_nil];exact ac⟩ ?_ ?_
 ·rintro i σ H4 hi ⟨x',y,vs,him,rfl,s4,f4,ac4⟩
  have hi':i<deeds.length:=by have:i<((deeds.length:Int)).toNat:=hi;omega
  have eT:deeds=deeds.take i++deeds[i]::deeds.drop (i+1):=by rw[List.getElem_cons_drop,List.take_append_drop]
  have eS:deeds.take (i+1)=deeds.take i++[deeds[i]]:=by rw[List.take_add_one,List.getElem?_eq_getElem hi'];rfl
  have step:za0 leaves notes oath (deeds.take (i+1)) 0=za0 leaves notes oath (deeds.take i) 0++zeu (dueL leaves notes i) (dueL leaves notes ((i:Int)+1)) (dueL leaves notes) oath deeds[i]:=by
   rw[eS,zea]
   congr 1
   show zeu _ _ _ _ _++[]=_
   rw[List.append_nil,List.length_take,Nat.zero_add,Nat.min_eq_left (by omega)]
  have short:(zh2 needs leaves notes++za0 leaves notes oath (deeds.take (i+1)) 0).length<=1000:=by
   refine Nat.le_trans ?_ hlen
   unfold zfT
   have:=zea leaves notes oath (deeds.take (i+1)) (deeds.drop (i+1)) 0
   rw[List.take_append_drop] at this
   rw[this]
   simp only[List.length_append];omega
  nofun
  refine⟨tyL ac4.get,?_⟩
  nofun
  rw[Int.zero_add]
  refine⟨p,ca,i,needs,leaves,deeds,notes,kvs,oath,deeds[i],rfl,zdA.same s4 hT0,hg,List.getElem?_eq_getElem hi',hok _ (List.getElem_mem hi'),s4 _ _ hca,(hcl _ (List.getElem_mem hi')).same s4,λv H5 s5 n5=>?_⟩
  obtain⟨b,zs,rfl,b0,ab⟩:=n5.acc
  have lz:=ab.len
  have lv:=ac4.len
  nofun
  refine⟨ta,b,vs,zs,rfl,rfl,s5 _ _ ac4.get,ab.get,?_,?_⟩
  ·rw[step] at short
   simp only[List.length_append] at short lv
   exact zaj (by omega)
  ·refine⟨_,_,vs++zs,hi',rfl,(s4.trans s5).put ta0,f4.trans (s5.fr.trans zfi),?_⟩
   rw[step,<-List.append_assoc]
   exact ac4.ext f4 s5 n5 ab.get
 ·rintro σ H4 ⟨x',y,vs,him,rfl,s4,f4,ac4⟩
  nofun
  refine q _ _ s4 ?_
  rw[show ((deeds.length:Int)).toNat=deeds.length by omega,List.take_of_length_le (Nat.le_refl _)] at ac4
  exact ac4.new ta0
--LEN (rcases h with ⟨_, rfl, _⟩ | ⟨_, _, _, _, _, _, _, _, _, _, rfl, _⟩ <;> rfl)
def CB (w:Int):Prop:=-(2 ^ 62)<w/\w<2 ^ 62
def zjr (K:Fg):Sp:=λvs H Q _=>(∃ d,vs=[d,.non]/\Q (.bl false) H)\/∃ (d r ga ha wa:Addr) (goal:List Int) (hyps:List (List Int)) (xs:List V) (whole:Int) (ws:List Int),vs=[.ref d,.ref r]/\SqT K H d [.ref ga,.ref ha]/\H ga=some (.lst (goal.map V.int))/\H ha=some (.lst xs)/\Reps K H (hyps.map nums) xs/\SqT K H r [.int whole,.ref wa]/\SqL K H wa (ws.map V.int)/\goal.length=9/\(∀ l∈hyps,l.length=9)/\hyps.length<=100/\ws.length<=1000/\CB whole/\(∀ w∈ws,CB w)/\
 ∀ H',Same H H'->Q (.bl (zfP goal hyps whole ws)) H'
theorem znO (ws:List Int):(ws.map λw=>decide (w<0)).any id=!ws.all λw=>decide (0<=w):=by
 induction ws with
 | nil=>rfl
 | cons w ws ih=>
  rw[zmc,List.any_cons,ih,List.all_cons,Bool.not_and]
  congr 1
  by_cases h:w<0
  ·rw[id,decide_eq_true h,decide_eq_false (by omega)];rfl
  ·rw[id,decide_eq_false h,decide_eq_true (by omega)];rfl
theorem zpt:(List.replicate (8:Int).toNat [V.int 0]).flatten=(List.replicate 8 (0:Int)).map V.int:=rfl
include B Z in
theorem zmh (Q3:Fn P w K mg b8 "summed" ["lines","weights"] 1 (Q1 K))(F:Fun K "shows" "shows" zdp f fd)(m:mg "shows"=some (.ref f)):Fn P w K mg b8 "shows" ["duty","row"] 2 (zjr K):=by
 refine Fn.of (k:=1) F zbY m (λ_ _ _ _ _ _ us hl=>(by obtain⟨_,_,rfl⟩:=len2 hl;rfl)) (λvs H Q E h=>?_) (λcdv A outer s H vs Q E hr h=>?_)
 ·first
  | (rcases h with ⟨_,rfl,_⟩ | ⟨_,_,_,_,_,_,_,_,_,_,rfl,_⟩ <;> rfl)
  | (obtain⟨rfl,_⟩:=h;rfl)
  | (obtain⟨_,rfl,_⟩:=h;rfl)
  | (obtain⟨_,_,rfl,_⟩:=h;rfl)
  | (obtain⟨_,_,_,rfl,_⟩:=h;rfl)
  | (obtain⟨_,_,_,_,rfl,_⟩:=h;rfl)
  | (obtain⟨_,_,_,_,_,rfl,_⟩:=h;rfl)
  | (obtain⟨_,_,_,_,_,_,rfl,_⟩:=h;rfl)
  | (obtain⟨_,_,_,_,_,_,_,rfl,_⟩:=h;rfl)
  | (obtain⟨_,_,_,_,_,_,_,_,rfl,_⟩:=h;rfl)
  | (obtain⟨_,_,_,_,_,_,_,_,_,rfl,_⟩:=h;rfl)
  | (obtain⟨_,_,_,_,_,_,_,_,_,_,rfl,_⟩:=h;rfl)
  | (obtain⟨_,_,_,_,_,_,_,_,_,_,_,rfl,_⟩:=h;rfl)
  | (obtain⟨_,_,_,_,_,_,_,_,_,_,_,_,rfl,_⟩:=h;rfl)
  | (obtain⟨_,_,_,_,_,_,_,_,_,_,_,_,_,rfl,_⟩:=h;rfl)
  | (obtain⟨_,_,_,_,_,_,_,_,_,_,_,_,_,_,rfl,_⟩:=h;rfl)
  | (obtain⟨_,_,_,_,_,_,_,_,_,_,_,_,_,_,_,rfl,_⟩:=h;rfl)
  | (obtain⟨_,_,_,_,_,_,_,_,_,_,_,_,_,_,_,_,rfl,_⟩:=h;rfl)
 rcases h with ⟨d,rfl,q⟩ | ⟨d,r,ga,ha,wa,goal,hyps,xs,whole,ws,rfl,hd,hga,hha,hx,hrr,hwa,l9,h9,hl,hlw,cw,cws,q⟩
 ·refine⟨_,(zae (zbj (zaM zmq (pv 1) zfo (zaD _)) (zah (zap zfn)) zaB)
   (zae (zat (i:=2) zbY.nd rfl (Or.inl rfl) (zaH (k_ix K) (pv 0) zag (λ_ _=>rfl)))
   (zae (zat (i:=3) zbY.nd rfl (Or.inl rfl) (zaH (k_ix K) (pv 0) zag (λ_ _=>rfl)))
   (zae (zat (i:=4) zbY.nd rfl (Or.inl rfl) (zaH (k_ix K) (pv 1) zag (λ_ _=>rfl)))
   (zae (zat (i:=5) zbY.nd rfl (Or.inl rfl) (zaH (k_ix K) (pv 1) zag (λ_ _=>rfl)))
   (zae (zbj (PW.pt (zkd (zaM zkk (pv 4) zag (zaD _)) (zkd (zaM (k_ne K hr) (zaq (zdm K) rfl B.len L2.boot_len (zab (pv 5) zaa)) (zaq (zdm K) rfl B.len L2.boot_len (zab (pv 3) zaa)) (zaD _)) (zkb (zcZ (zaq (znr K rfl) rfl B.any L2.zg4 (zbn (zaN rfl (COk.m (sc0:=zad zdp) (N:=["duty","row","goal","hypotheses","whole","weights","rest"]) (N':=["duty","row","goal","hypotheses","whole","weights","rest","weight"]) (ms:=[false,false,false,false,false,false,false,true])) (zaK K (pv 5)) (λ_ _ _ _ _=>(zas (i:=7) (ndS (N:=["duty","row","goal","hypotheses","whole","weights","rest","weight"])) rfl (Or.inl rfl))) (λ_ _ _ _ _=>zav) (λ_ _ _ _ _=>(zba zkk (pv 7) zag (zaD _)))) zaa))))))) (zah (zap zfn)) zaB)
   (zae (zat (i:=6) zbY.nd rfl (Or.inl rfl) (zak Q3 hr rfl (zbt (zaS (zaV K) (zaL (zab (pv 2) zaa)) (pv 3)) (zbt (zaS (zaV K) (zaL (zab (pv 4) zaa)) (zaN rfl (COk.m (sc0:=zad zdp) (N:=["duty","row","goal","hypotheses","whole","weights","rest"]) (N':=["duty","row","goal","hypotheses","whole","weights","rest","weight"]) (ms:=[false,false,false,false,false,false,false,true])) (zaK K (pv 5)) (λ_ _ _ _ _=>(zas (i:=7) (ndS (N:=["duty","row","goal","hypotheses","whole","weights","rest","weight"])) rfl (Or.inl rfl))) (λ_ _ _ _ _=>zav) (λ_ _ _ _ _=>(zfp zdq (pv 7))))) zaa))))
   (zah (zap (zbq (zba zmX (zaH (k_ix K) (pv 6) zag (λ_ _=>rfl)) (zfp zdq (pv 4)) (zaD _)) (zbD (zba (k_eq K hr) (zgV (k_sl K) (pv 6) (ziv zag) ziu) (zaS zcP (zaL (zao zag zaa)) (zaY rfl B.c_FACTORS)) (zaD _))))))))))))),?_⟩
  ac_rfl
  refine⟨rfl,?_⟩
  rw[znz]
  ac_rfl
  exact q
 refine⟨_,(zae (zbj (zaM zmq (pv 1) zfo (zaD _)) (zah (zap zfn)) zaB)
   (zae (zat (i:=2) zbY.nd rfl (Or.inl rfl) (zaH (k_ix K) (pv 0) zag (λ_ _=>rfl)))
   (zae (zat (i:=3) zbY.nd rfl (Or.inl rfl) (zaH (k_ix K) (pv 0) zag (λ_ _=>rfl)))
   (zae (zat (i:=4) zbY.nd rfl (Or.inl rfl) (zaH (k_ix K) (pv 1) zag (λ_ _=>rfl)))
   (zae (zat (i:=5) zbY.nd rfl (Or.inl rfl) (zaH (k_ix K) (pv 1) zag (λ_ _=>rfl)))
   (zae (zbj (PW.pt (zkd (zaM zkk (pv 4) zag (zaD _)) (zkd (zaM (k_ne K hr) (zaq (zdm K) rfl B.len L2.boot_len (zab (pv 5) zaa)) (zaq (zdm K) rfl B.len L2.boot_len (zab (pv 3) zaa)) (zaD _)) (zkb (zcZ (zaq (znr K rfl) rfl B.any L2.zg4 (zbn (zaN rfl (COk.m (sc0:=zad zdp) (N:=["duty","row","goal","hypotheses","whole","weights","rest"]) (N':=["duty","row","goal","hypotheses","whole","weights","rest","weight"]) (ms:=[false,false,false,false,false,false,false,true])) (zaK K (pv 5)) (λ_ _ _ _ _=>(zas (i:=7) (ndS (N:=["duty","row","goal","hypotheses","whole","weights","rest","weight"])) rfl (Or.inl rfl))) (λ_ _ _ _ _=>zav) (λ_ _ _ _ _=>(zba zkk (pv 7) zag (zaD _)))) zaa))))))) (zah (zap zfn)) zaB)
   (zae (zat (i:=6) zbY.nd rfl (Or.inl rfl) (zak Q3 hr rfl (zbt (zaS (zaV K) (zaL (zab (pv 2) zaa)) (pv 3)) (zbt (zaS (zaV K) (zaL (zab (pv 4) zaa)) (zaN rfl (COk.m (sc0:=zad zdp) (N:=["duty","row","goal","hypotheses","whole","weights","rest"]) (N':=["duty","row","goal","hypotheses","whole","weights","rest","weight"]) (ms:=[false,false,false,false,false,false,false,true])) (zaK K (pv 5)) (λ_ _ _ _ _=>(zas (i:=7) (ndS (N:=["duty","row","goal","hypotheses","whole","weights","rest","weight"])) rfl (Or.inl rfl))) (λ_ _ _ _ _=>zav) (λ_ _ _ _ _=>(zfp zdq (pv 7))))) zaa))))
   (zah (zap (zbq (zba zmX (zaH (k_ix K) (pv 6) zag (λ_ _=>rfl)) (zfp zdq (pv 4)) (zaD _)) (zbD (zba (k_eq K hr) (zgV (k_sl K) (pv 6) (ziv zag) ziu) (zaS zcP (zaL (zao zag zaa)) (zaY rfl B.c_FACTORS)) (zaD _))))))))))))),?_⟩
 have lx:=hx.length
 rw[zlm] at lx
 ac_rfl
 refine⟨rfl,?_⟩
 rw[zkW]
 ac_rfl
 refine zaO hd zbs ?_
 ac_rfl
 refine zaO hd (v:=.ref ha) (zaJ (j:=1) rfl) ?_
 ac_rfl
 refine zaO hrr zbs ?_
 ac_rfl
 refine zaO hrr (v:=.ref wa) (zaJ (j:=1) rfl) ?_
 ac_rfl
 have no:rowB hyps whole ws=false->∀ H',Same H H'->Q (.bl false) H':=λe H' s=>by
  have:=q H' s
  unfold zfP at this
  rwa [e,Bool.false_and] at this
 refine zdS (λe=>?_) (λe=>?_)
 ·ac_rfl
  refine no ?_ _ (Same.refl _)
  unfold rowB
  rw[decide_eq_false (by have:=of_decide_eq_true e;omega)];rfl
 have w1:1<=whole:=by have:=of_decide_eq_false e;omega
 ac_rfl
 refine zdR (.inl hwa) ?_
 ac_rfl
 refine zdR (.inl (SqL.of hha)) ?_
 ac_rfl
 refine zdS (λe=>?_) (λe=>?_)
 ·ac_rfl
  refine no ?_ _ (Same.refl _)
  have e1:¬ ((((ws.map V.int).length:Nat):Int)=(xs.length:Int)):=by simpa using e
  unfold rowB
  rw[decide_eq_false (show ¬ (ws.length=hyps.length) by rw[zlm] at e1;omega),Bool.false_and,Bool.and_false]
 have e1:(((ws.map V.int).length:Nat):Int)=(xs.length:Int):=by simpa using e
 have lw:ws.length=hyps.length:=by rw[zlm] at e1;omega
 ac_rfl
 refine⟨wa,rfl,⟨_,hwa⟩,?_⟩
 refine zaA (zay hwa) ((ws.map λw=>decide (w<0)).map D.bl) (by simp) (zaj (by simp;omega)) (λj x d' H4 R hj hd' s4 hx' hR=>?_) (λv H4 s4 n4=>?_)
 ·rw[zgm] at hx'
  obtain⟨w,hw,rfl⟩:=zme.mp hx'
  rw[zgm,zgm,hw] at hd'
  cases hd'
  ac_rfl
  exact hR _ _ (Same.refl _) New.bl
 obtain⟨ba,rfl,ba0,ba1⟩:=New.bls n4
 ac_rfl
 refine zoT (SqL.of ba1) ?_
 rw[znO]
 ac_rfl
 refine zdS (λe=>?_) (λe=>?_)
 ·ac_rfl
  refine no ?_ _ s4
  unfold rowB
  rw[show (ws.all λw=>decide (0<=w))=false by simpa using e,Bool.and_false,Bool.and_false]
 have hrow:rowB hyps whole ws=true:=by
  unfold rowB
  rw[decide_eq_true w1,decide_eq_true lw,show (ws.all λw=>decide (0<=w))=true by simpa using e];rfl
 ac_rfl
 refine⟨(by walk_at "sm"),λp hp=>?_⟩
 have s5:=s4.trans (zaf hp (.lst [.ref ga]))
 ac_rfl
 refine zbe zac (s5 _ _ hha) (zaj (by simp;omega)) λp2 hp2=>?_
 have s6:=s5.trans (zaf hp2 (.lst ([.ref ga]++xs)))
 ac_rfl
 refine⟨(by walk_at "sm"),λp3 hp3=>?_⟩
 have s7:=s6.trans (zaf hp3 (.lst [.int whole]))
 ac_rfl
 refine⟨wa,rfl,⟨_,s7.seq hwa⟩,?_⟩
 refine zaA (zay (s7.seq hwa)) ((negs ws).map D.int) (by simp[negs]) (zaj (by simp;omega)) (λj x d' H8 R hj hd' s8 hx' hR=>?_) (λv H8 s8 n8=>?_)
 ·rw[zgm] at hx'
  obtain⟨w,hw,rfl⟩:=zme.mp hx'
  unfold negs at hd'
  rw[zgm,zgm,hw] at hd'
  cases hd'
  ac_rfl
  exact hR _ _ (Same.refl _) New.int
 obtain⟨na,rfl,na0,na1⟩:=New.iif.mp n8
 ac_rfl
 refine zbe (s8 _ _ zac) na1 (zaj (by simp[negs];omega)) λp4 hp4=>?_
 have s9:=s8.trans (zaf hp4 (.lst ([.int whole]++(negs ws).map V.int)))
 have s09:=s7.trans s9
 ac_rfl
 have hL:Rep K (upd H8 p4 (.lst ([.int whole]++(negs ws).map V.int))) (.lst ((goal::hyps).map nums)) (.ref p2):=by
  unfold Rep
  refine⟨p2,[.ref ga]++xs,rfl,SqL.of (s9 _ _ (zaf hp3 _ _ _ zac)),?_⟩
  rw[zmc]
  unfold Reps
  exact⟨_,_,rfl,za5.mpr ⟨ga,rfl,SqL.of (s09 _ _ hga)⟩,Reps.same s09 _ hx⟩
 refine⟨p2,p4,goal::hyps,whole::negs ws,rfl,hL,SqL.of zac,by simp[negs];omega,by simp;omega,λl hl=>?_,λi l w e1 e2 n hn=>?_,λv Ha sa na=>?_⟩
 ·rcases List.mem_cons.mp hl with hl | hl
  ·subst hl;exact l9
  ·exact h9 l hl
 ·refine .inr ?_
  cases i with
  | zero=>simp at e2;subst e2;unfold CB at cw;exact⟨by omega,by omega⟩
  | succ i=>
   have e2':(negs ws)[i]?=some w:=by simpa using e2
   unfold negs at e2'
   rw[zgm] at e2'
   obtain⟨u,hu,rfl⟩:=zme.mp e2'
   have:=cws u (zmg hu)
   unfold CB at this
   exact⟨by omega,by omega⟩
 obtain⟨ra,rfl,ra0,ra1⟩:=New.iif.mp na
 have hr9:(zjU goal hyps whole ws).length=9:=zaU λl hl=>by
  rcases List.mem_cons.mp hl with hl | hl
  ·subst hl;exact l9
  ·exact h9 l hl
 obtain⟨c,fs,ec⟩:∃ c fs,zjU goal hyps whole ws=c::fs:=by
  cases e:zjU goal hyps whole ws with
  | nil=>rw[e] at hr9;simp at hr9
  | cons c fs=>exact⟨c,fs,rfl⟩
 have ra2:Ha ra=some (.lst ((c::fs).map V.int)):=by rw[<-ec];exact ra1
 have sf:=s09.trans sa
 have yes:∀ H',Same H H'->Q (.bl (decide (-whole<c) && decide (fs=List.replicate 8 0))) H':=λH' s=>by
  have:=q H' s
  unfold zfP znJ at this
  rw[hrow,ec,Bool.true_and] at this
  exact this
 ac_rfl
 refine zgf (SqL.of ra2) (v:=.int c) zbs ?_
 ac_rfl
 cases hb:decide (-whole<c) with
 | false=>
  ac_rfl
  have:=yes _ sf
  rw[hb,Bool.false_and] at this
  exact this
 | true=>
  ac_rfl
  refine i_slL (SqL.of ra2) λp5 hp5=>?_
  rw[show cutV ((c::fs).map V.int) (some 1) none=fs.map V.int from zlU (k:=1) (by simp)]
  ac_rfl
  refine⟨(by walk_at "sm"),λp6 hp6=>?_⟩
  ac_rfl
  refine .inr ⟨p6,8,[.int 0],rfl,rfl,zac,by decide,by decide,by decide,λp7 hp7=>?_⟩
  rw[zpt]
  have t5:=zaf hp5 (.lst (fs.map V.int))
  have t6:=zaf hp6 (.lst [.int 0])
  have t7:=zaf hp7 (.lst ((List.replicate 8 (0:Int)).map V.int))
  ac_rfl
  refine znl (d:=nums fs) (e:=nums (List.replicate 8 0)) (za5.mpr ⟨p5,rfl,SqL.of (t7 _ _ (t6 _ _ zac))⟩) (za5.mpr ⟨p7,rfl,SqL.of zac⟩) (Nat.le_trans (zeq _) (by decide)) ?_
  have:=yes _ (sf.trans (t5.trans (t6.trans t7)))
  rw[hb,Bool.true_and] at this
  unfold pyEq
  rw[zeO]
  exact this
def zcG (K:Fg):Sp:=λvs H Q _=>∃ n:Nat,vs=[.int n]/\n<=8/\∀ v H',Same H H'->New H H' (.lst ((zdz n).map nums)) v->Q v H'
theorem zlh {n:Nat}(h:n<=8):(zdz n).length<=256:=by
 rw[ze6]
 exact Nat.le_trans (Nat.pow_le_pow_right (by decide) h) (by decide)
theorem zmi {H:Hp}{p r:Addr}(hp:H p=none)(hr:(upd H p (.lst [])) r=none):New H (upd (upd H p (.lst [])) r (.lst [.ref p])) (.lst ((zdz 0).map nums)) (.ref r):=by
 have s1:=zaf hp (.lst [])
 have s2:=zaf hr (.lst [.ref p])
 have pr:r≠p:=λz=>by rw[z,zac] at hr;cases hr
 refine New.lst (fp:=[p]) ?_ (by simp) (λb hb=>?_) (s1.free hr) (by simpa using pr) zac
 ·show zai _ [nums []] [.ref p] [p]
  exact zai.cany (f:=[p]) (fp:=[]) (RepF.line (ns:=[]) (s2 _ _ zac)) zai.nil
 ·rw[zms.mp hb];exact hp
include B Z in
theorem zec (F:Fun K "noughts_and_ones" "noughts_and_ones" zaX f fd)(m:mg "noughts_and_ones"=some (.ref f)):Fn P w K mg b8 "noughts_and_ones" ["count"] 1 (zcG K):=by
 refine Fn.of (k:=0) F zbh m (λ_ _ _ _ _ _ us hl=>(by obtain⟨_,rfl⟩:=len1 hl;rfl)) (λvs H Q E h=>?_) (λcdv A outer s H vs Q E hr h=>?_)
 ·first
  | (obtain⟨_,rfl,_⟩:=h;rfl)
 obtain⟨n,rfl,hn,q⟩:=h
 refine⟨_,(zae (zat (i:=1) zbh.nd rfl (Or.inl rfl) (zaL (zcQ (zaL zaa) zaa)))
   (zae (zcM PassesOwn.never rfl (zcx rfl B.range (zab (pv 0) zaa)) (zas (i:=2) zbh.nd rfl (Or.inl rfl)) (zah (zat (i:=1) zbh.nd rfl (Or.inl rfl) (zaS (zaV K) (zaN rfl (COk.m (sc0:=zad zaX) (N:=["count","found","bit"]) (N':=["count","found","bit","weights"]) (ms:=[false,false,false,true])) (zaK K (pv 1)) (λ_ _ _ _ _=>(zas (i:=3) (ndS (N:=["count","found","bit","weights"])) rfl (Or.inl rfl))) (λ_ _ _ _ _=>zav) (λ_ _ _ _ _=>(zaS (zaV K) (pv 3) (zaL (zao zag zaa))))) (zaN rfl (COk.m (sc0:=zad zaX) (N:=["count","found","bit"]) (N':=["count","found","bit","weights"]) (ms:=[false,false,false,true])) (zaK K (pv 1)) (λ_ _ _ _ _=>(zas (i:=3) (ndS (N:=["count","found","bit","weights"])) rfl (Or.inl rfl))) (λ_ _ _ _ _=>zav) (λ_ _ _ _ _=>(zaS (zaV K) (pv 3) (zaL (zao zag zaa)))))))))
   (zah (zap (pv 1))))),?_⟩
 ac_rfl
 refine⟨(by walk_at "sm"),λp1 hp1=>?_⟩
 ac_rfl
 refine⟨(by walk_at "sm"),λp2 hp2=>?_⟩
 have n0:=zmi hp1 hp2
 have s0:=(zaf hp1 (.lst [])).trans (zaf hp2 (.lst [.ref p1]))
 ac_rfl
 refine zd5 (by omega) (by omega) ?_
 refine zg3 (λi σ H2=>∃ x fa,i<=n/\σ=[some (.int n),some (.ref fa),x]/\Same H H2/\New H H2 (.lst ((zdz i).map nums)) (.ref fa))
  ⟨none,p2,Nat.zero_le _,rfl,s0,n0⟩ ?_ ?_
 ·rintro i σ H2 hi ⟨x,fa,him,rfl,s2,n2⟩
  have hi':i<n:=by have:i<((n:Int)).toNat:=hi;omega
  have lr:=zlh (n:=i) (by omega)
  obtain⟨_,ef,fa0,lsf⟩:=n2.ls
  cases ef
  obtain⟨vs,hvs,lvs⟩:=lsf.len
  ac_rfl
  refine⟨fa,rfl,⟨_,SqL.of hvs⟩,?_⟩
  refine zaA (zay (SqL.of hvs)) (((zdz i).map λr=>r++[0]).map nums) (by simp[lvs]) (zaj (by omega)) (λj x' d H4 R hj hd s4 hx' hR=>?_) (λv H3 s3 n3=>?_)
  ·obtain⟨wa,r,rfl,hr',hwa⟩:=lsf.item hvs hx'
   rw[zgm,zgm,hr'] at hd;cases hd
   have lr2:=(zc5 _ _ (zmg hr')).1
   ac_rfl
   refine⟨(by walk_at "sm"),λp hp=>?_⟩
   have t1:=zaf hp (.lst [.int 0])
   ac_rfl
   refine zbe (t1 _ _ (s4 _ _ hwa)) zac (zaj (by simp;omega)) λp' hp'=>?_
   exact hR _ _ (t1.trans (zaf hp' _)) (New.iif.mpr ⟨p',rfl,t1.free hp',by rw[zac,List.map_append];rfl⟩)
  ac_rfl
  refine⟨fa,rfl,⟨_,SqL.of (s3 _ _ hvs)⟩,?_⟩
  refine zaA (zay (SqL.of (s3 _ _ hvs))) (((zdz i).map λr=>r++[1]).map nums) (by simp[lvs]) (zaj (by omega)) (λj x' d H4 R hj hd s4 hx' hR=>?_) (λv' H4 s4 n4=>?_)
  ·obtain⟨wa,r,rfl,hr',hwa⟩:=lsf.item hvs hx'
   rw[zgm,zgm,hr'] at hd;cases hd
   have lr2:=(zc5 _ _ (zmg hr')).1
   ac_rfl
   refine⟨(by walk_at "sm"),λp hp=>?_⟩
   have t1:=zaf hp (.lst [.int 1])
   ac_rfl
   refine zbe (t1 _ _ (s4 _ _ (s3 _ _ hwa))) zac (zaj (by simp;omega)) λp' hp'=>?_
   exact hR _ _ (t1.trans (zaf hp' _)) (New.iif.mpr ⟨p',rfl,t1.free hp',by rw[zac,List.map_append];rfl⟩)
  obtain⟨a1,vs1,f1,rfl,z1,y1,r1,_⟩:=New.lso n3
  obtain⟨a2,vs2,f2,rfl,z2,y2,r2,_⟩:=New.lso n4
  have l1:=r1.length
  have l2:=r2.length
  simp only[zlm] at l1 l2
  ac_rfl
  refine zbe (s4 _ _ y1) y2 (zaj (by omega)) λp hp=>?_
  ac_rfl
  refine⟨_,p,by omega,rfl,(s2.trans (s3.trans s4)).trans (zaf hp _),?_⟩
  have:=New.cat (n3.back s2) (s2.trans s3) s4 n4 (s4 _ _ y1) y2 hp
  rw[<-List.map_append] at this
  exact this
 ·rintro σ H2 ⟨x,fa,him,rfl,s2,n2⟩
  ac_rfl
  exact q _ _ s2 n2
inductive Q3c (K:Fg)(vs:List V)(H:Hp)(Q:VK)(E:XK):Prop
 | mk (d ga ha:Addr) (goal:List Int) (hyps:List (List Int)) (xs:List V):vs=[.ref d]->SqT K H d [.ref ga,.ref ha]->H ga=some (.lst (goal.map V.int))->H ha=some (.lst xs)->Reps K H (hyps.map nums) xs->goal.length=9->(∀ l∈hyps,l.length=9)->hyps.length<=8->(∀ v H',Same H H'->New H H' (rowD (zbL goal hyps)) v->Q v H')->Q3c K vs H Q E
theorem znP {n:Nat}{r:List Int}(h:r∈zdz n):∀ w∈r,CB w:=λw hw=>by
 have:=(zc5 _ _ h).2 w hw
 unfold CB
 rcases this with z | z <;> exact⟨by omega,by omega⟩
include B Z in
theorem zli (Q3d:Fn P w K mg b8 "noughts_and_ones" ["count"] 1 (zcG K))(G_shows:Fn P w K mg b8 "shows" ["duty","row"] 2 (zjr K))(F:Fun K "sought" "sought" zfe f fd)(m:mg "sought"=some (.ref f)):Fn P w K mg b8 "sought" ["duty"] 3 (Q3c K):=by
 refine Fn.of (k:=2) F zeC m (λ_ _ _ _ _ _ us hl=>(by obtain⟨_,rfl⟩:=len1 hl;rfl)) (λvs H Q E h=>?_) (λcdv A outer s H vs Q E hr h=>?_)
 ·first
  | (obtain⟨_,_,_,_,_,_,rfl,_⟩:=h;rfl)
 obtain⟨d,ga,ha,goal,hyps,xs,rfl,hd,hga,hha,hx,l9,h9,hl,q⟩:=h
 obtain⟨gw,g_WHOLES,hT⟩:=B.t_WHOLES
 have lx:=hx.length
 rw[zlm] at lx
 refine⟨_,(zae (zat (i:=1) zeC.nd rfl (Or.inl rfl) (zak Q3d hr rfl (zaF (zaq (zdm K) rfl B.len L2.boot_len (za3 (zaH (k_ix K) (pv 0) zag (λ_ _=>rfl)) zaa)) zaa)))
   (zae (zcM PassesOwn.never rfl (zhP K (zcW rfl g_WHOLES)) (zas (i:=2) zeC.nd rfl (Or.inl rfl)) (zah (zcM PassesOwn.never rfl (zaK K (pv 1)) (zas (i:=3) zeC.nd rfl (Or.inl rfl)) (zah (zbj (zcZ (zak G_shows hr rfl (zab (pv 0) (ze4 (zdT (zab (pv 2) (zab (pv 3) zaa))) zaa)))) (zah (zap (zdT (zab (pv 2) (zab (pv 3) zaa))))) zaB)))))
   (zah (zap zfo)))),?_⟩
 ac_rfl
 refine zaO hd (v:=.ref ha) (zaJ (j:=1) rfl) ?_
 ac_rfl
 refine zdR (.inl (SqL.of hha)) ?_
 ac_rfl
 refine⟨xs.length,rfl,by omega,λv H1 s1 n1=>?_⟩
 rw[<-lx] at n1
 obtain⟨ra,rfl,ra0,lsr⟩:=n1.ls
 obtain⟨vs,hvs,lvs⟩:=lsr.len
 have lr:=zlh (n:=hyps.length) hl
 ac_rfl
 refine⟨gw,rfl,⟨_,hT _⟩,?_⟩
 refine zg1 (n:=4) (zer (xs:=([1,2,3,4]:List Int).map V.int) (hT H1)) (λi σ H2=>∃ x y,A3 (σ=[some (.ref d),some (.ref ra),x,y]) (Same H1 H2) ((([1,2,3,4]:List Int).take i).findSome? (zfl goal hyps)=none))
  ⟨none,none,rfl,Same.refl _,rfl⟩ (λi σ H2 ⟨_,_,_,e,_⟩=>e) ?_ ?_
 ·rintro i v σ H2 H3 hi ⟨x,y,rfl,s2,f2⟩ s3 hv
  rw[zgm] at hv
  obtain⟨w,hw,rfl⟩:=zme.mp hv
  have w4:1<=w/\w<=4:=by
   have:=zmg hw
   simp at this
   omega
  have s13:=s2.trans s3
  ac_rfl
  refine⟨ra,rfl,⟨_,SqL.of (s13 _ _ hvs)⟩,?_⟩
  refine zg1 (zay (SqL.of (s13 _ _ hvs))) (λj σ H4=>∃ y,A3 (σ=[some (.ref d),some (.ref ra),some (.int w),y]) (Same H3 H4) (((zdz hyps.length).take j).findSome? (zgM goal hyps w)=none))
   ⟨y,rfl,Same.refl _,rfl⟩ (λi σ H2 ⟨_,_,e,_⟩=>e) ?_ ?_
  ·rintro j v σ H4 H5 hj ⟨y',rfl,s4,f4⟩ s5 hv
   obtain⟨wa,r,rfl,hr',hwa⟩:=lsr.item hvs hv
   have hm:=zmg hr'
   have lr2:=(zc5 _ _ hm).1
   have s15:=s13.trans (s4.trans s5)
   have s05:=s1.trans s15
   ac_rfl
   refine⟨(by walk_at "sm"),λT hTT=>?_⟩
   have t1:=zaf hTT (.tup [.int w,.ref wa])
   have s06:=s05.trans t1
   ac_rfl
   refine .inr ⟨d,T,ga,ha,wa,goal,hyps,xs,w,r,rfl,s06.tup hd,s06 _ _ hga,s06 _ _ hha,Reps.same s06 _ hx,SqT.of zac,SqL.of (t1 _ _ (s15 _ _ hwa)),l9,h9,by omega,by omega,by unfold CB;exact⟨by omega,by omega⟩,znP hm,λH7 s7=>?_⟩
   have s17:=s15.trans (t1.trans s7)
   cases hb:zfP goal hyps w r with
   | true=>
    ac_rfl
    refine⟨(by walk_at "sm"),λT2 hT2=>?_⟩
    have e1:zgM goal hyps w r=some (w,r):=by unfold zgM;rw[if_pos hb]
    have e2:zfl goal hyps w=some (w,r):=zhb f4 hr' e1
    have e3:zbL goal hyps=some (w,r):=zhb f2 hw e2
    have n7:New H H7 (nums r) (.ref wa):=(New.item (d:=nums r) n1 hvs (by rw[zgm,hr'];rfl) hv).same s17
    refine q _ _ ((s1.trans s17).trans (zaf hT2 _)) ?_
    rw[e3]
    exact n7.pairT hT2
   | false=>
    ac_rfl
    refine⟨_,rfl,s4.trans (s5.trans (t1.trans s7)),zfQ f4 hr' ?_⟩
    unfold zgM
    rw[if_neg (by rw[hb];decide)]
  ·rintro σ H4 ⟨y',rfl,s4,f4⟩
   refine⟨_,_,rfl,s13.trans s4,zfQ f2 hw ?_⟩
   exact zjl f4 (by omega)
 ·rintro σ H2 ⟨x,y,rfl,s2,f2⟩
  ac_rfl
  refine q _ _ (s1.trans s2) ?_
  have e3:zbL goal hyps=none:=zjl f2 (by decide)
  rw[e3]
  exact New.non
inductive Q3e (K:Fg)(C:Nat->Addr)(vs:List V)(H:Hp)(Q:VK)(E:XK):Prop
 | mk (ha dx:Addr):vs=[.ref ha]->H ha=some (.ins (C 5) dx [])->(∀ la va H',H la=none->H va=none->la≠va->OffA [ha] H H'->H' ha=some (.ins (C 5) dx (hfl la va))->H' la=some (.dK [])->H' va=some (.dK [])->Q .non H')->Q3e K C vs H Q E
include B Z in
theorem znQ (F:Fun K "__init__" "Hall.__init__" zbT f fd)(M:Mk K (C 5) f):Mkr P w K mg b8 "Hall" (C 5) ["self"] 1 (Q3e K C):=by
 refine⟨f,fd,M,F.ok (k:=0) zfb (λvs H Q E h=>?_) (λcdv A outer s H vs Q E hr h=>?_),F.binds λ_ _ _ _ _ _ us hl=>(by obtain⟨_,rfl⟩:=len1 hl;rfl),Z.m_Hall⟩
 ·first
  | (obtain⟨_,_,rfl,_⟩:=h;rfl)
 obtain⟨ha,dx,rfl,hh,q⟩:=h
 refine⟨_,(zae (zgC (pv 0) zem rfl)
   (zah (zgC (pv 0) zem rfl))),?_⟩
 walk_at "q"
 nofun
 intro la la0
 have e1:(upd H la (.dK [])) ha=some (.ins (C 5) dx []):=by rw[zam (zau hh la0)];exact hh
 nofun
 refine⟨ha,(C 5),dx,[],rfl,e1,Z.c_Hall,Z.n_Hall_laid,by show 0<1000;decide,?_⟩
 nofun
 intro va va0
 have nha:va≠ha:=λz=>by rw[z,zac] at va0;cases va0
 have nla:va≠la:=λz=>by rw[z,zam (zau hh la0).symm,zac] at va0;cases va0
 have v0:H va=none:=by rw[zam nha,zam nla] at va0;exact va0
 nofun
 refine⟨ha,(C 5),dx,_,rfl,by rw[zam nha.symm,zac],Z.c_Hall,Z.n_Hall_vouched,Nat.lt_of_lt_of_le (zdg (n:=1) (by decide)) (by decide),?_⟩
 have nl:la≠ha:=(zau hh la0).symm
 refine q la va _ la0 v0 nla.symm (λb o n e=>?_) zac ?_ ?_
 ·have n1:b≠ha:=λz=>n (by simp[z])
  rw[zam n1,zam (zau e v0),zam n1,zam (zau e la0)]
  exact e
 ·rw[zam nl,zam nla.symm,zam nl,zac]
 ·rw[zam nha,zac]
inductive Q50 (K:Fg)(C:Nat->Addr)(vs:List V)(H:Hp)(Q:VK)(E:XK):Prop
 | mk (ha la va:Addr) (n:Int) (ks:List Int) (cr:Int->Cr) (ws:List Int) (fp:List Addr):vs=[.ref ha,.int n]->HAt (C 5) (C 0) H ha la va ks cr ws fp->(∀ H' ws',OffA [va] H H'->HAt (C 5) (C 0) H' ha la va ks cr ws' fp->(∀ m,m∈ws'↔m∈ws/\m≠n)->Q .non H')->Q50 K C vs H Q E
include B Z in
theorem zf7 (F:Fun K "release" "Hall.release" zcb f fd)(M:Meth K (C 5) "release" f):Mth CX0 P w K mg b8 (C 5) "release" ["self","number"] 1 (Q50 K C):=by
 refine⟨f,fd,M,F.ok (k:=0) zf0 (λvs H Q E h=>?_) (λcdv A outer s H vs Q E hr h=>?_),F.binds λ_ _ _ _ _ _ us hl=>(by obtain⟨_,_,rfl⟩:=len2 hl;rfl)⟩
 ·first
  | (obtain⟨_,_,_,_,_,_,_,_,rfl,_⟩:=h;rfl)
 obtain⟨ha,la,va,n,ks,cr,ws,fp,rfl,hA,q⟩:=h
 refine⟨_,(zah (za9 (zgY (zbk K (pv 0) rfl) (pv 1) zfo ⟨rfl,rfl,rfl,rfl⟩))),?_⟩
 obtain⟨dx,hh⟩:=hA.ins
 obtain⟨kvs,hva,hk⟩:=hA.vou
 nofun
 refine⟨ha,(C 5),dx,_,_,rfl,hh,Z.c_Hall,Z.n_Hall_vouched,zdM _ _,?_⟩
 refine⟨va,rfl,.inl ⟨_,.inl hva⟩,?_⟩
 nofun
 refine⟨kvs,.inl n,hva,rfl,λv hv=>?_,λhv=>?_⟩
 ·nofun
  refine q _ _ (zcc (by simp)) (hA.putV hk.drop λm hm=>hA.sub m (List.mem_filter.mp hm).1) λm=>?_
  rw[List.mem_filter,decide_eq_true_eq]
 ·nofun
  refine q _ ws (Same.refl _).offA hA λm=>⟨λhm=>⟨hm,λz=>?_⟩,λhm=>hm.1⟩
  subst z
  obtain⟨v,e,_⟩:=hk.2.2 m hm
  rw[e] at hv;cases hv
inductive Q4e (K:Fg)(C:Nat->Addr)(vs:List V)(H:Hp)(Q:VK)(E:XK):Prop
 | mk (ha la va:Addr) (n:Int) (ks:List Int) (cr:Int->Cr) (ws:List Int) (fp:List Addr):vs=[.ref ha,.int n]->HAt (C 5) (C 0) H ha la va ks cr ws fp->(∀ v H',Same H H'->New H H' (nums (zaC ks cr n)) v->Q v H')->Q4e K C vs H Q E
include B Z in
theorem ze0 (Qe:Fn P w K mg b8 "called_by" ["craft"] 1 (Qd K C))(F:Fun K "called_at" "Hall.called_at" zbH f fd)(M:Meth K (C 5) "called_at" f):Mth CX0 P w K mg b8 (C 5) "called_at" ["self","number"] 2 (Q4e K C):=by
 refine⟨f,fd,M,F.ok (k:=1) zeW (λvs H Q E h=>?_) (λcdv A outer s H vs Q E hr h=>?_),F.binds λ_ _ _ _ _ _ us hl=>(by obtain⟨_,_,rfl⟩:=len2 hl;rfl)⟩
 ·first
  | (obtain⟨_,_,_,_,_,_,_,_,rfl,_⟩:=h;rfl)
 obtain⟨ha,la,va,n,ks,cr,ws,fp,rfl,hA,q⟩:=h
 refine⟨_,(zae (zbj (zhw (zgG (hr_u hr) (pv 1) (zbk K (pv 0) rfl))) (zah (zap (zak Qe hr rfl (za3 (zd4 (hr_u hr) (zbk K (pv 0) rfl) (pv 1) (λ_ _=>rfl)) zaa)))) zaB)
   (zah (zap (zaL zaa)))),?_⟩
 obtain⟨dx,hh⟩:=hA.ins
 obtain⟨kvs,hla,hk⟩:=hA.laid
 unfold zaC at q
 walk_at "q"
 nofun
 refine⟨ha,(C 5),dx,_,_,rfl,hh,Z.c_Hall,Z.n_Hall_laid,zde _ _,?_⟩
 refine⟨la,_,rfl,DGet.k (k:=.inl n) hla,?_⟩
 by_cases hm:n∈ks
 ·obtain⟨v,hv,p,f,rfl,hC,hf⟩:=hk.2.2 n hm
  rw[if_pos hm] at q
  have rt:=hA.rt n hm
  obtain⟨_,dx',w1,w2,b3,w4,dvs,hp,hb3,hD⟩:=hC.t (K:=K) rt.nine.d9
  rw[hv]
  nofun
  refine zdS (λ_=>?_) (λz=>by cases z)
  nofun
  refine⟨ha,(C 5),dx,_,_,rfl,hh,Z.c_Hall,Z.n_Hall_laid,zde _ _,?_⟩
  nofun
  refine⟨la,.ref p,rfl,by rw[<-hv];exact DGet.k (k:=.inl n) hla,?_⟩
  nofun
  exact⟨p,dx',b3,w1,w2,w4,dvs,(cr n).deeds,rfl,hp,hb3,hD,by have:=rt.nine.d;omega,q⟩
 ·rw[if_neg hm] at q
  rw[hk.no hm]
  nofun
  refine zdS (λz=>by cases z) (λ_=>?_)
  nofun
  refine⟨(by walk_at "sm"),λp hp=>?_⟩
  exact q _ _ (zaf hp _) (New.iif.mpr ⟨p,rfl,hp,zac⟩)
inductive Q52 (K:Fg)(C:Nat->Addr)(vs:List V)(H:Hp)(Q:VK)(E:XK):Prop
 | mk (ha la va:Addr) (n:Int) (ks:List Int) (cr:Int->Cr) (ws:List Int) (fp:List Addr):vs=[.ref ha,.int n]->HAt (C 5) (C 0) H ha la va ks cr ws fp->(∀ H' ws',OffA [va] H H'->HAt (C 5) (C 0) H' ha la va ks cr ws' fp->(∀ m,m∈ws'↔m∈ws/\n∉zaC ks cr m)->Q .non H')->Q52 K C vs H Q E
include B Z in
theorem zdj (Q4f:Mth CX0 P w K mg b8 (C 5) "called_at" ["self","number"] 2 (Q4e K C))(Q51:Mth CX0 P w K mg b8 (C 5) "release" ["self","number"] 1 (Q50 K C))(F:Fun K "release_callers" "Hall.release_callers" za4 f fd)(M:Meth K (C 5) "release_callers" f):Mth CX0 P w K mg b8 (C 5) "release_callers" ["self","number"] 3 (Q52 K C):=by
 refine⟨f,fd,M,F.ok (k:=2) zbZ (λvs H Q E h=>?_) (λcdv A outer s H vs Q E hr h=>?_),F.binds λ_ _ _ _ _ _ us hl=>(by obtain⟨_,_,rfl⟩:=len2 hl;rfl)⟩
 ·first
  | (obtain⟨_,_,_,_,_,_,_,_,rfl,_⟩:=h;rfl)
 obtain⟨ha,la,va,n,ks,cr,ws,fp,rfl,hA,q⟩:=h
 refine⟨_,(zah (zcM PassesOwn.never rfl (zaK K (zdr (zjM rfl) rfl B.list L2.zc1 (zbo (zbk K (pv 0) rfl) zaa))) (zas (i:=2) zbZ.nd rfl (Or.inl rfl)) (zah (zbj (zaM (k_in K) (pv 1) (zch Q4f Z.c_Hall hr zdQ (pv 0) (zab (pv 2) zaa)) rfl) (zah (za9 (zch Q51 Z.c_Hall hr zdQ (pv 0) (zab (pv 2) zaa)))) zaB)))),?_⟩
 obtain⟨dx,hh⟩:=hA.ins
 obtain⟨kvs,hva,hk⟩:=hA.vou
 have nd:=hk.2.1
 nofun
 refine⟨ha,(C 5),dx,_,_,rfl,hh,Z.c_Hall,Z.n_Hall_vouched,zdM _ _,?_⟩
 nofun
 refine znF hva hk.1 λl hl=>?_
 have s0:=zaf hl (.lst (ws.map V.int))
 have nlv:l≠va:=(zau hva hl).symm
 refine⟨l,rfl,⟨_,SqL.of zac⟩,?_⟩
 refine zfH (xs:=ws.map V.int) (λi σ H'=>∃ x ws',A4 (σ=[some (.ref ha),some (.int n),x]) (OffA [va] (upd H l (.lst (ws.map V.int))) H') (HAt (C 5) (C 0) H' ha la va ks cr ws' fp) (∀ m,m∈ws'↔m∈ws/\(m∈ws.take i->n∉zaC ks cr m)))
  ⟨none,ws,rfl,(Same.refl _).offA,hA.same s0,λm=>by simp⟩ (λi σ H' _ ⟨_,_,_,e,_,_⟩=>SqL.of (e _ _ (by simp[nlv]) zac)) ?_ ?_
 ·rintro i v σ H2 hv ⟨x,ws',rfl,o2,hA2,hm2⟩
  rw[zgm] at hv
  obtain⟨m0,hm0,rfl⟩:=zme.mp hv
  obtain⟨dx2,hh2⟩:=hA2.ins
  nofun
  refine⟨ha,dx2,_,rfl,hh2,zdo (by decide +kernel) (by decide +kernel),?_⟩
  nofun
  refine⟨ha,la,va,m0,ks,cr,ws',fp,rfl,hA2,λv H3 s3 n3=>?_⟩
  obtain⟨ca,rfl,ca0,ca1⟩:=New.iif.mp n3
  refine i_inI (SqL.of ca1) ?_
  have tk:∀ m,m∈ws.take (i+1)↔m∈ws.take i\/m=m0:=λm=>by
   rw[List.take_add_one,hm0];simp
  by_cases hc:n∈zaC ks cr m0
  ·rw[decide_eq_true hc]
   nofun
   refine⟨ha,dx2,_,rfl,s3 _ _ hh2,zdo (by decide +kernel) (by decide +kernel),?_⟩
   nofun
   refine⟨ha,la,va,m0,ks,cr,ws',fp,rfl,hA2.same s3,λH4 ws4 o4 hA4 hm4=>?_⟩
   nofun
   refine⟨_,ws4,rfl,o2.trans (s3.offA.trans o4),hA4,λm=>?_⟩
   rw[hm4,hm2,tk]
   constructor
   ·rintro⟨⟨h1,h2⟩,h3⟩
    exact⟨h1,λz=>by rcases z with z | z;exact h2 z;exact absurd z h3⟩
   ·rintro⟨h1,h2⟩
    exact⟨⟨h1,λz=>h2 (.inl z)⟩,λz=>h2 (.inr z) (by rw[z];exact hc)⟩
  ·rw[decide_eq_false hc]
   nofun
   refine⟨_,ws',rfl,o2.trans s3.offA,hA2.same s3,λm=>?_⟩
   rw[hm2,tk]
   constructor
   ·rintro⟨h1,h2⟩
    exact⟨h1,λz=>by rcases z with z | z;exact h2 z;rw[z];exact hc⟩
   ·rintro⟨h1,h2⟩
    exact⟨h1,λz=>h2 (.inl z)⟩
 ·rintro σ H2 ⟨x,ws',rfl,o2,hA2,hm2⟩
  nofun
  refine q _ ws' (s0.offA.trans o2) hA2 λm=>?_
  rw[hm2,zlm,List.take_of_length_le (Nat.le_refl _)]
  exact⟨λh=>⟨h.1,h.2 h.1⟩,λh=>⟨h.1,λ_=>h.2⟩⟩
inductive Q54 (K:Fg)(C:Nat->Addr)(vs:List V)(H:Hp)(Q:VK)(E:XK):Prop
 | mk (p q:Addr) (n1 l1 n2 l2:List (List Int)) (d1 d2:List D) (o1 o2:List (List (List Int))):vs=[.ref p,.ref q]->zbg K (C 0) H p n1 l1 d1 o1->zbg K (C 0) H q n2 l2 d2 o2->Q (.bl (decide (n1=n2) && decide (l1=l2))) H->Q54 K C vs H Q E
include B Z in
theorem zih (F:Fun K "same_oath" "same_oath" zdb f fd)(m:mg "same_oath"=some (.ref f)):Fn P w K mg b8 "same_oath" ["craft","other"] 1 (Q54 K C):=by
 refine Fn.of (k:=0) F zib m (λ_ _ _ _ _ _ us hl=>(by obtain⟨_,_,rfl⟩:=len2 hl;rfl)) (λvs H Q E h=>?_) (λcdv A outer s H vs Q E hr h=>?_)
 ·first
  | (obtain⟨_,_,_,_,_,_,_,_,_,_,rfl,_⟩:=h;rfl)
 obtain⟨p,q,n1,l1,n2,l2,d1,d2,o1,o2,rfl,hP,hQ,k⟩:=h
 refine⟨_,(zah (zap (zbq (zba (k_eq K hr) (zbk K (pv 0) rfl) (zbk K (pv 1) rfl) (zaD _)) (zbD (zba (k_eq K hr) (zbk K (pv 0) rfl) (zbk K (pv 1) rfl) (zaD _)))))),?_⟩
 obtain⟨dx,w1,w2,w3,w4,hp,r1,r2,_,_⟩:=hP
 obtain⟨dy,u1,u2,u3,u4,hq,t1,t2,_,_⟩:=hQ
 obtain⟨a1,rfl⟩:∃ b,w1=.ref b:=by unfold zax Rep at r1;obtain⟨a,_,e,_⟩:=r1;exact⟨a,e⟩
 obtain⟨a2,rfl⟩:∃ b,w2=.ref b:=by unfold zax Rep at r2;obtain⟨a,_,e,_⟩:=r2;exact⟨a,e⟩
 obtain⟨b1,rfl⟩:∃ b,u1=.ref b:=by unfold zax Rep at t1;obtain⟨a,_,e,_⟩:=t1;exact⟨a,e⟩
 obtain⟨b2,rfl⟩:∃ b,u2=.ref b:=by unfold zax Rep at t2;obtain⟨a,_,e,_⟩:=t2;exact⟨a,e⟩
 nofun
 refine⟨p,(C 0),dx,_,_,rfl,hp,Z.c_Craft,Z.n_Craft_needs,zcS _ _ _ _,?_⟩
 nofun
 refine⟨q,(C 0),dy,_,_,rfl,hq,Z.c_Craft,Z.n_Craft_needs,zcS _ _ _ _,?_⟩
 refine znl r1 t1 (Nat.le_trans (zhQ _) (by decide)) ?_
 rw[zgQ]
 refine zc2 (λe=>?_) (λe=>by rw[e,Bool.false_and] at k;exact k)
 rw[e,Bool.true_and] at k
 nofun
 refine⟨p,(C 0),dx,_,_,rfl,hp,Z.c_Craft,Z.n_Craft_leaves,zcj _ _ _ _,?_⟩
 nofun
 refine⟨q,(C 0),dy,_,_,rfl,hq,Z.c_Craft,Z.n_Craft_leaves,zcj _ _ _ _,?_⟩
 refine znl r2 t2 (Nat.le_trans (zhQ _) (by decide)) ?_
 rw[zgQ]
 exact k
inductive Q3f (K:Fg)(C:Nat->Addr)(vs:List V)(H:Hp)(Q:VK)(E:XK):Prop
 | mk (ha la va p:Addr) (n:Int) (ks:List Int) (cr:Int->Cr) (ws:List Int) (fp:List Addr) (c:Cr):vs=[.ref ha,.int n,.ref p]->HAt (C 5) (C 0) H ha la va ks cr ws fp->zdA K (C 0) H p c.needs c.leaves c.deeds c.notes->c.Nine->n.natAbs<zbb->(n∈ks\/ks.length<60)->(c.right=false->∀ H',Same H H'->E (.ref (C 2)) none H')->(c.right=true->∀ H' ks' ws' fp',OffA [la,va] H H'->HAt (C 5) (C 0) H' ha la va ks' (setC cr n c) ws' fp'->(∀ m,m∈ks'↔m∈ks\/m=n)->(n∈ks->ks'=ks)->(n∉ks->ks'=ks++[n])->
  (∀ m,m∈ws'↔m∈ws/\m≠n/\(n∈ks->¬ ((cr n).needs=c.needs/\(cr n).leaves=c.leaves)->n∉zaC ks cr m))->(∀ b∈fp',b∈fp\/H b=none)->Q .non H')->Q3f K C vs H Q E
include B Z in
theorem ziV (Q51:Mth CX0 P w K mg b8 (C 5) "release" ["self","number"] 1 (Q50 K C))(Qc:Fn P w K mg b8 "copied_craft" ["craft"] 4 (Qb K C))(G_right:Fn P w K mg b8 "right" ["craft"] 7 (Qf K C))(Q53:Mth CX0 P w K mg b8 (C 5) "release_callers" ["self","number"] 3 (Q52 K C))(Q55:Fn P w K mg b8 "same_oath" ["craft","other"] 1 (Q54 K C))(F:Fun K "lay" "Hall.lay" zdG f fd)(M:Meth K (C 5) "lay" f):Mth (CX1 P w) P w K mg b8 (C 5) "lay" ["self","number","craft"] 8 (Q3f K C):=by
 refine⟨f,fd,M,F.okx (k:=7) ziP (λvs H Q E h=>?_) (λcdv A outer s H vs Q E hr h=>?_),F.binds λ_ _ _ _ _ _ us hl=>(by obtain⟨_,_,_,rfl⟩:=len3 hl;rfl)⟩
 ·first
  | (obtain⟨_,_,_,_,_,_,_,_,_,_,rfl,_⟩:=h;rfl)
 obtain⟨ha,la,va,p,n,ks,cr,ws,fp,c,rfl,hA,hT,nine,hn,hfew,qE,qQ⟩:=h
 refine⟨_,(zae (zbj (zhx (zcZ (zak G_right hr rfl (zab (pv 2) zaa)))) (zah (zg7 Z.e_BadSheet rfl Z.m_BadSheet rfl ziD (zbd (zpe (pv 1) (by decide +kernel) (by decide +kernel)) zaa))) zaB)
   (zae (zbj (PW.pt (zkc (zhw (zgG (hr_u hr) (pv 1) (zbk K (pv 0) rfl))) (zka (zhx (zcZ (zak Q55 hr rfl (za3 (zd4 (hr_u hr) (zbk K (pv 0) rfl) (pv 1) (λ_ _=>rfl)) (zab (pv 2) zaa)))))))) (zah (za9 (zch Q53 Z.c_Hall hr zdQ (pv 0) (zab (pv 1) zaa)))) zaB)
   (zae (za9 (zch Q51 Z.c_Hall hr zdQ (pv 0) (zab (pv 1) zaa)))
   (zah (zfy (hr_u hr) (zbk K (pv 0) rfl) (pv 1) (zak Qc hr rfl (zab (pv 2) zaa)) rfl))))),?_⟩
 have g1:=nine.n
 have g2:=nine.l
 have g3:=nine.d
 have g4:=nine.o
 walk_at "q"
 nofun
 refine⟨p,c.needs,c.leaves,c.deeds,c.notes,rfl,hT.1,by omega,by omega,by omega,by omega,nine.n9,nine.l9,nine.d9,λls hl=>⟨by have:=(nine.o9 ls hl).1;omega,(nine.o9 ls hl).2⟩,λH1 s1=>?_⟩
 cases hr':ze5 c.needs c.leaves c.deeds c.notes with
 | false=>
  nofun
  refine⟨hn,λz=>?_⟩
  nofun
  exact⟨(by walk_at "sm"),qE hr' _ s1⟩
 | true=>
 have qQ:=qQ hr'
 clear qE
 have rtc:c.Rt:=⟨nine,hr'⟩
 nofun
 have hA1:=hA.same s1
 have hT1:=zdA.same s1 hT
 have oA:∀ {Hx:Hp},OffA [va] H1 Hx->zdA K (C 0) Hx p c.needs c.leaves c.deeds c.notes:=λ{Hx} o=>by
  obtain⟨kv,hv,_⟩:=hA1.vou
  have nd:=o.nod λa ha=>by rw[zms.mp ha];exact⟨_,hv⟩
  obtain⟨k0,dx,w1,w2,b3,w4,dvs,k1,k2,k3⟩:=hT1
  exact⟨k0.nod nd,dx,w1,w2,b3,w4,dvs,nd _ _ k1 (λ_ z=>by cases z),nd _ _ k2 (λ_ z=>by cases z),R2.mono k3 λ_ _ z=>z.sq nd.sq⟩
 -- who called it by another oath is let go
 with_reducible refine zdV (λσ H'=>σ=[some (.ref ha),some (.int n),some (.ref p)]/\∃ ws',OffA [va] H1 H'/\HAt (C 5) (C 0) H' ha la va ks cr ws' fp/\∀ m,m∈ws'↔m∈ws/\(n∈ks->¬ ((cr n).needs=c.needs/\(cr n).leaves=c.leaves)->n∉zaC ks cr m)) (λNX tail=>?_) ?_
 ·obtain⟨dx,hh⟩:=hA1.ins
  obtain⟨kvs,hla,hk⟩:=hA1.laid
  nofun
  refine⟨ha,(C 5),dx,_,_,rfl,hh,Z.c_Hall,Z.n_Hall_laid,zde _ _,?_⟩
  refine⟨la,_,rfl,DGet.k (k:=.inl n) hla,?_⟩
  by_cases hm:n∈ks
  ·obtain⟨v,hv,q,f,rfl,hC,hf⟩:=hk.2.2 n hm
   rw[hv]
   nofun
   refine zdS (λ_=>?_) (λz=>by cases z)
   nofun
   refine⟨ha,(C 5),dx,_,_,rfl,hh,Z.c_Hall,Z.n_Hall_laid,zde _ _,?_⟩
   nofun
   refine⟨la,.ref q,rfl,by rw[<-hv];exact DGet.k (k:=.inl n) hla,?_⟩
   nofun
   refine⟨q,p,(cr n).needs,(cr n).leaves,c.needs,c.leaves,_,_,_,_,rfl,hC.at,hT1.1,?_⟩
   cases hs:(decide ((cr n).needs=c.needs) && decide ((cr n).leaves=c.leaves)) with
   | true=>
    nofun
    rw[Bool.and_eq_true,decide_eq_true_eq,decide_eq_true_eq] at hs
    exact tail _ _ ⟨rfl,ws,(Same.refl _).offA,hA1,λm=>⟨λz=>⟨z,λ_ w=>absurd hs w⟩,λz=>z.1⟩⟩
   | false=>
    have hs':¬ ((cr n).needs=c.needs/\(cr n).leaves=c.leaves):=λz=>by
     rw[decide_eq_true z.1,decide_eq_true z.2] at hs;cases hs
    nofun
    refine⟨ha,dx,_,rfl,hh,zdo (by decide +kernel) (by decide +kernel),?_⟩
    nofun
    refine⟨ha,la,va,n,ks,cr,ws,fp,rfl,hA1,λH2 ws2 o2 hA2 hm2=>?_⟩
    nofun
    refine tail _ _ ⟨rfl,ws2,o2,hA2,λm=>?_⟩
    rw[hm2]
    exact⟨λz=>⟨z.1,λ_ _=>z.2⟩,λz=>⟨z.1,z.2 hm hs'⟩⟩
  ·rw[hk.no hm]
   nofun
   refine zdS (λz=>by cases z) (λ_=>?_)
   nofun
   exact tail _ _ ⟨rfl,ws,(Same.refl _).offA,hA1,λm=>⟨λz=>⟨z,λw=>absurd w hm⟩,λz=>z.1⟩⟩
 rintro σ H2 ⟨rfl,ws2,o2,hA2,hm2⟩
 obtain⟨dx2,hh2⟩:=hA2.ins
 walk_at "q"
 nofun
 refine⟨ha,dx2,_,rfl,hh2,zdo (by decide +kernel) (by decide +kernel),?_⟩
 nofun
 refine⟨ha,la,va,n,ks,cr,ws2,fp,rfl,hA2,λH3 ws3 o3 hA3 hm3=>?_⟩
 have o13:=o2.trans o3
 nofun
 refine⟨p,c,rfl,oA o13,nine,λq f H4 s4 hC hf fn=>?_⟩
 have hA4:=hA3.same s4
 obtain⟨dx4,hh4⟩:=hA4.ins
 obtain⟨kvs,hla,hk⟩:=hA4.laid
 nofun
 refine⟨ha,(C 5),dx4,_,_,rfl,hh4,Z.c_Hall,Z.n_Hall_laid,zde _ _,?_⟩
 nofun
 have hkl:=hk.len
 have h60:=hA.few
 refine⟨la,_,rfl,DPut.k (k:=.inl n) hla (zbr (by omega)),?_⟩
 have nd5:NoD H4 (upd H4 la (.dK (putK kvs (.inl n) (.ref q)))):=zcD hla
 obtain⟨kv,hva,hkv⟩:=hA4.vou
 have put:=hk.put' (m:=n) (v:=.ref q) (P':=CrIn (C 0) (upd H4 la (.dK (putK kvs (.inl n) (.ref q)))) (setC cr n c) (f++fp)) ⟨q,f,rfl,by unfold setC;rw[if_pos rfl];exact hC.nod nd5,λb hb=>List.mem_append_left _ hb⟩ (λk v ne ⟨p',f',e1,e2,e3⟩=>⟨p',f',e1,by unfold setC;rw[if_neg ne];exact e2.nod nd5,λb hb=>List.mem_append_right _ (e3 b hb)⟩)
 have kss:∀ m,m∈(if n∈ks then ks else ks++[n])↔m∈ks\/m=n:=λm=>by
  by_cases z:n∈ks
  ·rw[if_pos z]
   exact⟨.inl,λw=>by rcases w with w | w;exact w;rw[w];exact z⟩
  ·rw[if_neg z];simp
 refine qQ _ (if n∈ks then ks else ks++[n]) ws3 (f++fp) ?_ ⟨?_,⟨_,zac,put⟩,⟨kv,by rw[zam hA4.ne.symm];exact hva,hkv⟩,hA4.ne,λm hm=>?_,?_,λm hm=>?_,λb hb=>?_⟩ kss (λz=>by rw[if_pos z]) (λz=>by rw[if_neg z]) (λm=>?_) (λb hb=>?_)
 ·refine OffA.trans (s1.offA.trans ?_) (s4.offA.trans (zcc (by simp)))
  exact OffA.putDict o13 λb hb=>by rw[zms.mp hb];simp
 ·exact⟨dx4,nd5 _ _ hh4 (λ_ z=>by cases z)⟩
 ·unfold setC
  by_cases z:m=n
  ·rw[if_pos z];exact rtc
  ·rw[if_neg z]
   exact hA.rt m (by rcases (kss m).mp hm with w | w;exact w;exact absurd w z)
 ·by_cases z:n∈ks
  ·rw[if_pos z];exact hA.few
  ·rw[if_neg z,List.length_append,List.length_singleton]
   rcases hfew with w | w
   ·exact absurd w z
   ·omega
 ·exact (kss m).mpr (.inl (hA4.sub m hm))
 ·rcases zma.mp hb with z | z
  ·obtain⟨o,e,n⟩:=hC.hasN b z
   exact⟨o,nd5 b o e n,n⟩
  ·obtain⟨o,e,n⟩:=hA4.has b z
   exact⟨o,nd5 b o e n,n⟩
 ·rw[hm3,hm2]
  exact⟨λz=>⟨z.1.1,z.2,z.1.2⟩,λz=>⟨⟨z.1,z.2.2⟩,z.2.1⟩⟩
 ·rcases zma.mp hb with z | z
  ·right
   have e3:=hf b z
   cases eb:H b with
   | none=>rfl
   | some o=>
    exfalso
    by_cases nb:b=va
    ·obtain⟨kv3,hv3,_⟩:=hA3.vou
     rw[nb,hv3] at e3;cases e3
    ·have:=o13 b o (by simp[nb]) (s1 _ _ eb)
     rw[this] at e3;cases e3
  ·exact .inl z
inductive Q4a (K:Fg)(C:Nat->Addr)(vs:List V)(H:Hp)(Q:VK)(E:XK):Prop
 | mk (ha dx la va:Addr) (n:Int) (kvs:List (Key × V)):vs=[.ref ha,.int n]->H ha=some (.ins (C 5) dx (hfl la va))->H la=some (.dK kvs)->n.natAbs<zbb->(valV kvs (.inl n)=none->E (.ref (C 3)) none H)->((valV kvs (.inl n)).isSome=true->Q .non H)->Q4a K C vs H Q E
include B Z in
theorem zeF (F:Fun K "must_stand" "Hall.must_stand" zbu f fd)(M:Meth K (C 5) "must_stand" f):Mth (CX1 P w) P w K mg b8 (C 5) "must_stand" ["self","number"] 1 (Q4a K C):=by
 refine⟨f,fd,M,F.okx (k:=0) zeD (λvs H Q E h=>?_) (λcdv A outer s H vs Q E hr h=>?_),F.binds λ_ _ _ _ _ _ us hl=>(by obtain⟨_,_,rfl⟩:=len2 hl;rfl)⟩
 ·first
  | (obtain⟨_,_,_,_,_,_,rfl,_⟩:=h;rfl)
 obtain⟨ha,dx,la,va,n,kvs,rfl,hh,hla,hn,qE,qQ⟩:=h
 refine⟨_,(zah (zbj (zhw (zfx (hr_u hr) (pv 1) (zbk K (pv 0) rfl))) (zah (zg7 Z.e_NoCraft rfl Z.m_NoCraft rfl ziD (zbd (zph (pv 1) (by decide +kernel)) zaa))) zaB)),?_⟩
 nofun
 refine⟨ha,(C 5),dx,_,_,rfl,hh,Z.c_Hall,Z.n_Hall_laid,zde _ _,?_⟩
 refine⟨la,_,rfl,DGet.k (k:=.inl n) hla,?_⟩
 cases hv:valV kvs (.inl n) with
 | none=>
  nofun
  refine zdS (λ_=>?_) (λz=>by cases z)
  nofun
  refine⟨hn,λz=>?_⟩
  nofun
  exact⟨(by walk_at "sm"),qE hv⟩
 | some y=>
  nofun
  refine zdS (λz=>by cases z) (λ_=>?_)
  nofun
  exact qQ (by rw[hv];rfl)
inductive Q40 (K:Fg)(C:Nat->Addr)(vs:List V)(H:Hp)(Q:VK)(E:XK):Prop
 | mk (ha la va:Addr) (n:Int) (ks:List Int) (cr:Int->Cr) (ws:List Int) (fp:List Addr):vs=[.ref ha,.int n]->HAt (C 5) (C 0) H ha la va ks cr ws fp->n.natAbs<zbb->(n∉ks->E (.ref (C 3)) none H)->(n∈ks->∀ H' ws',OffA [la,va] H H'->HAt (C 5) (C 0) H' ha la va (ks.filter λk=>decide (k≠n)) cr ws' fp->(∀ m,m∈ws'↔m∈ws/\m≠n/\n∉zaC ks cr m)->Q .non H')->Q40 K C vs H Q E
theorem HAt.dropL {cH cC:Addr}{H:Hp}{h la va:Addr}{ks vs:List Int}{cr:Int->Cr}{fp:List Addr}{kvs:List (Key × V)}{n:Int}(A:HAt cH cC H h la va ks cr vs fp)(hl:H la=some (.dK kvs))(s:∀ m∈vs,m≠n):HAt cH cC (upd H la (.dK (zbI kvs (.inl n)))) h la va (ks.filter λk=>decide (k≠n)) cr vs fp where
 ins:=by
  obtain⟨dx,z⟩:=A.ins
  exact⟨dx,by rw[zam (zjt z hl (by intro w;cases w))];exact z⟩
 laid:=by
  obtain⟨kl,z,q⟩:=A.laid
  rw[hl] at z
  cases z
  exact⟨_,zac,(q.mono λm v ⟨p,f,e1,e2,e3⟩=>(⟨p,f,e1,e2.nod (zcD hl),e3⟩:CrIn cC (upd H la (.dK (zbI kvs (.inl n)))) cr fp m v)).drop⟩
 vou:=by
  obtain⟨kv,z,q⟩:=A.vou
  exact⟨kv,by rw[zam A.ne.symm];exact z,q⟩
 ne:=A.ne
 rt:=λm hm=>A.rt m (List.mem_filter.mp hm).1
 few:=Nat.le_trans (List.length_filter_le _ _) A.few
 sub:=λm hm=>List.mem_filter.mpr ⟨A.sub m hm,decide_eq_true (s m hm)⟩
 has:=λb hb=>by
  obtain⟨o,z,n⟩:=A.has b hb
  exact⟨o,zcD hl b o z n,n⟩
include B Z in
theorem zii (Q4b:Mth (CX1 P w) P w K mg b8 (C 5) "must_stand" ["self","number"] 1 (Q4a K C))(Q53:Mth CX0 P w K mg b8 (C 5) "release_callers" ["self","number"] 3 (Q52 K C))(Q51:Mth CX0 P w K mg b8 (C 5) "release" ["self","number"] 1 (Q50 K C))(F:Fun K "tear" "Hall.tear" zc9 f fd)(M:Meth K (C 5) "tear" f):Mth (CX1 P w) P w K mg b8 (C 5) "tear" ["self","number"] 4 (Q40 K C):=by
 refine⟨f,fd,M,F.okx (k:=3) zh9 (λvs H Q E h=>?_) (λcdv A outer s H vs Q E hr h=>?_),F.binds λ_ _ _ _ _ _ us hl=>(by obtain⟨_,_,rfl⟩:=len2 hl;rfl)⟩
 ·first
  | (obtain⟨_,_,_,_,_,_,_,_,rfl,_⟩:=h;rfl)
 obtain⟨ha,la,va,n,ks,cr,ws,fp,rfl,hA,hn,qE,qQ⟩:=h
 refine⟨_,(zae (za9 (zch Q4b Z.c_Hall hr zg6 (pv 0) (zab (pv 1) zaa)))
   (zae (za9 (zch Q53 Z.c_Hall hr zdQ (pv 0) (zab (pv 1) zaa)))
   (zae (za9 (zch Q51 Z.c_Hall hr zdQ (pv 0) (zab (pv 1) zaa)))
   (zah (za9 (zi9 (zbk K (pv 0) rfl) (pv 1) ⟨rfl,rfl,rfl,rfl⟩)))))),?_⟩
 obtain⟨dx,hh⟩:=hA.ins
 obtain⟨kvs,hla,hk⟩:=hA.laid
 nofun
 walk_at "q"
 nofun
 refine⟨ha,dx,_,rfl,hh,zdo (by decide +kernel) (by decide +kernel),?_⟩
 nofun
 refine⟨ha,dx,la,va,n,kvs,rfl,hh,hla,hn,λz=>qE λhm=>?_,λz=>?_⟩
 ·obtain⟨v,e,_⟩:=hk.2.2 n hm
  rw[e] at z;cases z
 have hm:n∈ks:=Classical.byContradiction λw=>by rw[hk.no w] at z;cases z
 nofun
 walk_at "q"
 nofun
 refine⟨ha,dx,_,rfl,hh,zdo (by decide +kernel) (by decide +kernel),?_⟩
 nofun
 refine⟨ha,la,va,n,ks,cr,ws,fp,rfl,hA,λH1 ws1 o1 hA1 hm1=>?_⟩
 obtain⟨dx1,hh1⟩:=hA1.ins
 nofun
 walk_at "q"
 nofun
 refine⟨ha,dx1,_,rfl,hh1,zdo (by decide +kernel) (by decide +kernel),?_⟩
 nofun
 refine⟨ha,la,va,n,ks,cr,ws1,fp,rfl,hA1,λH2 ws2 o2 hA2 hm2=>?_⟩
 obtain⟨dx2,hh2⟩:=hA2.ins
 obtain⟨kv2,hla2,hk2⟩:=hA2.laid
 obtain⟨v,hv,_⟩:=hk2.2.2 n hm
 nofun
 refine⟨ha,(C 5),dx2,_,_,rfl,hh2,Z.c_Hall,Z.n_Hall_laid,zde _ _,?_⟩
 refine⟨la,rfl,.inl ⟨_,.inl hla2⟩,?_⟩
 nofun
 refine⟨kv2,.inl n,v,hla2,rfl,hv,?_⟩
 nofun
 have o12:OffA [la,va] H H2:=(o1.trans o2).putDict λb hb=>by rw[zms.mp hb];simp
 refine qQ hm _ ws2 (o12.trans (zcc (by simp))) (hA2.dropL hla2 λm hm'=>((hm2 m).mp hm').2) λm=>?_
 rw[hm2,hm1]
 exact⟨λz=>⟨z.1.1,z.2,z.1.2⟩,λz=>⟨⟨z.1,z.2.2⟩,z.2.1⟩⟩
inductive Q4c (K:Fg)(C:Nat->Addr)(vs:List V)(H:Hp)(Q:VK)(E:XK):Prop
 | mk (ha la va:Addr) (n:Int) (ks:List Int) (cr:Int->Cr) (ws:List Int) (fp:List Addr):vs=[.ref ha,.int n]->HAt (C 5) (C 0) H ha la va ks cr ws fp->n.natAbs<zbb->(n∉ks->E (.ref (C 3)) none H)->(n∈ks->(∃ m∈zaw (cr n).deeds,m∉ks)->∀ H',Same H H'->E (.ref (C 4)) none H')->(n∈ks->(∀ m∈zaw (cr n).deeds,m∈ks)->∀ v H',Same H H'->New H H' (.lst (((cr n).gs cr).map duD)) v->Q v H')->Q4c K C vs H Q E
include B Z in
theorem ze1 (Q4b:Mth (CX1 P w) P w K mg b8 (C 5) "must_stand" ["self","number"] 1 (Q4a K C))(G_duties:Fnx P w K mg b8 "duties" ["craft","crafts"] 6 (Q28 K C))(F:Fun K "duties_at" "Hall.duties_at" zbG f fd)(M:Meth K (C 5) "duties_at" f):Mth (CX1 P w) P w K mg b8 (C 5) "duties_at" ["self","number"] 7 (Q4c K C):=by
 refine⟨f,fd,M,F.okx (k:=6) zeV (λvs H Q E h=>?_) (λcdv A outer s H vs Q E hr h=>?_),F.binds λ_ _ _ _ _ _ us hl=>(by obtain⟨_,_,rfl⟩:=len2 hl;rfl)⟩
 ·first
  | (obtain⟨_,_,_,_,_,_,_,_,rfl,_⟩:=h;rfl)
 obtain⟨ha,la,va,n,ks,cr,ws,fp,rfl,hA,hn,q1,q2,q3⟩:=h
 refine⟨_,(zae (za9 (zch Q4b Z.c_Hall hr zg6 (pv 0) (zab (pv 1) zaa)))
   (zah (zap (zo9 G_duties hr rfl zg6 (za3 (zd4 (hr_u hr) (zbk K (pv 0) rfl) (pv 1) (λ_ _=>rfl)) (zbo (zbk K (pv 0) rfl) zaa)))))),?_⟩
 obtain⟨dx,hh⟩:=hA.ins
 obtain⟨kvs,hla,hk⟩:=hA.laid
 walk_at "q"
 nofun
 refine⟨ha,dx,_,rfl,hh,zdo (by decide +kernel) (by decide +kernel),?_⟩
 nofun
 refine⟨ha,dx,la,va,n,kvs,rfl,hh,hla,hn,λhv=>?_,λhv=>?_⟩
 ·refine q1 λz=>?_
  obtain⟨v,e,_⟩:=hk.2.2 n z
  rw[hv] at e;cases e
 have hm:n∈ks:=by
  refine Classical.byContradiction λz=>?_
  rw[hk.no z] at hv;cases hv
 obtain⟨v,hv,p,f,rfl,hC,hf⟩:=hk.2.2 n hm
 have rt:=hA.rt n hm
 nofun
 refine⟨ha,(C 5),dx,_,_,rfl,hh,Z.c_Hall,Z.n_Hall_laid,zde _ _,?_⟩
 nofun
 refine⟨la,.ref p,rfl,by rw[<-hv];exact DGet.k (k:=.inl n) hla,?_⟩
 nofun
 refine⟨ha,(C 5),dx,_,_,rfl,hh,Z.c_Hall,Z.n_Hall_laid,zde _ _,?_⟩
 nofun
 refine⟨p,la,(cr n).needs,(cr n).leaves,(cr n).deeds,(cr n).notes,kvs,zgO cr,rfl,hC.t rt.nine.d9,rt.good,rt.dok,hla,rt.calledMost,?_⟩
 by_cases hu:∃ m∈zaw (cr n).deeds,m∉ks
 ·obtain⟨m,mm,mk⟩:=hu
  exact .inl ⟨⟨m,mm,hk.no mk⟩,q2 hm ⟨m,mm,mk⟩⟩
 ·have hall:∀ m∈zaw (cr n).deeds,m∈ks:=λm mm=>Classical.byContradiction λz=>hu ⟨m,mm,z⟩
  refine .inr ⟨λm mm=>?_,λd hd=>?_,?_,λv H' s' n'=>q3 hm hall v H' s' ?_⟩
  ·obtain⟨v,e,_⟩:=hk.2.2 m (hall m mm)
   rw[e];rfl
  ·cases d with
   | call m g0 g1 t0 t1=>
    have mk:=hall m (zl2 hd)
    obtain⟨v,e,o,fo,rfl,hO,_⟩:=hk.2.2 m mk
    have g:=(hA.rt m mk).good
    exact⟨o,_,_,e,hO.at,by rw[zlm];exact g⟩
   | _=>trivial
  ·rw[<-zgN,zlm]
   have:=(rt.gs (cr:=cr) λm mm=>hA.rt m (hall m mm)).1
   unfold Cr.gs at this
   omega
  ·unfold Cr.gs
   rw[zgN]
   exact n'
inductive Q42 (K:Fg)(C:Nat->Addr)(vs:List V)(H:Hp)(Q:VK)(E:XK):Prop
 | mk (ha la va:Addr) (n:Int) (ks:List Int) (cr:Int->Cr) (ws:List Int) (fp:List Addr):vs=[.ref ha,.int n]->HAt (C 5) (C 0) H ha la va ks cr ws fp->n.natAbs<zbb->(n∉ks->E (.ref (C 3)) none H)->(n∈ks->(∃ m∈zaw (cr n).deeds,m∉ks)->∀ H',Same H H'->E (.ref (C 4)) none H')->(n∈ks->(∀ m∈zaw (cr n).deeds,m∈ks)->∀ v H' ws',OffA [va] H H'->HAt (C 5) (C 0) H' ha la va ks cr ws' fp->(∀ m,m∈ws'↔m∈ws\/(m=n/\zdN ((cr n).gs cr)))->New H H' (.lst (((cr n).gs cr).map λg=>rowD (zbL g.1 g.2))) v->Q v H')->Q42 K C vs H Q E
include B Z in
theorem zij (G_sought:Fn P w K mg b8 "sought" ["duty"] 3 (Q3c K))(Q4d:Mth (CX1 P w) P w K mg b8 (C 5) "duties_at" ["self","number"] 7 (Q4c K C))(F:Fun K "seek" "Hall.seek" zb5 f fd)(M:Meth K (C 5) "seek" f):Mth (CX1 P w) P w K mg b8 (C 5) "seek" ["self","number"] 8 (Q42 K C):=by
 refine⟨f,fd,M,F.okx (k:=7) ze7 (λvs H Q E h=>?_) (λcdv A outer s H vs Q E hr h=>?_),F.binds λ_ _ _ _ _ _ us hl=>(by obtain⟨_,_,rfl⟩:=len2 hl;rfl)⟩
 ·first
  | (obtain⟨_,_,_,_,_,_,_,_,rfl,_⟩:=h;rfl)
 obtain⟨ha,la,va,n,ks,cr,ws,fp,rfl,hA,hn,q1,q2,q3⟩:=h
 refine⟨_,(zae (zeM (i:=2) ze7.nd rfl rfl rfl (COk.m (sc0:=zad zb5) (N:=["self","number","rows"]) (N':=["self","number","rows","duty"]) (ms:=[false,false,false,true])) (zaK K (zch Q4d Z.c_Hall hr zg6 (pv 0) (zab (pv 1) zaa))) (λ_ _ _ _ _=>(zas (i:=3) (ndS (N:=["self","number","rows","duty"])) rfl (Or.inl rfl))) (λ_ _ _ _ _=>zav) (λ_ _ _ _ _=>(zak G_sought hr rfl (zab (pv 3) zaa))))
   (zae (zbj (zcZ (zaq (zfa K rfl) rfl B.all L2.zby (zbn (zaN rfl (COk.m (sc0:=zad zb5) (N:=["self","number","rows"]) (N':=["self","number","rows","row"]) (ms:=[false,false,false,true])) (zaK K (pv 2)) (λ_ _ _ _ _=>(zas (i:=3) (ndS (N:=["self","number","rows","row"])) rfl (Or.inl rfl))) (λ_ _ _ _ _=>zav) (λ_ _ _ _ _=>(zba zmY (pv 3) zfo (zaD _)))) zaa))) (zah (zfy (hr_u hr) (zbk K (pv 0) rfl) (pv 1) zfn rfl)) zaB)
   (zah (zap (pv 2))))),?_⟩
 obtain⟨dx,hh⟩:=hA.ins
 walk_at "q"
 nofun
 refine⟨ha,dx,_,rfl,hh,zdo (by decide +kernel) (by decide +kernel),?_⟩
 nofun
 refine⟨ha,la,va,n,ks,cr,ws,fp,rfl,hA,hn,q1,q2,λhm hall v H1 s1 n1=>?_⟩
 have rt:=hA.rt n hm
 obtain⟨gl,gf⟩:=rt.gs (cr:=cr) λm mm=>hA.rt m (hall m mm)
 have q3:=q3 hm hall
 generalize (cr n).gs cr=gs at *
 obtain⟨da,xs,dfp,rfl,da0,hda,hfr,_⟩:=New.lso n1
 have rX:=zai.duties hfr
 have lx:=rX.1
 refine⟨da,rfl,⟨_,SqL.of hda⟩,?_⟩
 refine zaA (zay (SqL.of hda)) (gs.map λg=>rowD (zbL g.1 g.2)) (by rw[zlm];exact lx) (zaj (by omega)) (λj x d H2 R hj hd s2 hx hR=>?_) (λv H2 s2 n2=>?_)
 ·rw[zgm] at hd
  obtain⟨g,hg,rfl⟩:=zme.mp hd
  obtain⟨T,ga,na,rfl,hT,hga,hL⟩:=(rX.2 j g x hg hx).same s2
  obtain⟨k9,k4,k99⟩:=gf g (zmg hg)
  obtain⟨ys,hna,lys,rys⟩:=hL.out (K:=K)
  nofun
  exact⟨T,ga,na,g.1,g.2,ys,rfl,SqT.of hT,hga,hna,rys,k9,k99,by omega,λv H3 s3 n3=>hR v H3 s3 n3⟩
 have s02:=s1.trans s2
 have n02:=n2.back s1
 obtain⟨ra,rvs,rfp,rfl,ra0,hra,hrr,_⟩:=New.lso n02
 have lr:=hrr.length
 rw[zlm] at lr
 nofun
 have hnon:∀ (j:Nat) g x,gs[j]?=some g->rvs[j]?=some x->decide (x=V.non)=!(zbL g.1 g.2).isSome:=λj g x e1 e2=>by
  obtain⟨f,hf⟩:=zai.item hrr j (rowD (zbL g.1 g.2)) x (by rw[zgm,e1];rfl) e2
  cases hs:zbL g.1 g.2 with
  | none=>rw[hs] at hf;unfold rowD RepF at hf;rw[hf.1];rfl
  | some r=>
   obtain⟨w,r⟩:=r
   rw[hs] at hf
   unfold rowD RepF at hf
   obtain⟨a,_,e,_⟩:=hf
   rw[e,zkW];rfl
 -- are all of them found
 with_reducible refine zdV (λσ H'=>σ=[some (.ref ha),some (.int n),some (.ref ra)]/\∃ ws',OffA [va] H2 H'/\HAt (C 5) (C 0) H' ha la va ks cr ws' fp/\(∀ m,m∈ws'↔m∈ws\/(m=n/\zdN gs))/\New H H' (.lst (gs.map λg=>rowD (zbL g.1 g.2))) (.ref ra)) (λNX tail=>?_) ?_
 ·nofun
  refine⟨ra,rfl,⟨_,SqL.of hra⟩,?_⟩
  refine zaA (zay (SqL.of hra)) ((gs.map λg=>(zbL g.1 g.2).isSome).map D.bl) (by simp[lr]) (zaj (by omega)) (λj x d H3 R hj hd s3 hx hR=>?_) (λv H3 s3 n3=>?_)
  ·rw[zgm,zgm] at hd
   obtain⟨b,hb,rfl⟩:=zme.mp hd
   obtain⟨g,hg,rfl⟩:=zme.mp hb
   nofun
   refine⟨rfl,?_⟩
   rw[hnon j g x hg hx,Bool.not_not]
   exact hR _ _ (Same.refl _) New.bl
  obtain⟨ba,rfl,ba0,hba⟩:=New.bls n3
  nofun
  refine zeQ (SqL.of hba) ?_
  have s03:=s02.trans s3
  cases hb:(gs.map λg=>(zbL g.1 g.2).isSome).all id with
  | true=>
   have af:zdN gs:=λg hg=>by
    rw[List.all_map,List.all_eq_true] at hb
    exact hb g hg
   have hA3:=hA.same s03
   obtain⟨dx3,hh3⟩:=hA3.ins
   obtain⟨kv,hva,hkv⟩:=hA3.vou
   nofun
   refine⟨ha,(C 5),dx3,_,_,rfl,hh3,Z.c_Hall,Z.n_Hall_vouched,zdM _ _,?_⟩
   nofun
   have kl:=hkv.len
   have vl:=hA3.vfew
   refine⟨va,_,rfl,DPut.k (k:=.inl n) hva (zbr (by omega)),?_⟩
   have put:=hkv.put (m:=n) (v:=.bl true) rfl
   have wss:∀ m,m∈(if n∈ws then ws else ws++[n])↔m∈ws\/m=n:=λm=>by
    by_cases z:n∈ws
    ·rw[if_pos z]
     exact⟨.inl,λw=>by rcases w with w | w;exact w;rw[w];exact z⟩
    ·rw[if_neg z];simp
   refine tail _ _ ⟨rfl,_,s3.offA.trans (zcc (by simp)),hA3.putV put λm hm'=>?_,λm=>?_,(n02.same s3).sq (zcD hva).sq⟩
   ·rcases (wss m).mp hm' with w | w
    ·exact hA.sub m w
    ·rw[w];exact hm
   ·rw[wss]
    exact⟨λz=>by rcases z with z | z;exact .inl z;exact .inr ⟨z,af⟩,λz=>by rcases z with z | z;exact .inl z;exact .inr z.1⟩
  | false=>
   have af:¬ zdN gs:=λz=>by
    have:(gs.map λg=>(zbL g.1 g.2).isSome).all id=true:=by
     rw[List.all_map,List.all_eq_true];exact z
    rw[this] at hb;cases hb
   nofun
   exact tail _ _ ⟨rfl,ws,s3.offA,hA.same s03,λm=>⟨.inl,λz=>by rcases z with z | z;exact z;exact absurd z.2 af⟩,n02.same s3⟩
 rintro σ H3 ⟨rfl,ws3,o3,hA3,hm3,n3⟩
 nofun
 exact q3 _ _ ws3 (s02.offA.trans o3) hA3 hm3 n3
inductive Q44 (K:Fg)(C:Nat->Addr)(vs:List V)(H:Hp)(Q:VK)(E:XK):Prop
 | mk (ha la va:Addr) (n:Int) (ks:List Int) (cr:Int->Cr) (ws:List Int) (fp:List Addr):vs=[.ref ha,.int n]->HAt (C 5) (C 0) H ha la va ks cr ws fp->Q (.bl (decide (n∈ws))) H->Q44 K C vs H Q E
include B Z in
theorem zik (F:Fun K "held" "Hall.held" zda f fd)(M:Meth K (C 5) "held" f):Mth CX0 P w K mg b8 (C 5) "held" ["self","number"] 1 (Q44 K C):=by
 refine⟨f,fd,M,F.ok (k:=0) zia (λvs H Q E h=>?_) (λcdv A outer s H vs Q E hr h=>?_),F.binds λ_ _ _ _ _ _ us hl=>(by obtain⟨_,_,rfl⟩:=len2 hl;rfl)⟩
 ·first
  | (obtain⟨_,_,_,_,_,_,_,_,rfl,_⟩:=h;rfl)
 obtain⟨ha,la,va,n,ks,cr,ws,fp,rfl,hA,q⟩:=h
 refine⟨_,(zah (zap (zi0 (zgG (hr_u hr) (pv 1) (zbk K (pv 0) rfl))))),?_⟩
 obtain⟨dx,hh⟩:=hA.ins
 obtain⟨kvs,hva,hk⟩:=hA.vou
 nofun
 refine⟨ha,(C 5),dx,_,_,rfl,hh,Z.c_Hall,Z.n_Hall_vouched,zdM _ _,?_⟩
 refine⟨va,_,rfl,DGet.k (k:=.inl n) hva,?_⟩
 by_cases hm:n∈ws
 ·obtain⟨v,hv,_⟩:=hk.2.2 n hm
  rw[hv]
  rw[decide_eq_true hm] at q
  exact q
 ·rw[hk.no hm]
  rw[decide_eq_false hm] at q
  exact q
inductive ReachI (ks:List Int)(cr:Int->Cr)(n:Int):Int->Prop
 | me:ReachI ks cr n n
 | go {m k:Int} : ReachI ks cr n m->k∈zaC ks cr m->ReachI ks cr n k
inductive Q46 (K:Fg)(C:Nat->Addr)(vs:List V)(H:Hp)(Q:VK)(E:XK):Prop
 | mk (ha la va:Addr) (n:Int) (ks:List Int) (cr:Int->Cr) (ws:List Int) (fp:List Addr) (us:List Int):vs=[.ref ha,.int n]->HAt (C 5) (C 0) H ha la va ks cr ws fp->n∈us->(∀ m,∀ k∈zaC ks cr m,k∈us)->us.length<64->(∀ l H' (rs:List Int),Same H H'->H l=none->H' l=some (.lst (rs.map V.int))->(∀ m,m∈rs↔ReachI ks cr n m)->rs.Pairwise (·<=·)->rs.Nodup->Q (.ref l) H')->Q46 K C vs H Q E
theorem zpu {ks:List Int}{cr:Int->Cr}(h:∀ m∈ks,(cr m).Rt)(m:Int):(zaC ks cr m).length<=8:=by
 unfold zaC
 split
 ·rename_i z
  have:=(h m z).parts.2.2.1.2
  have:(zaw (cr m).deeds).length<=(cr m).deeds.length:=List.length_filterMap_le _ _
  omega
 ·simp
include B Z in
theorem zhr (Q4f:Mth CX0 P w K mg b8 (C 5) "called_at" ["self","number"] 2 (Q4e K C))(F:Fun K "reach" "Hall.reach" zcL f fd)(M:Meth K (C 5) "reach" f):Mth CX0 P w K mg b8 (C 5) "reach" ["self","number"] 3 (Q46 K C):=by
 refine⟨f,fd,M,F.ok (k:=2) zcs (λvs H Q E h=>?_) (λcdv A outer s H vs Q E hr h=>?_),F.binds λ_ _ _ _ _ _ us hl=>(by obtain⟨_,_,rfl⟩:=len2 hl;rfl)⟩
 ·first
  | (obtain⟨_,_,_,_,_,_,_,_,_,rfl,_⟩:=h;rfl)
 obtain⟨ha,la,va,n,ks,cr,ws,fp,us,rfl,hA,nu,hu,lu,q⟩:=h
 refine⟨_,(zae (zat (i:=2) zcs.nd rfl (Or.inl rfl) zem)
   (zae (zat (i:=3) zcs.nd rfl (Or.inl rfl) (zaL (zab (pv 1) zaa)))
   (zae (zlq PassesOwn.never (k_tru K (pv 3)) (zae (zat (i:=4) zcs.nd rfl (Or.inl rfl) (zor PySem.F.plainAttrs_list PySem.F.slot_list_pop PySem.F.type_list_pop zos (pv 3)))
   (zah (zbj (zhw (zfx (hr_u hr) (pv 4) (pv 2))) (zae (zfy (hr_u hr) (pv 2) (pv 4) zfn rfl)
   (zah (za9 (zjE PySem.F.plainAttrs_list PySem.F.slot_list_extend PySem.F.type_list_extend zhH (pv 3) (zaF (zch Q4f Z.c_Hall hr zdQ (pv 0) (zab (pv 4) zaa)) zaa))))) zaB))))
   (zah (zap (zaq (zci rfl) rfl B.sorted L2.zbK (zab (pv 2) zaa))))))),?_⟩
 nofun
 walk_at "q"
 nofun
 intro ra ra0
 have s1:=zaf ra0 (.dK [])
 have hra1:(upd H ra (.dK [])) ra=some (.dK []):=zac
 generalize upd H ra (.dK [])=H1 at *
 nofun
 walk_at "q"
 nofun
 refine⟨(by walk_at "sm"),λwa wa1=>?_⟩
 have s2:=s1.trans (zaf wa1 (.lst [V.int n]))
 have hra2:=zaf wa1 (.lst [V.int n]) _ _ hra1
 have wa0:=s1.free wa1
 have hwa2:(upd H1 wa (.lst [V.int n])) wa=some (.lst ([n].map V.int)):=zac
 generalize upd H1 wa (.lst [V.int n])=H2 at *
 nofun
 with_reducible refine zdV (λσ H'=>E3 λx4 kvs rs=>A6 (σ=[some (.ref ha),some (.int n),some (.ref ra),some (.ref wa),x4]) (Same H H') (H' ra=some (.dK kvs)) (KVs (λ_ v=>v=.bl true) kvs rs) ((∀ m,m∈rs↔ReachI ks cr n m)) (rs.length<64)) (λNX tail=>?_) ?_
 ·refine⟨(λm σ H'=>E4 λx4 kvs wt rs=>A10 (σ=[some (.ref ha),some (.int n),some (.ref ra),some (.ref wa),x4]) (m=9 * (us.length - rs.length)+wt.length) (Same H H') (H' ra=some (.dK kvs)) (H' wa=some (.lst (wt.map V.int))) (KVs (λ_ v=>v=.bl true) kvs rs) ((∀ m,m∈rs\/m∈wt->ReachI ks cr n m/\m∈us)) ((∀ m∈rs,∀ k∈zaC ks cr m,k∈rs\/k∈wt)) ((n∈rs\/n∈wt)) (9 * (us.length - rs.length)+wt.length<=600)),⟨_,none,[],[n],[],rfl,rfl,s2,hra2,hwa2,KVs.nil,(λm hm=>by
   rcases hm with z | z
   ·cases z
   ·rw[zms.mp z];exact⟨.me,nu⟩),(λm hm=>by cases hm),.inr (zms.mpr rfl),by simp;omega⟩,?_⟩
  rintro m σ H3 ⟨x4,kvs,wt,rs,rfl,rfl,s3,hra3,hwa3,hk3,ru3,cl3,n3,l3⟩
  have rlen:rs.length<=us.length:=zbM hk3.2.1 λm hm=>(ru3 m (.inl hm)).2
  nofun
  refine zpk (SqL.of hwa3) ?_
  rcases List.eq_nil_or_concat wt with rfl | ⟨wt,o,rfl⟩
  ·nofun
   refine tail _ _ ⟨x4,kvs,rs,rfl,s3,hra3,hk3,λm=>⟨λz=>(ru3 m (.inl z)).1,λz=>?_⟩,by omega⟩
   induction z with
   | me=>exact n3.resolve_right (by simp)
   | go _ hk ih=>exact (cl3 _ ih _ hk).resolve_right (by simp)
  ·have e:(wt.concat o).map V.int=wt.map V.int++[V.int o]:=by rw[List.concat_eq_append,List.map_append];rfl
   rw[e] at hwa3
   rw[e]
   rw[List.length_concat] at l3 ⊢
   have mo:∀ {x:Int},x∈wt.concat o↔x∈wt\/x=o:=λ{x}=>by rw[List.concat_eq_append,zma,zms]
   obtain⟨ro,uo⟩:=ru3 o (.inr (mo.mpr (.inr rfl)))
   have nwr:ra≠wa:=zjt hra3 hwa3 (by intro z;cases z)
   rw[show (!(wt.map V.int++[V.int o]).isEmpty)=true by cases wt <;> rfl]
   nofun
   refine⟨(λσ H'=>E4 λx4 kvs wt' rs'=>A9 (σ=[some (.ref ha),some (.int n),some (.ref ra),some (.ref wa),x4]) (9 * (us.length - rs'.length)+wt'.length<9 * (us.length - rs.length)+(wt.length+1)) (Same H H') (H' ra=some (.dK kvs)) (H' wa=some (.lst (wt'.map V.int))) (KVs (λ_ v=>v=.bl true) kvs rs') ((∀ m,m∈rs'\/m∈wt'->ReachI ks cr n m/\m∈us)) ((∀ m∈rs',∀ k∈zaC ks cr m,k∈rs'\/k∈wt')) ((n∈rs'\/n∈wt'))),λσ' H' ⟨y4,kvs',wt',rs',z1,z2,z3,z4,z5,z6,z7,z8,z9⟩=>⟨_,z2,y4,kvs',wt',rs',z1,rfl,z3,z4,z5,z6,z7,z8,z9,by omega⟩,?_⟩
   nofun
   walk_at "q"
   nofun
   refine⟨tyL hwa3,?_⟩
   nofun
   refine i_pop hwa3 (y:=.int o) (by rw[List.length_append];simp) ?_
   rw[List.dropLast_concat]
   have s4:Same H (upd H3 wa (.lst (wt.map V.int))):=s3.put wa0
   have hwa4:(upd H3 wa (.lst (wt.map V.int))) wa=some (.lst (wt.map V.int)):=zac
   have hra4:(upd H3 wa (.lst (wt.map V.int))) ra=some (.dK kvs):=by rw[zam nwr];exact hra3
   generalize upd H3 wa (.lst (wt.map V.int))=H4 at *
   nofun
   by_cases ho:o∈rs
   ·obtain⟨v,e1,_⟩:=hk3.2.2 o ho
    refine⟨ra,some v,rfl,by rw[<-e1];exact DGet.k (k:=.inl o) hra4,?_⟩
    dsimp only[Option.isSome]
    nofun
    refine⟨_,kvs,wt,rs,rfl,by omega,s4,hra4,hwa4,hk3,λm hm=>ru3 m (hm.imp_right λz=>mo.mpr (.inl z)),λm hm k hk=>?_,?_⟩
    ·rcases cl3 m hm k hk with z | z
     ·exact .inl z
     ·rcases mo.mp z with w | w
      ·exact .inr w
      ·rw[w];exact .inl ho
    ·rcases n3 with z | z
     ·exact .inl z
     ·rcases mo.mp z with w | w
      ·exact .inr w
      ·rw[w];exact .inl ho
   ·refine⟨ra,none,rfl,by rw[<-hk3.no ho];exact DGet.k (k:=.inl o) hra4,?_⟩
    dsimp only[Option.isSome]
    have kl:=hk3.len
    nofun
    walk_at "q"
    nofun
    refine⟨ra,_,rfl,DPut.k (k:=.inl o) hra4 (zbr (by omega)),?_⟩
    have put:=hk3.put (m:=o) (v:=.bl true) rfl
    rw[if_neg ho] at put
    have s5:Same H (upd H4 ra (.dK (putK kvs (.inl o) (.bl true)))):=s4.put ra0
    have hra5:(upd H4 ra (.dK (putK kvs (.inl o) (.bl true)))) ra=some (.dK (putK kvs (.inl o) (.bl true))):=zac
    have hwa5:(upd H4 ra (.dK (putK kvs (.inl o) (.bl true)))) wa=some (.lst (wt.map V.int)):=by rw[zam nwr.symm];exact hwa4
    generalize upd H4 ra (.dK (putK kvs (.inl o) (.bl true)))=H5 at *
    have hA5:=hA.same s5
    obtain⟨dx,hh⟩:=hA5.ins
    nofun
    refine⟨tyL hwa5,?_⟩
    nofun
    refine⟨ha,dx,_,rfl,hh,zdo (by decide +kernel) (by decide +kernel),?_⟩
    nofun
    refine⟨ha,la,va,o,ks,cr,ws,fp,rfl,hA5,λv H6 s6 n6=>?_⟩
    obtain⟨ca,rfl,ca0,hca⟩:=New.iif.mp n6
    have c8:=zpu hA.rt o
    nofun
    refine⟨wa,ca,_,_,rfl,rfl,s6 _ _ hwa5,hca,Nat.le_trans (m:=1000) (by rw[zlm,zlm];omega) (by decide),?_⟩
    have s7:Same H (upd H6 wa (.lst (wt.map V.int++(zaC ks cr o).map V.int))):=(s5.trans s6).put wa0
    have rl2:rs.length<us.length:=by
     have:=zbM (l:=rs++[o]) (m:=us) put.2.1 λm hm=>by
      rcases zma.mp hm with z | z
      ·exact (ru3 m (.inl z)).2
      ·rw[zms.mp z];exact uo
     rw[List.length_append] at this
     exact this
    nofun
    refine⟨_,_,wt++zaC ks cr o,rs++[o],rfl,by rw[List.length_append,List.length_append];show 9 * (us.length - (rs.length+1))+_<_;omega,s7,by rw[zam nwr];exact s6 _ _ hra5,by rw[zac,List.map_append],put,λm hm=>?_,λm hm k hk=>?_,?_⟩
    ·rcases hm with z | z
     ·rcases zma.mp z with w | w
      ·exact ru3 m (.inl w)
      ·rw[zms.mp w];exact⟨ro,uo⟩
     ·rcases zma.mp z with w | w
      ·exact ru3 m (.inr (mo.mpr (.inl w)))
      ·exact⟨.go ro w,hu o m w⟩
    ·rcases zma.mp hm with z | z
     ·rcases cl3 m z k hk with w | w
      ·exact .inl (List.mem_append_left _ w)
      ·rcases mo.mp w with y | y
       ·exact .inr (List.mem_append_left _ y)
       ·rw[y];exact .inl (List.mem_append_right _ (zms.mpr rfl))
     ·rw[zms.mp z] at hk
      exact .inr (List.mem_append_right _ hk)
    ·rcases n3 with z | z
     ·exact .inl (List.mem_append_left _ z)
     ·rcases mo.mp z with w | w
      ·exact .inr (List.mem_append_left _ w)
      ·rw[w];exact .inl (List.mem_append_right _ (zms.mpr rfl))
 rintro σ H3 ⟨x4,kvs,rs,rfl,s3,hra3,hk3,hrs,l64⟩
 nofun
 refine znG hra3 hk3.1 l64 λl rs' l0 pm so=>?_
 exact q l _ rs' (s3.trans (zaf l0 _)) (s3.free l0) zac (λm=>by rw[pm.mem_iff];exact hrs m) so (pm.nodup_iff.mpr hk3.2.1)
inductive Q48 (K:Fg)(C:Nat->Addr)(vs:List V)(H:Hp)(Q:VK)(E:XK):Prop
 | mk (ha la va:Addr) (n:Int) (ks:List Int) (cr:Int->Cr) (ws:List Int) (fp:List Addr) (us:List Int):vs=[.ref ha,.int n]->HAt (C 5) (C 0) H ha la va ks cr ws fp->n∈us->(∀ m,∀ k∈zaC ks cr m,k∈us)->us.length<64->(∀ H' b,Same H H'->(b=true↔∀ m,ReachI ks cr n m->m∈ws)->Q (.bl b) H')->Q48 K C vs H Q E
include B Z in
theorem zhs (Q45:Mth CX0 P w K mg b8 (C 5) "held" ["self","number"] 1 (Q44 K C))(Q47:Mth CX0 P w K mg b8 (C 5) "reach" ["self","number"] 3 (Q46 K C))(F:Fun K "sworn" "Hall.sworn" zcg f fd)(M:Meth K (C 5) "sworn" f):Mth CX0 P w K mg b8 (C 5) "sworn" ["self","number"] 4 (Q48 K C):=by
 refine⟨f,fd,M,F.ok (k:=3) zhh (λvs H Q E h=>?_) (λcdv A outer s H vs Q E hr h=>?_),F.binds λ_ _ _ _ _ _ us hl=>(by obtain⟨_,_,rfl⟩:=len2 hl;rfl)⟩
 ·first
  | (obtain⟨_,_,_,_,_,_,_,_,_,rfl,_⟩:=h;rfl)
 obtain⟨ha,la,va,n,ks,cr,ws,fp,us,rfl,hA,nu,hu,lu,q⟩:=h
 refine⟨_,(zah (zap (zaq (zfa K rfl) rfl B.all L2.zby (zbn (zaN rfl (COk.m (sc0:=zad zcg) (N:=["self","number"]) (N':=["self","number","other"]) (ms:=[false,false,true])) (zaK K (zch Q47 Z.c_Hall hr zdQ (pv 0) (zab (pv 1) zaa))) (λ_ _ _ _ _=>(zas (i:=2) (ndS (N:=["self","number","other"])) rfl (Or.inl rfl))) (λ_ _ _ _ _=>zav) (λ_ _ _ _ _=>(zch Q45 Z.c_Hall hr zdQ (pv 0) (zab (pv 2) zaa)))) zaa)))),?_⟩
 obtain⟨dx,hh⟩:=hA.ins
 nofun
 refine⟨ha,dx,_,rfl,hh,zdo (by decide +kernel) (by decide +kernel),?_⟩
 nofun
 refine⟨ha,la,va,n,ks,cr,ws,fp,us,rfl,hA,nu,hu,lu,λl H1 rs s1 l0 hl hrs so nd=>?_⟩
 have rl:rs.length<=us.length:=zbM nd λm hm=>by
  cases (hrs m).mp hm with
  | me=>exact nu
  | go _ hk=>exact hu _ _ hk
 have hA1:=hA.same s1
 refine⟨l,rfl,⟨_,SqL.of hl⟩,?_⟩
 refine zaA (zay (SqL.of hl)) ((rs.map λm=>decide (m∈ws)).map D.bl) (by simp) (zaj (by simp;omega)) (λj x d H2 R hj hd s2 hx hR=>?_) (λv H2 s2 n2=>?_)
 ·rw[zgm] at hx
  obtain⟨m,hm,rfl⟩:=zme.mp hx
  rw[zgm,zgm,hm] at hd
  cases hd
  have hA2:=hA1.same s2
  obtain⟨dx2,hh2⟩:=hA2.ins
  nofun
  refine⟨ha,dx2,_,rfl,hh2,zdo (by decide +kernel) (by decide +kernel),?_⟩
  nofun
  refine⟨ha,la,va,m,ks,cr,ws,fp,rfl,hA2,?_⟩
  exact hR _ _ (Same.refl _) New.bl
 obtain⟨ba,rfl,ba0,ba1⟩:=New.bls n2
 nofun
 refine zeQ (SqL.of ba1) ?_
 refine q _ _ (s1.trans s2) ?_
 rw[List.all_eq_true]
 constructor
 ·intro z m hm
  have:=z (decide (m∈ws)) (zmm.mpr ⟨m,(hrs m).mpr hm,rfl⟩)
  exact of_decide_eq_true this
 ·intro z b hb
  obtain⟨m,hm,rfl⟩:=zmm.mp hb
  exact decide_eq_true (z m ((hrs m).mp hm))
inductive Q58 (K:Fg)(vs:List V)(H:Hp)(Q:VK)(E:XK):Prop
 | mk (c k m:Int):vs=[.int c,.int k,.int m]->0<m->Q (.int (mix c k m)) H->Q58 K vs H Q E
theorem ziW {H:Hp}{Q:VK}{E:XK}{c k m:Int}(h:0<m)(q:Q (.int (mix c k m)) H):Q58 K [.int c,.int k,.int m] H Q E:=⟨c,k,m,rfl,h,q⟩
include B Z in
theorem zmj (F:Fun K "_law_mix" "_law_mix" zgT f fd)(m:mg "_law_mix"=some (.ref f)):Fn P w K mg b8 "_law_mix" ["cell","k","many"] 1 (Q58 K):=by
 refine Fn.of (k:=0) F zl6 m (λ_ _ _ _ _ _ us hl=>(by obtain⟨_,_,_,rfl⟩:=len3 hl;rfl)) (λvs H Q E h=>?_) (λcdv A outer s H vs Q E hr h=>?_)
 ·first
  | (obtain⟨_,_,_,rfl,_⟩:=h;rfl)
 obtain⟨c,k,m,rfl,hm,q⟩:=h
 refine⟨_,(zah (zap (zaS zej (zaS zis (zaS zej (zaS zcP (zaS (zaV K) (zaS zej (pv 0) zag) zag) (zaS (zaV K) zag (zaS zcP zag (pv 1)))) zag) zag) (pv 2)))),?_⟩
 have h1:=Int.emod_nonneg c (show (2147483647:Int)≠0 by decide)
 have h2:=Int.emod_lt_of_pos c (show (0:Int)<2147483647 by decide)
 ac_rfl
 exact q
def DsAt (H:Hp)(ds:List Dd)(v:V):Prop:=∃ l dvs,v=.ref l/\H l=some (.lst dvs)/\R2 (λd x=>zaW H (toD d) x) ds dvs
def kD:Dd->Prop
 | .hold l=>∃ c:Int,0<=c/\c<=4/\l=[c,0,0,0,0,0,0,0,0]
 | .call m g0 g1 t0 t1=>0<=m/\m<100/\g0=0/\g1=1/\t0=2/\t1=3
 | _=>False
theorem kD.l9 {d:Dd}(h:kD d):zes d:=by
 cases d <;> first | exact h.elim | trivial | (obtain⟨c,_,_,e⟩:=h;subst e;rfl)
theorem znR {H:Hp}{dvs:List V}{ds:List Dd}(r:R2 (λd x=>zaW H (toD d) x) ds dvs):∀ y∈dvs,∀ i,y≠V.int i:=λy hy i z=>by
 obtain⟨k,hk⟩:=List.getElem?_of_mem hy
 have hl:k<ds.length:=by rw[r.1];exact (zge.mp hk).1
 obtain⟨t,xs,e,_⟩:=zd9 (r.2 k _ y (List.getElem?_eq_getElem hl) hk)
 rw[e] at z;cases z
theorem zmP {H:Hp}{l t:Addr}{dvs:List V}{ds:List Dd}{d:Dd}(hl:H l=some (.lst dvs))(r:R2 (λd x=>zaW H (toD d) x) ds dvs)(k:∀ d∈ds,zes d)(dr:zaW H (toD d) (.ref t))(l9:zes d):R2 (λd x=>zaW (upd H l (.lst (dvs++[.ref t]))) (toD d) x) (ds++[d]) (dvs++[.ref t]):=by
 have up:∀ {d:Dd}{x:V},zaW H (toD d) x->zes d->zaW (upd H l (.lst (dvs++[.ref t]))) (toD d) x:=λ{d x} h h9=>zaW.updL h h9 hl (znR r)
 refine⟨by simp[r.1],λi e x e1 e2=>?_⟩
 by_cases z:i<ds.length
 ·rw[List.getElem?_append_left z] at e1
  rw[List.getElem?_append_left (by rw[<-r.1];exact z)] at e2
  exact up (r.2 i e x e1 e2) (k e (zmg e1))
 ·rw[List.getElem?_append_right (by omega)] at e1
  rw[List.getElem?_append_right (by rw[<-r.1];omega),<-r.1] at e2
  match h:i - ds.length,e1,e2 with
  | 0,e1,e2=>cases e1;cases e2;exact up dr l9
  | j+1,e1,e2=>simp at e1
inductive Q5b (K:Fg)(vs:List V)(H:Hp)(Q:VK)(E:XK):Prop
 | mk (cc:Int) (na:Addr) (ns:List Int):vs=[.int cc,.ref na]->SqL K H na (ns.map V.int)->0<ns.length->ns.length<=63->(∀ n∈ns,0<=n/\n<100)->(∀ l H' ds,Same H H'->H l=none->DsAt H' ds (.ref l)->(∀ d∈ds,kD d)->1<=ds.length->ds.length<=3->Q (.ref l) H')->Q5b K vs H Q E
include B Z in
theorem zj3 (Q59:Fn P w K mg b8 "_law_mix" ["cell","k","many"] 1 (Q58 K))(F:Fun K "_law_deeds" "_law_deeds" zef f fd)(m:mg "_law_deeds"=some (.ref f)):Fn P w K mg b8 "_law_deeds" ["cell","numbers"] 2 (Q5b K):=by
 refine Fn.of (k:=1) F zc7 m (λ_ _ _ _ _ _ us hl=>(by obtain⟨_,_,rfl⟩:=len2 hl;rfl)) (λvs H Q E h=>?_) (λcdv A outer s H vs Q E hr h=>?_)
 ·first
  | (obtain⟨_,_,_,rfl,_⟩:=h;rfl)
 obtain⟨cc,na,ns,rfl,hna,n0,n63,hb,q⟩:=h
 refine⟨_,(zae (zat (i:=2) zc7.nd rfl (Or.inl rfl) (zaL zaa))
   (zae (zcM PassesOwn.never rfl (zcx rfl B.range (zbt (zaS (zaV K) zag (zaS zej (pv 0) zag)) zaa)) (zas (i:=3) zc7.nd rfl (Or.inl rfl)) (zae (zat (i:=4) zc7.nd rfl (Or.inl rfl) (zaH (k_ix K) (pv 1) (zak Q59 hr rfl (zab (pv 0) (zab (pv 3) (zaF (zaq (zdm K) rfl B.len L2.boot_len (zab (pv 1) zaa)) zaa)))) (λ_ _=>rfl)))
   (zae (zbj (zaM (k_eq K hr) (zak Q59 hr rfl (zab (pv 0) (zbt (zaS (zaV K) zag (pv 3)) (zao zag zaa)))) zag (zaD _)) (zah (zat (i:=4) zc7.nd rfl (Or.inl rfl) (zak Q59 hr rfl (zab (pv 0) (zbt (zaS (zaV K) zag (pv 3)) (zao zag zaa)))))) zaB)
   (zah (zbj (zaM (k_eq K hr) (zak Q59 hr rfl (zab (pv 0) (zbt (zaS (zaV K) zag (pv 3)) (zao zag zaa)))) zag (zaD _)) (zah (za9 (zjE PySem.F.plainAttrs_list PySem.F.slot_list_append PySem.F.type_list_append zc0 (pv 2) (ze4 (zdT (zao zb3 (zbt (zaS (zaV K) (zaL (zaF (zak Q59 hr rfl (zab (pv 0) (zbt (zaS (zaV K) zag (pv 3)) (zao zag zaa)))) zaa)) (zaS zcP (zaL (zao zag zaa)) zag)) zaa))) zaa)))) (zah (za9 (zjE PySem.F.plainAttrs_list PySem.F.slot_list_append PySem.F.type_list_append zc0 (pv 2) (ze4 (zdT (zao zb3 (zab (pv 4) (ze4 (zdT (zao zag (zao zag zaa))) (ze4 (zdT (zao zag (zao zag zaa))) zaa))))) zaa)))))))))
   (zah (zap (pv 2))))),?_⟩
 walk_at "q"
 nofun
 refine⟨(by walk_at "sm"),λl hl=>?_⟩
 have s1:=zaf hl (.lst [])
 have g1:(upd H l (.lst [])) l=some (.lst []):=zac
 generalize upd H l (.lst [])=H1 at *
 nofun
 walk_at "q"
 nofun
 have c0:=Int.emod_nonneg cc (show (3:Int)≠0 by decide)
 have c1:=Int.emod_lt_of_pos cc (show (0:Int)<3 by decide)
 refine zd5 (by omega) (by omega) ?_
 refine zg3 (λi σ H'=>E4 λx y ds dvs=>A6 (σ=[some (.int cc),some (.ref na),some (.ref l),x,y]) (Same H H') (H' l=some (.lst dvs)) (R2 (λd x=>zaW H' (toD d) x) ds dvs) ((∀ d∈ds,kD d)) (ds.length=i)) ⟨none,none,[],[],rfl,s1,g1,⟨rfl,λi d x e _=>by simp at e⟩,λd hd=>(by cases hd),rfl⟩ ?_ ?_
 ·rintro i σ H2 hi ⟨x,y,ds,dvs,rfl,s2,hl2,r2,hd,hlen⟩
  nofun
  walk_at "q"
  nofun
  have hna2:=s2.seq hna
  refine zdR (.inl hna2) ?_
  rw[zlm]
  nofun
  refine ziW (by omega) ?_
  have b0:=zdL (c:=cc) (k:=0+(i:Int)) (show 0<(ns.length:Int) by omega)
  have b1:=zji (c:=cc) (k:=0+(i:Int)) (show 0<(ns.length:Int) by omega)
  generalize mix cc (0+(i:Int)) (ns.length:Int)=j at b0 b1 ⊢
  have hj:j.toNat<ns.length:=by omega
  refine zgf hna2 (v:=.int ns[j.toNat]) (zkX b0 (by rw[zgm,List.getElem?_eq_getElem hj];rfl)) ?_
  have hb1:=hb _ (List.getElem_mem hj)
  generalize ns[j.toNat]=m0 at hb1 ⊢
  nofun
  with_reducible refine zdV (λσ H'=>∃ m:Int,0<=m/\m<100/\σ=[some (.int cc),some (.ref na),some (.ref l),some (.int (0+(i:Int))),some (.int m)]/\H'=H2) (λNX hN=>?_) (λσ H' hM=>?_)
  ·nofun
   refine ziW (by decide) ?_
   nofun
   refine ite2 (λe=>?_) (λe=>?_)
   ·nofun
    refine ziW (by decide) ?_
    nofun
    exact hN _ _ ⟨_,zdL (by decide),zji (by decide),rfl,rfl⟩
   ·nofun
    exact hN _ _ ⟨_,hb1.1,hb1.2,rfl,rfl⟩
  obtain⟨m,e0,e1,rfl,rfl⟩:=hM
  nofun
  refine ziW (by decide) ?_
  nofun
  refine ite2 (λe=>?_) (λe=>?_)
  ·nofun
   refine⟨tyL hl2,?_⟩
   nofun
   refine ziW (by decide) ?_
   have x0:=zdL (c:=cc) (k:=40+(0+(i:Int))) (m:=5) (by decide)
   have x1:=zji (c:=cc) (k:=40+(0+(i:Int))) (m:=5) (by decide)
   generalize mix cc (40+(0+(i:Int))) 5=c at x0 x1 ⊢
   nofun
   refine⟨(by walk_at "sm"),λb1 hb1'=>?_⟩
   have s3:=zaf hb1' (.lst [V.int c])
   have g3:(upd H' b1 (.lst [V.int c])) b1=some (.lst [V.int c]):=zac
   generalize upd H' b1 (.lst [V.int c])=H3 at *
   nofun
   refine⟨(by walk_at "sm"),λb2 hb2=>?_⟩
   have s4:=zaf hb2 (.lst [V.int 0])
   have g4:(upd H3 b2 (.lst [V.int 0])) b2=some (.lst [V.int 0]):=zac
   generalize upd H3 b2 (.lst [V.int 0])=H4 at *
   nofun
   refine .inr ⟨b2,8,[V.int 0],rfl,rfl,g4,by decide,by decide,by walk_at "sm",λb3 hb3=>?_⟩
   have s5:=zaf hb3 (.lst [V.int 0,.int 0,.int 0,.int 0,.int 0,.int 0,.int 0,.int 0])
   have g5:(upd H4 b3 (.lst [V.int 0,.int 0,.int 0,.int 0,.int 0,.int 0,.int 0,.int 0])) b3=some (.lst [V.int 0,.int 0,.int 0,.int 0,.int 0,.int 0,.int 0,.int 0]):=zac
   show zjI K _ _ (upd H4 b3 (.lst [V.int 0,.int 0,.int 0,.int 0,.int 0,.int 0,.int 0,.int 0])) _
   generalize upd H4 b3 (.lst [V.int 0,.int 0,.int 0,.int 0,.int 0,.int 0,.int 0,.int 0])=H5 at *
   refine zbe (s5 _ _ (s4 _ _ g3)) g5 (by walk_at "sm") λb4 hb4=>?_
   have s6:=zaf hb4 (.lst ([c,0,0,0,0,0,0,0,0].map V.int))
   have g6:(upd H5 b4 (.lst ([c,0,0,0,0,0,0,0,0].map V.int))) b4=some (.lst ([c,0,0,0,0,0,0,0,0].map V.int)):=zac
   show tNil _ (upd H5 b4 (.lst ([c,0,0,0,0,0,0,0,0].map V.int))) _
   generalize upd H5 b4 (.lst ([c,0,0,0,0,0,0,0,0].map V.int))=H6 at *
   nofun
   refine⟨(by walk_at "sm"),λt ht=>?_⟩
   have s7:=zaf ht (.tup [V.str "hold",.ref b4])
   have g7:(upd H6 t (.tup [V.str "hold",.ref b4])) t=some (.tup [V.str "hold",.ref b4]):=zac
   show tNil _ (upd H6 t (.tup [V.str "hold",.ref b4])) _
   generalize upd H6 t (.tup [V.str "hold",.ref b4])=H7 at *
   have u:=s3.trans (s4.trans (s5.trans (s6.trans s7)))
   have dr:zaW H7 (toD (.hold [c,0,0,0,0,0,0,0,0])) (.ref t):=ziK g7 (by simp) ⟨.inr (.inl ⟨_,rfl,rfl⟩),.inr (.inr (.inl ⟨b4,_,rfl,rfl,s7 _ _ g6⟩)),trivial⟩
   nofun
   refine zlO (u _ _ hl2) (zbr (by rw[<-r2.1,hlen];omega)) ?_
   refine⟨_,_,ds++[.hold [c,0,0,0,0,0,0,0,0]],_,rfl,(s2.trans u).put hl,zac,zmP (u _ _ hl2) (R2.mono r2 λ_ _ z=>z.sq u.nod.sq) (λd z=>(hd d z).l9) dr (show zes (.hold [c,0,0,0,0,0,0,0,0]) from rfl),λd z=>?_,by simp[hlen]⟩
   rcases zma.mp z with z | z
   ·exact hd d z
   ·rw[zms.mp z];exact⟨c,x0,by omega,rfl⟩
  ·nofun
   refine⟨tyL hl2,?_⟩
   nofun
   refine⟨(by walk_at "sm"),λb1 hb1'=>?_⟩
   have s3:=zaf hb1' (.tup [V.int 0,.int 1])
   have g3:(upd H' b1 (.tup [V.int 0,.int 1])) b1=some (.tup [V.int 0,.int 1]):=zac
   generalize upd H' b1 (.tup [V.int 0,.int 1])=H3 at *
   nofun
   refine⟨(by walk_at "sm"),λb2 hb2=>?_⟩
   have s4:=zaf hb2 (.tup [V.int 2,.int 3])
   have g4:(upd H3 b2 (.tup [V.int 2,.int 3])) b2=some (.tup [V.int 2,.int 3]):=zac
   generalize upd H3 b2 (.tup [V.int 2,.int 3])=H4 at *
   nofun
   refine⟨(by walk_at "sm"),λt ht=>?_⟩
   have s5:=zaf ht (.tup [V.str "call",.int m,.ref b1,.ref b2])
   have g5:(upd H4 t (.tup [V.str "call",.int m,.ref b1,.ref b2])) t=some (.tup [V.str "call",.int m,.ref b1,.ref b2]):=zac
   show tNil _ (upd H4 t (.tup [V.str "call",.int m,.ref b1,.ref b2])) _
   generalize upd H4 t (.tup [V.str "call",.int m,.ref b1,.ref b2])=H5 at *
   have u:=s3.trans (s4.trans s5)
   have dr:zaW H5 (toD (.call m 0 1 2 3)) (.ref t):=ziK g5 (by simp) ⟨.inr (.inl ⟨_,rfl,rfl⟩),.inl ⟨_,rfl,rfl⟩,.inr (.inr (.inr ⟨b1,_,_,rfl,rfl,(s4.trans s5) _ _ g3⟩)),.inr (.inr (.inr ⟨b2,_,_,rfl,rfl,s5 _ _ g4⟩)),trivial⟩
   nofun
   refine zlO (u _ _ hl2) (zbr (by rw[<-r2.1,hlen];omega)) ?_
   refine⟨_,_,ds++[.call m 0 1 2 3],_,rfl,(s2.trans u).put hl,zac,zmP (u _ _ hl2) (R2.mono r2 λ_ _ z=>z.sq u.nod.sq) (λd z=>(hd d z).l9) dr (show zes (.call m 0 1 2 3) from trivial),λd z=>?_,by simp[hlen]⟩
   rcases zma.mp z with z | z
   ·exact hd d z
   ·rw[zms.mp z];exact⟨e0,e1,rfl,rfl,rfl,rfl⟩
 rintro σ H2 ⟨x,y,ds,dvs,rfl,s2,hl2,r2,hd,hlen⟩
 nofun
 exact q l H2 ds s2 hl ⟨l,dvs,rfl,hl2,r2⟩ hd (by omega) (by omega)
inductive Q56 (K:Fg)(vs:List V)(H:Hp)(Q:VK)(E:XK):Prop
 | mk (a:Addr) (k:Int) (ns:List Int):vs=[.ref a,.int k]->SqL K H a (ns.map V.int)->0<=k->Q (.int (cell ns k)) H->Q56 K vs H Q E
theorem zf8 {H:Hp}{Q:VK}{E:XK}{a:Addr}{k:Int}{ns:List Int}(h:SqL K H a (ns.map V.int))(hk:0<=k)(q:Q (.int (cell ns k)) H):Q56 K [.ref a,.int k] H Q E:=⟨a,k,ns,rfl,h,hk,q⟩
include B Z in
theorem zil (F:Fun K "_law_cell_at" "_law_cell_at" zdc f fd)(m:mg "_law_cell_at"=some (.ref f)):Fn P w K mg b8 "_law_cell_at" ["script","k"] 1 (Q56 K):=by
 refine Fn.of (k:=0) F zic m (λ_ _ _ _ _ _ us hl=>(by obtain⟨_,_,rfl⟩:=len2 hl;rfl)) (λvs H Q E h=>?_) (λcdv A outer s H vs Q E hr h=>?_)
 ·first
  | (obtain⟨_,_,_,rfl,_⟩:=h;rfl)
 obtain⟨a,k,ns,rfl,hS,hk,q⟩:=h
 refine⟨_,(zae (zbj (zaM zkk (pv 1) (zaq (zdm K) rfl B.len L2.boot_len (zab (pv 0) zaa)) (zaD _)) (zah (zap (zaH (k_ix K) (pv 0) (pv 1) (λ_ _=>rfl)))) zaB)
   (zah (zap zag))),?_⟩
 ac_rfl
 refine zdR (.inl hS) ?_
 ac_rfl
 rw[zlm]
 unfold cell at q
 refine ite2 (λe=>?_) (λe=>?_)
 ·have e':k<(ns.length:Int):=of_decide_eq_true e
  ac_rfl
  have hl:k.toNat<ns.length:=by omega
  refine zgf hS (v:=.int (ns.getD k.toNat 0)) ?_ q
  have z:atI (ns.map V.int) ((k.toNat:Nat):Int)=some (.int (ns.getD k.toNat 0)):=zaJ (by simp[hl])
  rwa [show ((k.toNat:Nat):Int)=k by omega] at z
 ·have e':¬ k<(ns.length:Int):=of_decide_eq_false (Bool.eq_false_iff.mpr e)
  ac_rfl
  have hl:ns.getD k.toNat 0=0:=by simp[List.getD,List.getElem?_eq_none (show ns.length<=k.toNat by omega)]
  rw[hl] at q
  exact q
def hcD:Dd->Prop
 | .hold l=>l.length=9
 | .call m _ _ _ _=>m.natAbs<zbb
 | _=>False
def metD (ks:List Int):Dd->Bool
 | .call m _ _ _ _=>decide (m∈ks)
 | _=>true
inductive Q5d (K:Fg)(C:Nat->Addr)(vs:List V)(H:Hp)(Q:VK)(E:XK):Prop
 | mk (ma:Addr) (kvs:List (Key × V)) (ks:List Int) (md:Int->List Dd) (n:Int):vs=[.ref ma,.int n]->H ma=some (.dK kvs)->KVs (λm v=>DsAt H (md m) v) kvs ks->n∈ks->(∀ d∈md n,hcD d)->(md n).length<=8->(∀ H',Same H H'->Q (.bl ((md n).all (metD ks))) H')->Q5d K C vs H Q E
include B Z in
theorem zmk (F:Fun K "_law_met" "_law_met" zeH f fd)(m:mg "_law_met"=some (.ref f)):Fn P w K mg b8 "_law_met" ["model","number"] 1 (Q5d K C):=by
 refine Fn.of (k:=0) F zl7 m (λ_ _ _ _ _ _ us hl=>(by obtain⟨_,_,rfl⟩:=len2 hl;rfl)) (λvs H Q E h=>?_) (λcdv A outer s H vs Q E hr h=>?_)
 ·first
  | (obtain⟨_,_,_,_,_,rfl,_⟩:=h;rfl)
 obtain⟨ma,kvs,ks,md,n,rfl,hma,hk,hn',hhc,hl8,q⟩:=h
 refine⟨_,(zah (zap (zaq (zfa K rfl) rfl B.all L2.zby (zbn (zaN rfl (COk.m (sc0:=zad zeH) (N:=["model","number"]) (N':=["model","number","deed"]) (ms:=[false,false,true])) (zaK K (zd4 (hr_u hr) (pv 0) (pv 1) (λ_ _=>rfl))) (λ_ _ _ _ _=>(zas (i:=2) (ndS (N:=["model","number","deed"])) rfl (Or.inl rfl))) (λ_ _ _ _ _=>zav) (λ_ _ _ _ _=>(zn2 (zba (k_eq K hr) (zaH (k_ix K) (pv 2) zag (λ_ _=>rfl)) zb3 (zaD _)) (zbD (zi0 (zgG (hr_u hr) (zaH (k_ix K) (pv 2) zag (λ_ _=>rfl)) (pv 0))))))) zaa)))),?_⟩
 obtain⟨v,hv,l,dvs,rfl,hl,r2⟩:=hk.2.2 n hn'
 nofun
 refine⟨ma,.ref l,rfl,by rw[<-hv];exact DGet.k (k:=.inl n) hma,?_⟩
 refine⟨l,rfl,⟨_,SqL.of hl⟩,?_⟩
 refine zaA (zay (SqL.of hl)) (((md n).map (metD ks)).map D.bl) (by simp[r2.1]) (zaj (by rw[<-r2.1];omega)) (λi x d H1 R hi hd s1 hx hR=>?_) (λv H1 s1 n1=>?_)
 ·have hi':i<(md n).length:=by rw[r2.1];exact hi
  have ed:(md n)[i]?=some (md n)[i]:=List.getElem?_eq_getElem hi'
  rw[zgm,zgm,ed] at hd
  cases hd
  have dr:=(r2.2 i _ x ed hx).sq s1.nod.sq
  have hc:=hhc _ (List.getElem_mem hi')
  generalize (md n)[i]=d at *
  cases d with
  | hold l9=>
   obtain⟨t,xs,rfl,ht⟩:=zd9 dr
   nofun
   refine zaO (SqT.of ht) zbs ?_
   nofun
   rw[decide_eq_true (show zbX (Dd.hold l9) ="hold" from rfl)]
   nofun
   exact hR _ _ (Same.refl _) New.bl
  | call m g0 g1 t0 t1=>
   obtain⟨t,xs,rfl,ht,px⟩:=zbl dr
   obtain⟨x0,r1,rfl,e0,px1⟩:=zar px
   obtain⟨x1,r3,rfl,e1,px2⟩:=zar px1
   cases zbW e0
   cases zbz e1
   nofun
   refine zaO (SqT.of ht) zbs ?_
   nofun
   rw[decide_eq_false (show ¬ (("call" : Str) ="hold") by decide)]
   nofun
   refine zaO (SqT.of ht) (zaJ (j:=1) rfl) ?_
   nofun
   have hma1:=s1 _ _ hma
   refine⟨ma,_,rfl,DGet.k (k:=.inl m) hma1,?_⟩
   have em:(valV kvs (.inl m)).isSome=decide (m∈ks):=by
    by_cases z:m∈ks
    ·obtain⟨v,e,_⟩:=hk.2.2 m z
     rw[e,decide_eq_true z];rfl
    ·rw[hk.no z,decide_eq_false z];rfl
   rw[em]
   exact hR _ _ (Same.refl _) New.bl
  | set _ _=>exact hc.elim
  | part _ _ _=>exact hc.elim
  | draw _ _ _=>exact hc.elim
  | turn _ _=>exact hc.elim
 obtain⟨ba,rfl,ba0,ba1⟩:=New.bls n1
 nofun
 refine zeQ (SqL.of ba1) ?_
 have e:((md n).map (metD ks)).all id=(md n).all (metD ks):=by simp[List.all_map]
 rw[e]
 exact q _ s1
inductive Q5c (K:Fg)(C:Nat->Addr)(vs:List V)(H:Hp)(Q:VK)(E:XK):Prop
 | mk (ma:Addr) (kvs:List (Key × V)) (ks:List Int) (cr:Int->Cr) (n:Int) (us:List Int):vs=[.ref ma,.int n]->H ma=some (.dK kvs)->KVs (λm v=>DsAt H (cr m).deeds v) kvs ks->n∈us->(∀ m,∀ k∈zaC ks cr m,k∈us)->us.length<64->(∀ l H' (rs:List Int),Same H H'->H' l=some (.lst (rs.map V.int))->H l=none->(∀ m,m∈rs↔ReachI ks cr n m)->rs.Pairwise (·<=·)->rs.Nodup->Q (.ref l) H')->Q5c K C vs H Q E
theorem zlj (ns:List Int):(ns.map V.int).all zds=true:=by
 rw[List.all_map];exact List.all_eq_true.mpr λ_ _=>rfl
theorem zeG {d:Dd} : decide (zbX d ="call")=(zbf d).isSome:=by
 cases d <;> first | rfl | (unfold zbX zbf;decide +kernel)
theorem zdO {ds:List Dd}{d:Dd}{m:Int} : m∈zaw (ds++[d])↔m∈zaw ds\/zbf d=some m:=by
 unfold zaw
 rw[List.filterMap_append,zma]
 cases h:zbf d <;> simp[h,eq_comm]
include B Z in
theorem zj4 (F:Fun K "_law_reach" "_law_reach" zeg f fd)(m:mg "_law_reach"=some (.ref f)):Fn P w K mg b8 "_law_reach" ["model","number"] 1 (Q5c K C):=by
 refine Fn.of (k:=0) F zb6 m (λ_ _ _ _ _ _ us hl=>(by obtain⟨_,_,rfl⟩:=len2 hl;rfl)) (λvs H Q E h=>?_) (λcdv A outer s H vs Q E hr h=>?_)
 ·first
  | (obtain⟨_,_,_,_,_,_,rfl,_⟩:=h;rfl)
 obtain⟨ma,kvs,ks,cr,n,us,rfl,hma,hk,nu,cu,u64,q⟩:=h
 refine⟨_,(zae (zat (i:=2) zb6.nd rfl (Or.inl rfl) (zaL (zab (pv 1) zaa)))
   (zae (zcM PassesOwn.never rfl (zcx rfl B.range (zao zag zaa)) (zas (i:=3) zb6.nd rfl (Or.inl rfl)) (zae (zat (i:=4) zb6.nd rfl (Or.inl rfl) (zaL zaa))
   (zae (zcM PassesOwn.never rfl (zaK K (pv 2)) (zas (i:=5) zb6.nd rfl (Or.inl rfl)) (zah (zcM PassesOwn.never rfl (zaK K (zi8 (hr_u hr) (pv 0) (pv 5) (zaL zaa) ⟨rfl,rfl,rfl,rfl⟩)) (zas (i:=6) zb6.nd rfl (Or.inl rfl)) (zah (zbj (PW.pt (zkc (zaM (k_eq K hr) (zaH (k_ix K) (pv 6) zag (λ_ _=>rfl)) zb3 (zaD _)) (zkc (zaM (zkN K) (zaH (k_ix K) (pv 6) zag (λ_ _=>rfl)) (pv 2) rfl) (zka (zaM (zkN K) (zaH (k_ix K) (pv 6) zag (λ_ _=>rfl)) (pv 4) rfl))))) (zah (za9 (zjE PySem.F.plainAttrs_list PySem.F.slot_list_append PySem.F.type_list_append zc0 (pv 4) (za3 (zaH (k_ix K) (pv 6) zag (λ_ _=>rfl)) zaa)))) zaB)))))
   (zae (zbj (zaM (k_eq K hr) (zaq (zdm K) rfl B.len L2.boot_len (zab (pv 4) zaa)) zag (zaD _)) (zah (zap (zaq zfM rfl B.sorted L2.zbK (zab (pv 2) zaa)))) zaB)
   (zah (zat (i:=2) zb6.nd rfl (Or.inl rfl) (zaS (zaV K) (pv 2) (pv 4))))))))
   (zah (zap (zaq zfM rfl B.sorted L2.zbK (zab (pv 2) zaa)))))),?_⟩
 walk_at "q"
 nofun
 refine⟨(by walk_at "sm"),λf0 hf0=>?_⟩
 have s1:=zaf hf0 (.lst [V.int n])
 have g1:(upd H f0 (.lst [V.int n])) f0=some (.lst ([n].map V.int)):=zac
 generalize upd H f0 (.lst [V.int n])=H1 at *
 nofun
 walk_at "q"
 nofun
 refine zd5 (by decide) (by decide) ?_
 refine zg3 (λi σ H'=>E6 λx y z u fl fs=>A8 (σ=[some (.ref ma),some (.int n),some (.ref fl),x,y,z,u]) (Same H H') (H fl=none) (H' fl=some (.lst ((fs:List Int).map V.int))) (fs.Nodup) (n∈fs) ((∀ m∈fs,ReachI ks cr n m/\m∈us)) (i+1<=fs.length)) ⟨none,none,none,none,f0,[n],rfl,s1,hf0,g1,by simp,by simp,λm hm=>(by rw[zms.mp hm];exact⟨.me,nu⟩),by simp⟩ ?_ ?_
 ·rintro i σ H2 hi ⟨x,y,z,u,fl,fs,rfl,s2,hfl0,hfl,nd,nfs,hfs,hlen⟩
  have f64:=zbM nd λm hm=>(hfs m hm).2
  nofun
  walk_at "q"
  nofun
  refine⟨(by walk_at "sm"),λml hml=>?_⟩
  have s3:=zaf hml (.lst [])
  have g3:(upd H2 ml (.lst [])) ml=some (.lst (([]:List Int).map V.int)):=zac
  generalize upd H2 ml (.lst [])=H3 at *
  nofun
  with_reducible refine zdV (λσ H'=>E3 λz u ms=>A6 (σ=[some (.ref ma),some (.int n),some (.ref fl),some (.int (0+(i:Int))),some (.ref ml),z,u]) (Same H2 H') (H' ml=some (.lst ((ms:List Int).map V.int))) (ms.Nodup) ((∀ m∈ms,m∉fs/\∃ o∈fs,m∈zaC ks cr o)) (∀ o∈fs,∀ k∈zaC ks cr o,k∈fs\/k∈ms)) (λNX hN=>?_) (λσ H' hM=>?_)
  ·nofun
   refine⟨fl,rfl,⟨_,SqL.of (s3 _ _ hfl)⟩,?_⟩
   refine zfH (xs:=fs.map V.int) (λj σ H'=>E3 λz u ms=>A6 (σ=[some (.ref ma),some (.int n),some (.ref fl),some (.int (0+(i:Int))),some (.ref ml),z,u]) (Same H2 H') (H' ml=some (.lst ((ms:List Int).map V.int))) (ms.Nodup) ((∀ m∈ms,m∉fs/\∃ o∈fs,m∈zaC ks cr o)) (∀ o∈fs.take j,∀ k∈zaC ks cr o,k∈fs\/k∈ms)) ⟨z,u,[],rfl,s3,g3,List.nodup_nil,λm hm=>(by cases hm),λo ho=>(by simp at ho)⟩ (λj σ H' _ ⟨_,_,_,_,s',_,_,_,_⟩=>SqL.of (s' _ _ hfl)) ?_ ?_
   ·rintro j v σ H4 hv ⟨z,u,ms,rfl,s4,g4,nd4,h4,h5⟩
    rw[zgm] at hv
    obtain⟨o,eo,rfl⟩:=zme.mp hv
    have om:=zmg eo
    have tk:fs.take (j+1)=fs.take j++[o]:=by rw[List.take_add_one,eo];rfl
    nofun
    have s04:=s2.trans s4
    have hma4:=s04 _ _ hma
    refine⟨ma,rfl,.inl ⟨_,.inl hma4⟩,?_⟩
    nofun
    refine⟨(by walk_at "sm"),λel hel=>?_⟩
    have s5:=zaf hel (.lst [])
    have g5:(upd H4 el (.lst [])) el=some (.lst []):=zac
    generalize upd H4 el (.lst [])=H5 at *
    refine⟨_,DGet.k (k:=.inl o) (s5 _ _ hma4),?_⟩
    -- the deeds of o,or none
    obtain⟨dl,dvs,ds,edl,hdl,r2,ec,ndl⟩:∃ (dl:Addr) (dvs:List V) (ds:List Dd),(valV kvs (.inl o)).getD (.ref el)=.ref dl/\H5 dl=some (.lst dvs)/\R2 (λd x=>zaW H5 (toD d) x) ds dvs/\zaw ds=zaC ks cr o/\dl≠ml:=by
     by_cases z:o∈ks
     ·obtain⟨v,e,l,dvs,rfl,hl,r⟩:=hk.2.2 o z
      have s05:=s04.trans s5
      exact⟨l,dvs,(cr o).deeds,by rw[e];rfl,s05 _ _ hl,R2.mono r λ_ _ w=>w.sq s05.nod.sq,by unfold zaC;rw[if_pos z],zau (s2 _ _ hl) hml⟩
     ·exact⟨el,[],[],by rw[hk.no z];rfl,g5,R2.nil,by unfold zaC;rw[if_neg z];rfl,λw=>by rw[w,g4] at hel;cases hel⟩
    refine⟨dl,edl,⟨_,SqL.of hdl⟩,?_⟩
    refine zfH (xs:=dvs) (λk σ H'=>∃ u ms',A8 (σ=[some (.ref ma),some (.int n),some (.ref fl),some (.int (0+(i:Int))),some (.ref ml),some (.int o),u]) (Same H2 H') (OffA [ml] H5 H') (H' ml=some (.lst ((ms':List Int).map V.int))) (ms'.Nodup) ((∀ m∈ms',m∉fs/\∃ o∈fs,m∈zaC ks cr o)) ((∀ m∈ms,m∈ms')) (∀ m∈zaw (ds.take k),m∈fs\/m∈ms')) ⟨u,ms,rfl,s4.trans s5,(Same.refl _).offA,s5 _ _ g4,nd4,h4,λ_ z=>z,λm hm=>(by simp[zaw] at hm)⟩ (λk σ H' _ ⟨_,_,_,_,o',_,_,_,_,_⟩=>SqL.of (o' _ _ (by simp[ndl]) hdl)) ?_ ?_
    ·rintro k v σ H6 hv ⟨u,ms',rfl,s6,o6,g6,nd6,h6,h7,h8⟩
     have hk':k<ds.length:=by rw[r2.1];exact (zge.mp hv).1
     have ed:=List.getElem?_eq_getElem hk'
     have dr:=r2.2 k _ v ed hv
     have tk2:ds.take (k+1)=ds.take k++[ds[k]]:=by rw[List.take_add_one,ed];rfl
     have dmem:ds[k]∈ds:=List.getElem_mem hk'
     generalize ds[k]=d at *
     have nt:∀ {t:Addr}{xs:List V},H5 t=some (.tup xs)->H6 t=some (.tup xs):=λ{t xs} e=>o6 _ _ (λz=>by rw[zms.mp z,s5 _ _ g4] at e;cases e) e
     cases hcb:zbf d with
     | none=>
      obtain⟨t,xs,rfl,ht⟩:=zd9 dr
      nofun
      refine zaO (SqT.of (nt ht)) zbs ?_
      nofun
      rw[zeG,hcb]
      dsimp only[Option.isSome]
      nofun
      refine⟨_,ms',rfl,s6,o6,g6,nd6,h6,h7,λm hm=>?_⟩
      rw[tk2,zdO,hcb] at hm
      rcases hm with hm | hm
      ·exact h8 m hm
      ·cases hm
     | some m=>
      obtain⟨t,xs,rfl,ht,hx1⟩:∃ t xs,v=.ref t/\H5 t=some (.tup (.str (zbX d)::.int m::xs))/\True:=by
       cases d with
       | call m' g0 g1 t0 t1=>
        cases hcb
        obtain⟨t,xs,rfl,ht,px⟩:=zbl dr
        obtain⟨x0,r1,rfl,e0,px1⟩:=zar px
        obtain⟨x1,r3,rfl,e1,px2⟩:=zar px1
        cases zbW e0
        cases zbz e1
        exact⟨t,r3,rfl,ht,trivial⟩
       | set _ _=>cases hcb
       | part _ _ _=>cases hcb
       | draw _ _ _=>cases hcb
       | turn _ _=>cases hcb
       | hold _=>cases hcb
      have ht6:=nt ht
      have mc:m∈zaC ks cr o:=by
       rw[<-ec]
       exact List.mem_filterMap.mpr ⟨d,dmem,hcb⟩
      nofun
      refine zaO (SqT.of ht6) zbs ?_
      nofun
      rw[zeG,hcb]
      dsimp only[Option.isSome]
      nofun
      refine zaO (SqT.of ht6) (zaJ (j:=1) rfl) ?_
      nofun
      refine i_in (neg:=true) (.inl (SqL.of (s6 _ _ hfl))) rfl (zlj fs) ?_
      rw[zfm]
      by_cases y1:m∈fs
      ·rw[decide_eq_true y1]
       show ∃ k,V.bl false=.bl k/\_
       nofun
       refine⟨_,ms',rfl,s6,o6,g6,nd6,h6,h7,λm' hm=>?_⟩
       rw[tk2,zdO,hcb] at hm
       rcases hm with hm | hm
       ·exact h8 m' hm
       ·cases hm;exact .inl y1
      ·rw[decide_eq_false y1]
       show ∃ k,V.bl true=.bl k/\_
       nofun
       refine zaO (SqT.of ht6) (zaJ (j:=1) rfl) ?_
       nofun
       refine i_in (neg:=true) (.inl (SqL.of g6)) rfl (zlj ms') ?_
       rw[zfm]
       by_cases y2:m∈ms'
       ·rw[decide_eq_true y2]
        show ∃ k,V.bl false=.bl k/\_
        nofun
        refine⟨_,ms',rfl,s6,o6,g6,nd6,h6,h7,λm' hm=>?_⟩
        rw[tk2,zdO,hcb] at hm
        rcases hm with hm | hm
        ·exact h8 m' hm
        ·cases hm;exact .inr y2
       ·rw[decide_eq_false y2]
        show ∃ k,V.bl true=.bl k/\_
        nofun
        refine⟨tyL g6,?_⟩
        nofun
        refine zaO (SqT.of ht6) (zaJ (j:=1) rfl) ?_
        nofun
        have m64:=zbM nd6 λk hk=>(by
         obtain⟨_,o1,_,w⟩:=h6 k hk
         exact cu o1 k w)
        refine zlO g6 (zbr (by rw[zlm];omega)) ?_
        refine⟨_,ms'++[m],rfl,s6.put hml,o6.trans (zcc (by simp)),by rw[zac,List.map_append];rfl,?_,λk hk=>?_,λk hk=>List.mem_append_left _ (h7 k hk),λm' hm=>?_⟩
        ·exact List.nodup_append.mpr ⟨nd6,by simp,λa ha b hb=>by rw[zms.mp hb];exact λz=>y2 (z ▸ ha)⟩
        ·rcases zma.mp hk with w | w
         ·exact h6 k w
         ·rw[zms.mp w];exact⟨y1,o,om,mc⟩
        ·rw[tk2,zdO,hcb] at hm
         rcases hm with hm | hm
         ·exact (h8 m' hm).imp id λw=>List.mem_append_left _ w
         ·cases hm;exact .inr (by simp)
    ·rintro σ H6 ⟨u,ms',rfl,s6,o6,g6,nd6,h6,h7,h8⟩
     rw[<-r2.1,List.take_of_length_le (Nat.le_refl _),ec] at h8
     refine⟨_,u,ms',rfl,s6,g6,nd6,h6,λo2 ho2 k2 hk2=>?_⟩
     rw[tk] at ho2
     rcases zma.mp ho2 with w | w
     ·exact (h5 o2 w k2 hk2).imp id (h7 k2)
     ·rw[zms.mp w] at hk2;exact h8 k2 hk2
   ·rintro σ H4 ⟨z,u,ms,rfl,s4,g4,nd4,h4,h5⟩
    rw[zlm,List.take_of_length_le (Nat.le_refl _)] at h5
    exact hN _ _ ⟨z,u,ms,rfl,s4,g4,nd4,h4,h5⟩
  obtain⟨z,u,ms,rfl,s4,g4,nd4,h4,h5⟩:=hM
  have m64:=zbM nd4 λk hk=>(by
   obtain⟨_,o1,_,w⟩:=h4 k hk
   exact cu o1 k w)
  have hfl4:=s4 _ _ hfl
  nofun
  walk_at "q"
  nofun
  refine zdR (.inl (SqL.of g4)) ?_
  rw[zlm]
  nofun
  refine ite2 (λe=>?_) (λe=>?_)
  ·have e:(ms.length:Int)=0:=of_decide_eq_true e
   have ms0:ms=[]:=List.eq_nil_of_length_eq_zero (by omega)
   subst ms0
   nofun
   refine⟨fl,fs,rfl,hfl4,by omega,λl rs hl pm so=>?_⟩
   have s5:=zaf hl (.lst (rs.map V.int))
   have clo:∀ m,ReachI ks cr n m->m∈fs:=λm hm=>by
    induction hm with
    | me=>exact nfs
    | go _ hk ih=>
     rcases h5 _ ih _ hk with w | w
     ·exact w
     ·cases w
   exact q l _ rs ((s2.trans s4).trans s5) zac ((s2.trans s4).free hl) (λm=>⟨λw=>(hfs m (pm.mem_iff.mp w)).1,λw=>pm.mem_iff.mpr (clo m w)⟩) so (pm.nodup_iff.mpr nd)
  ·have e:¬ (ms.length:Int)=0:=λz=>e (decide_eq_true z)
   nofun
   refine zbe hfl4 g4 (by rw[zlm,zlm];exact zaj (by omega)) λnl hnl=>?_
   nofun
   refine⟨_,_,_,_,nl,fs++ms,rfl,(s2.trans s4).trans (zaf hnl _),(s2.trans s4).free hnl,by rw[zac,List.map_append],?_,List.mem_append_left _ nfs,λm hm=>?_,by rw[List.length_append];omega⟩
   ·exact List.nodup_append.mpr ⟨nd,nd4,λa ha b hb z=>(h4 b hb).1 (z ▸ ha)⟩
   ·rcases zma.mp hm with w | w
    ·exact hfs m w
    ·obtain⟨_,o1,ho1,w1⟩:=h4 m w
     exact⟨.go (hfs o1 ho1).1 w1,cu o1 m w1⟩
 rintro σ H2 ⟨x,y,z,u,fl,fs,rfl,s2,hfl0,hfl,nd,nfs,hfs,hlen⟩
 have f64:=zbM nd λm hm=>(hfs m hm).2
 omega
inductive Q5a (K:Fg)(vs:List V)(H:Hp)(Q:VK)(E:XK):Prop
 | mk (a b:Bool):vs=[.bl a,.bl b]->Q (.bl (decide (a=b))) H->Q5a K vs H Q E
theorem zpv {H:Hp}{Q:VK}{E:XK}{a b:Bool}(q:Q (.bl (decide (a=b))) H):Q5a K [.bl a,.bl b] H Q E:=⟨a,b,rfl,q⟩
include B Z in
theorem zlk (F:Fun K "_law_told" "_law_told" zff f fd)(m:mg "_law_told"=some (.ref f)):Fn P w K mg b8 "_law_told" ["found","due"] 1 (Q5a K):=by
 refine Fn.of (k:=0) F zk8 m (λ_ _ _ _ _ _ us hl=>(by obtain⟨_,_,rfl⟩:=len2 hl;rfl)) (λvs H Q E h=>?_) (λcdv A outer s H vs Q E hr h=>?_)
 ·first
  | (obtain⟨_,_,rfl,_⟩:=h;rfl)
 obtain⟨a,b,rfl,q⟩:=h
 refine⟨_,(zah (zap (zbq (zaq (znq K) rfl B.isinstance L2.zcz (zab (pv 0) (zab (ziq (v:=.ty "bool") rfl B.bool L2.zkS rfl) zaa))) (zbD (zba (k_eq K hr) (pv 0) (pv 1) (zaD _)))))),?_⟩
 nofun
 refine zjJ (.bl _) zg5 ?_
 nofun
 exact q
theorem zf9 {ks ks':List Int}{cr:Int->Cr}(h:∀ m,m∈ks'↔m∈ks)(m:Int):zaC ks' cr m=zaC ks cr m:=by
 unfold zaC
 by_cases z:m∈ks
 ·rw[if_pos z,if_pos ((h m).mpr z)]
 ·rw[if_neg z,if_neg λw=>z ((h m).mp w)]
theorem zga {ks ks':List Int}{cr:Int->Cr}{n m:Int}(h:∀ m,m∈ks'↔m∈ks)(r:ReachI ks' cr n m):ReachI ks cr n m:=by
 induction r with
 | me=>exact .me
 | go _ hk ih=>exact .go ih (by rw[<-zf9 h];exact hk)
theorem zim {as bs:List Int}(h:∀ m,m∈as↔m∈bs)(na:as.Nodup)(nb:bs.Nodup)(sa:as.Pairwise (·<=·))(sb:bs.Pairwise (·<=·)):as=bs:=zfL ((List.perm_ext_iff_of_nodup na nb).mpr h) sa sb
theorem zml {ks us:List Int}{cr:Int->Cr}{n m:Int}(nu:n∈us)(cu:∀ m,∀ k∈zaC ks cr m,k∈us)(r:ReachI ks cr n m):m∈us:=by
 cases r with
 | me=>exact nu
 | go _ hk=>exact cu _ _ hk
inductive Q60 (K:Fg)(C:Nat->Addr)(vs:List V)(H:Hp)(Q:VK)(E:XK):Prop
 | mk (ha la va ma ga:Addr) (n:Int) (ks ks' gs:List Int) (cr:Int->Cr) (ws:List Int) (fp:List Addr) (kvs kvg:List (Key × V)) (us:List Int):vs=[.ref ha,.ref ma,.ref ga,.int n]->HAt (C 5) (C 0) H ha la va ks cr ws fp->H ma=some (.dK kvs)->KVs (λm v=>DsAt H (cr m).deeds v) kvs ks'->(∀ m,m∈ks'↔m∈ks)->H ga=some (.dK kvg)->KVs (λ_ _=>True) kvg gs->(∀ m,m∈gs↔m∈ws)->n∈us->(∀ m,∀ k∈zaC ks cr m,k∈us)->us.length<64->(∀ H',Same H H'->Q (.bl true) H')->Q60 K C vs H Q E
include B Z in
theorem zll (G_l_reach:Fn P w K mg b8 "_law_reach" ["model","number"] 1 (Q5c K C))(Q47:Mth CX0 P w K mg b8 (C 5) "reach" ["self","number"] 3 (Q46 K C))(G_l_told:Fn P w K mg b8 "_law_told" ["found","due"] 1 (Q5a K))(Q49:Mth CX0 P w K mg b8 (C 5) "sworn" ["self","number"] 4 (Q48 K C))(F:Fun K "_law_same" "_law_same" zei f fd)(m:mg "_law_same"=some (.ref f)):Fn P w K mg b8 "_law_same" ["hall","model","good","number"] 5 (Q60 K C):=by
 refine Fn.of (k:=4) F zf1 m (λ_ _ _ _ _ _ us hl=>(by obtain⟨_,_,_,_,rfl⟩:=len4 hl;rfl)) (λvs H Q E h=>?_) (λcdv A outer s H vs Q E hr h=>?_)
 ·first
  | (obtain⟨_,_,_,_,_,_,_,_,_,_,_,_,_,_,_,rfl,_⟩:=h;rfl)
 obtain⟨ha,la,va,ma,ga,n,ks,ks',gs,cr,ws,fp,kvs,kvg,us,rfl,hA,hma,hk,hkk,hga,hg,hgw,nu,cu,u64,q⟩:=h
 refine⟨_,(zae (zat (i:=4) zf1.nd rfl (Or.inl rfl) (zak G_l_reach hr rfl (zab (pv 1) (zab (pv 3) zaa))))
   (zae (zat (i:=5) zf1.nd rfl (Or.inl rfl) (zch Q47 Z.c_Hall hr zdQ (pv 0) (zab (pv 3) zaa)))
   (zae (zbj (PW.pt (zkd (zhx (zcZ (zaq (znq K) rfl B.isinstance L2.zcz (zab (pv 5) (zab (ziq (v:=.ty "list") rfl B.list L2.zc1 rfl) zaa))))) (zkb (zaM (k_ne K hr) (pv 5) (pv 4) (zaD _))))) (zah (zap zfn)) zaB)
   (zae (za9 (zjE PySem.F.plainAttrs_list PySem.F.slot_list_append PySem.F.type_list_append zc0 (pv 5) (zao zag zaa)))
   (zae (zbj (zaM (k_ne K hr) (zch Q47 Z.c_Hall hr zdQ (pv 0) (zab (pv 3) zaa)) (pv 4) (zaD _)) (zah (zap zfn)) zaB)
   (zah (zap (zak G_l_told hr rfl (zaF (zch Q49 Z.c_Hall hr zdQ (pv 0) (zab (pv 3) zaa)) (zaF (zaq (zfa K rfl) rfl B.all L2.zby (zbn (zaN rfl (COk.m (sc0:=zad zei) (N:=["hall","model","good","number","due","found"]) (N':=["hall","model","good","number","due","found","other"]) (ms:=[false,false,false,false,false,false,true])) (zaK K (pv 4)) (λ_ _ _ _ _=>(zas (i:=6) (ndS (N:=["hall","model","good","number","due","found","other"])) rfl (Or.inl rfl))) (λ_ _ _ _ _=>zav) (λ_ _ _ _ _=>(zi0 (zgG (hr_u hr) (pv 6) (pv 2))))) zaa)) zaa)))))))))),?_⟩
 walk_at "q"
 nofun
 refine⟨ma,kvs,ks',cr,n,us,rfl,hma,hk,nu,λm k hk=>cu m k (by rw[<-zf9 hkk];exact hk),u64,λdl H1 rs s1 hdl dl0 hrs so nd=>?_⟩
 have hA1:=hA.same s1
 obtain⟨dx1,hh1⟩:=hA1.ins
 nofun
 walk_at "q"
 nofun
 refine⟨ha,dx1,_,rfl,hh1,zdo (by decide +kernel) (by decide +kernel),?_⟩
 nofun
 refine⟨ha,la,va,n,ks,cr,ws,fp,us,rfl,hA1,nu,cu,u64,λfl H2 rs2 s2 fl0 hfl hrs2 so2 nd2=>?_⟩
 have e12:=zim (λm=>(hrs2 m).trans (Iff.trans ⟨zga λm=>(hkk m).symm,zga hkk⟩ (hrs m).symm)) nd2 nd so2 so
 subst e12
 nofun
 walk_at "q"
 nofun
 have len64:=zbM nd2 λm hm=>zml nu cu ((hrs2 m).mp hm)
 refine zjJ (.lst hfl) zg5 ?_
 nofun
 refine zoN (za5.mpr ⟨_,rfl,SqL.of hfl⟩) (za5.mpr ⟨_,rfl,SqL.of (s2 _ _ hdl)⟩) (Nat.le_trans (zeq _) (by decide)) ?_
 rw[zdu]
 nofun
 walk_at "q"
 nofun
 refine⟨tyL hfl,?_⟩
 nofun
 refine zlO hfl (zbr (by rw[zlm];omega)) ?_
 have s3:=s2.put (o:=.lst (rs2.map V.int++[.int 5])) fl0
 generalize upd H2 fl (.lst (rs2.map V.int++[.int 5]))=H3 at *
 have hA3:=hA1.same s3
 obtain⟨dx3,hh3⟩:=hA3.ins
 nofun
 walk_at "q"
 nofun
 refine⟨ha,dx3,_,rfl,hh3,zdo (by decide +kernel) (by decide +kernel),?_⟩
 nofun
 refine⟨ha,la,va,n,ks,cr,ws,fp,us,rfl,hA3,nu,cu,u64,λfl2 H4 rs3 s4 fl20 hfl2 hrs3 so3 nd3=>?_⟩
 have e13:=zim (λm=>(hrs3 m).trans (hrs2 m).symm) nd3 nd2 so3 so2
 subst e13
 have s14:=s3.trans s4
 have hdl4:=s14 _ _ hdl
 nofun
 refine zoN (za5.mpr ⟨_,rfl,SqL.of hfl2⟩) (za5.mpr ⟨_,rfl,SqL.of hdl4⟩) (Nat.le_trans (zeq _) (by decide)) ?_
 rw[zdu]
 have hA4:=hA1.same s14
 obtain⟨dx4,hh4⟩:=hA4.ins
 nofun
 refine⟨ha,dx4,_,rfl,hh4,zdo (by decide +kernel) (by decide +kernel),?_⟩
 nofun
 refine⟨ha,la,va,n,ks,cr,ws,fp,us,rfl,hA4,nu,cu,u64,λH5 b s5 hb=>?_⟩
 have hdl5:=s5 _ _ hdl4
 nofun
 refine⟨dl,rfl,⟨_,SqL.of hdl5⟩,?_⟩
 refine zaA (zay (SqL.of hdl5)) ((rs3.map λm=>decide (m∈gs)).map D.bl) (by simp) (zaj (by rw[zlm];omega)) (λi x d H6 R hi hd s6 hx hR=>?_) (λv H6 s6 n6=>?_)
 ·rw[zgm] at hx
  obtain⟨m,em,rfl⟩:=zme.mp hx
  rw[zgm,zgm,em] at hd
  cases hd
  nofun
  have hga6:=((s1.trans s14).trans (s5.trans s6)) _ _ hga
  refine⟨ga,_,rfl,DGet.k (k:=.inl m) hga6,?_⟩
  have eg:(valV kvg (.inl m)).isSome=decide (m∈gs):=by
   by_cases z:m∈gs
   ·obtain⟨v,e,_⟩:=hg.2.2 m z
    rw[e,decide_eq_true z];rfl
   ·rw[hg.no z,decide_eq_false z];rfl
  rw[eg]
  exact hR _ _ (Same.refl _) New.bl
 obtain⟨ba,rfl,ba0,ba1⟩:=New.bls n6
 nofun
 refine zeQ (SqL.of ba1) ?_
 nofun
 refine zpv ?_
 have eb:b=(rs3.map λm=>decide (m∈gs)).all id:=by
  rw[Bool.eq_iff_iff,hb,List.all_map,List.all_eq_true]
  exact⟨λz m hm=>decide_eq_true ((hgw m).mpr (z m ((hrs3 m).mp hm))),λz m hm=>(hgw m).mp (of_decide_eq_true (z m ((hrs3 m).mpr hm)))⟩
 rw[decide_eq_true eb]
 exact q _ ((s1.trans s14).trans (s5.trans s6))
def ze2 (K:Fg)(C:Nat->Addr):Value->Addr->Sp:=λc a vs H Q _=>∃ (ma:Addr) (kvs:List (Key × V)) (ks:List Int) (md:Int->List Dd) (n:Int),vs=[.ref ma,.int n]/\H ma=some (.dK kvs)/\KVs (λm v=>DsAt H (md m) v) kvs ks/\n∈ks/\(∀ d∈md n,hcD d)/\(md n).length<=8/\∀ H',Same H H'->Q (.bl ((md n).all (metD ks))) H'
include B Z in
theorem zj5 (F:Fun K "_law_met" "_law_met" zeh f fd)(m:mg "_law_met"=some (.ref f)):FnH P w K mg b8 "_law_met" ["model","number"] 1 (ze2 K C):=by
 refine FnH.of (k:=0) F zj0 m (λ_ _ _ _ _ _ us hl=>(by obtain⟨_,_,rfl⟩:=len2 hl;rfl)) (λc a vs H Q E h=>?_) (λcdv A outer s H vs Q E x0 o0 hr hd hn hx h=>?_)
 ·first
  | (obtain⟨rfl,_⟩:=h;rfl)
  | (obtain⟨_,rfl,_⟩:=h;rfl)
  | (obtain⟨_,_,rfl,_⟩:=h;rfl)
  | (obtain⟨_,_,_,rfl,_⟩:=h;rfl)
  | (obtain⟨_,_,_,_,rfl,_⟩:=h;rfl)
  | (obtain⟨_,_,_,_,_,rfl,_⟩:=h;rfl)
  | (obtain⟨_,_,_,_,_,_,rfl,_⟩:=h;rfl)
  | (obtain⟨_,_,_,_,_,_,_,rfl,_⟩:=h;rfl)
  | (obtain⟨_,_,_,_,_,_,_,_,rfl,_⟩:=h;rfl)
  | (obtain⟨_,_,_,_,_,_,_,_,_,rfl,_⟩:=h;rfl)
  | (obtain⟨_,_,_,_,_,_,_,_,_,_,rfl,_⟩:=h;rfl)
  | (obtain⟨_,_,_,_,_,_,_,_,_,_,_,rfl,_⟩:=h;rfl)
  | (obtain⟨_,_,_,_,_,_,_,_,_,_,_,_,rfl,_⟩:=h;rfl)
  | (obtain⟨_,_,_,_,_,_,_,_,_,_,_,_,_,rfl,_⟩:=h;rfl)
  | (obtain⟨_,_,_,_,_,_,_,_,_,_,_,_,_,_,rfl,_⟩:=h;rfl)
  | (obtain⟨_,_,_,_,_,_,_,_,_,_,_,_,_,_,_,rfl,_⟩:=h;rfl)
  | (obtain⟨_,_,_,_,_,_,_,_,_,_,_,_,_,_,_,_,rfl,_⟩:=h;rfl)
 obtain⟨ma,kvs,ks,md,n,rfl,hma,hk,hn',hhc,hl8,q⟩:=h
 refine⟨_,(zah (zap (zaq (zpp K hx) rfl B.all L2.zby (zbn (zl0 hx (COk.m (sc0:=zad zeH) (N:=["model","number"]) (N':=["model","number","deed"]) (ms:=[false,false,true])) (zl1 K (zd4 (zpq hr) (pv 0) (pv 1) (λ_ _=>rfl))) (λ_ _ _ _ _=>(zas (i:=2) (ndS (N:=["model","number","deed"])) rfl (Or.inl rfl))) (λ_ _ _ _ _=>zav) (λ_ _ _ _ _=>(zn2 (zba zod (zaH (k_ix K) (pv 2) zag (λ_ _=>rfl)) zb3 (zaD _)) (zbD (zi0 (zgG (zpq hr) (zaH (k_ix K) (pv 2) zag (λ_ _=>rfl)) (pv 0))))))) zaa)))),?_⟩
 obtain⟨v,hv,l,dvs,rfl,hl,r2⟩:=hk.2.2 n hn'
 nofun
 refine⟨ma,.ref l,rfl,by rw[<-hv];exact DGet.k (k:=.inl n) hma,?_⟩
 refine⟨l,rfl,⟨_,SqL.of hl⟩,?_⟩
 refine zaA (zay (SqL.of hl)) (((md n).map (metD ks)).map D.bl) (by simp[r2.1]) (zaj (by rw[<-r2.1];omega)) (λi x d H1 R hi hd s1 hx hR=>?_) (λv H1 s1 n1=>?_)
 ·have hi':i<(md n).length:=by rw[r2.1];exact hi
  have ed:(md n)[i]?=some (md n)[i]:=List.getElem?_eq_getElem hi'
  rw[zgm,zgm,ed] at hd
  cases hd
  have dr:=(r2.2 i _ x ed hx).sq s1.nod.sq
  have hc:=hhc _ (List.getElem_mem hi')
  generalize (md n)[i]=d at *
  cases d with
  | hold l9=>
   obtain⟨t,xs,rfl,ht⟩:=zd9 dr
   nofun
   refine zaO (SqT.of ht) zbs ?_
   nofun
   refine⟨rfl,true,by rw[decide_eq_true (show V.str (zbX (Dd.hold l9))=V.str "hold" from rfl)],?_⟩
   rw[if_pos rfl]
   exact hR _ _ (Same.refl _) New.bl
  | call m g0 g1 t0 t1=>
   obtain⟨t,xs,rfl,ht,px⟩:=zbl dr
   obtain⟨x0,r1,rfl,e0,px1⟩:=zar px
   obtain⟨x1,r3,rfl,e1,px2⟩:=zar px1
   cases zbW e0
   cases zbz e1
   nofun
   refine zaO (SqT.of ht) zbs ?_
   nofun
   refine⟨rfl,false,by rw[decide_eq_false (by decide)],?_⟩
   rw[if_neg (by simp)]
   nofun
   refine zaO (SqT.of ht) (zaJ (j:=1) rfl) ?_
   nofun
   have hma1:=s1 _ _ hma
   refine⟨ma,_,rfl,DGet.k (k:=.inl m) hma1,?_⟩
   have em:(valV kvs (.inl m)).isSome=decide (m∈ks):=by
    by_cases z:m∈ks
    ·obtain⟨v,e,_⟩:=hk.2.2 m z
     rw[e,decide_eq_true z];rfl
    ·rw[hk.no z,decide_eq_false z];rfl
   rw[em]
   exact hR _ _ (Same.refl _) New.bl
  | set _ _=>exact hc.elim
  | part _ _ _=>exact hc.elim
  | draw _ _ _=>exact hc.elim
  | turn _ _=>exact hc.elim
 obtain⟨ba,rfl,ba0,ba1⟩:=New.bls n1
 nofun
 refine zeQ (SqL.of ba1) ?_
 have e:((md n).map (metD ks)).all id=(md n).all (metD ks):=by simp[List.all_map]
 rw[e]
 exact q _ s1
theorem zgb {ks:List Int} : ∀ {ds:List Dd},ds.all (metD ks)=true↔∀ m∈zaw ds,m∈ks
 | []=>by simp[zaw]
 | d::ds=>by
  have ih:=zgb (ks:=ks) (ds:=ds)
  unfold zaw at ih ⊢
  rw[List.all_cons,Bool.and_eq_true,ih,List.filterMap_cons]
  cases d <;> simp[metD,zbf]
theorem DsAt.nod {H H':Hp}{ds:List Dd}{v:V}(e:NoD H H')(h:DsAt H ds v):DsAt H' ds v:=by
 obtain⟨l,dvs,e1,e2,e3⟩:=h
 exact⟨l,dvs,e1,e _ _ e2 (λ_ z=>by cases z),R2.mono e3 λ_ _ z=>z.sq e.sq⟩
inductive Q5f (K:Fg)(C:Nat->Addr)(vs:List V)(H:Hp)(Q:VK)(E:XK):Prop
 | mk (ha la va ma:Addr) (n:Int) (ks ks':List Int) (cr:Int->Cr) (ws:List Int) (fp:List Addr) (kvs:List (Key × V)):vs=[.ref ha,.ref ma,.int n]->HAt (C 5) (C 0) H ha la va ks cr ws fp->H ma=some (.dK kvs)->KVs (λm v=>DsAt H (cr m).deeds v) kvs ks'->(∀ m,m∈ks'↔m∈ks)->ma≠va->n∈ks->n.natAbs<zbb->(∀ d∈(cr n).deeds,hcD d)->zdN ((cr n).gs cr)->(∀ H' ws',OffA [va] H H'->HAt (C 5) (C 0) H' ha la va ks cr ws' fp->(∀ m,m∈ws'↔m∈ws\/(m=n/\∀ k∈zaw (cr n).deeds,k∈ks))->Q (.bl true) H')->Q5f K C vs H Q E
include B Z in
theorem ziX (Q5e:Fn P w K mg b8 "_law_met" ["model","number"] 1 (Q5d K C))(Q43:Mth (CX1 P w) P w K mg b8 (C 5) "seek" ["self","number"] 8 (Q42 K C))(G_l_met_h:FnH P w K mg b8 "_law_met" ["model","number"] 1 (ze2 K C))(F:Fun K "_law_sought" "_law_sought" zdH f fd)(m:mg "_law_sought"=some (.ref f)):Fn P w K mg b8 "_law_sought" ["hall","model","number"] 9 (Q5f K C):=by
 refine Fn.of (k:=8) F ziQ m (λ_ _ _ _ _ _ us hl=>(by obtain⟨_,_,_,rfl⟩:=len3 hl;rfl)) (λvs H Q E h=>?_) (λcdv A outer s H vs Q E hr h=>?_)
 ·first
  | (obtain⟨_,_,_,_,_,_,_,_,_,_,_,rfl,_⟩:=h;rfl)
 obtain⟨ha,la,va,ma,n,ks,ks',cr,ws,fp,kvs,rfl,hA,hma,hk,hkk,mv,hm,hn,hhc,haf,q⟩:=h
 refine⟨_,(zae (zpb rfl rfl rfl (zlT (zlS (znx Q43 Z.c_Hall hr (pv 0) (zab (pv 2) zaa)))) (zny (tb:=λc a=>tRet (zmT (zhz (ze2 K C c a) [] E0 (zek (tVar 1) (zek (tVar 2) tNil))))) Z.e_Unmet rfl Z.m_Unmet (λ_ _ hd hn=>(zah (zap (zn3 (zpn G_l_met_h hr rfl hd hn (zab (pv 1) (zab (pv 2) zaa))))))) zpa))
   (zah (zap (zak Q5e hr rfl (zab (pv 1) (zab (pv 2) zaa)))))),?_⟩
 have l8:(cr n).deeds.length<=8:=(hA.rt n hm).parts.2.2.1.2
 have hm':=(hkk n).mpr hm
 obtain⟨dx,hh⟩:=hA.ins
 walk_at "q"
 refine i_try ?_
 nofun
 refine⟨ha,dx,_,rfl,hh,zdo (by decide +kernel) (by decide +kernel),?_⟩
 nofun
 refine⟨ha,la,va,n,ks,cr,ws,fp,rfl,hA,hn,λz=>absurd hm z,λ_ ⟨m,mm,mk⟩ H' s' a=>?_,λ_ hcl v H' ws' o' hA' hws' n'=>?_⟩
 ·refine⟨(C 4),_,rfl,Z.e_Unmet,?_⟩
  rw[if_pos (by simp)]
  show tRet _ _ _ _
  nofun
  refine⟨ma,kvs,ks',λm=>(cr m).deeds,n,rfl,s' _ _ hma,hk.mono λm v z=>DsAt.nod s'.nod z,hm',hhc,l8,λH2 s2=>?_⟩
  have e:(cr n).deeds.all (metD ks')=false:=by
   cases z:(cr n).deeds.all (metD ks') with
   | false=>rfl
   | true=>exact absurd ((hkk m).mp (zgb.mp z m mm)) mk
  refine⟨false,by rw[e],?_⟩
  have s02:=s'.trans s2
  exact q _ ws s02.offA (hA.same s02) λk=>⟨.inl,λz=>by
   rcases z with z | z
   ·exact z
   ·exact absurd (z.2 m mm) mk⟩
 ·nofun
  have nd:=o'.nod λb hb=>(by
   obtain⟨kv,hva,_⟩:=hA.vou
   rw[zms.mp hb];exact⟨_,hva⟩)
  refine⟨ma,kvs,ks',λm=>(cr m).deeds,n,rfl,o' _ _ (by simp[mv]) hma,hk.mono λm v z=>DsAt.nod nd z,hm',hhc,l8,λH2 s2=>?_⟩
  rw[zgb.mpr λm mm=>(hkk m).mpr (hcl m mm)]
  refine q _ ws' (o'.trans s2.offA) (hA'.same s2) λk=>?_
  rw[hws' k]
  exact⟨λz=>z.imp id λw=>⟨w.1,hcl⟩,λz=>z.imp id λw=>⟨w.1,haf⟩⟩
inductive Q62 (K:Fg)(vs:List V)(H:Hp)(Q:VK)(E:XK):Prop
 | mk (a:Addr) (ns:List Int):vs=[.ref a]->SqL K H a (ns.map V.int)->ns.length<=63->(∀ H',Q (.bl true) H')->Q62 K vs H Q E
def cr14 (ds:List Dd):Cr:=⟨[],[],ds,ds.map λ_=>[]⟩
theorem znS {ds:List Dd}{p:Int} : dueL [] (ds.map λ_=>([]:List (List Int))) p=[]:=by
 unfold dueL
 split
 ·rfl
 ·rw[List.getD_eq_getElem?_getD,zgm]
  cases ds[p.toNat]? <;> rfl
theorem so14 {c:Int}(h:0<=c):found ([c,0,0,0,0,0,0,0,0],[]):=by
 have hs:zfP [c,0,0,0,0,0,0,0,0] [] 1 []=true:=by
  simp[zfP,rowB,znJ,zjU,negs,zbV,zha,addW];omega
 unfold found
 show (zbL [c,0,0,0,0,0,0,0,0] []).isSome=true
 unfold zbL
 refine zh4 (x:=1) (by simp) ?_
 unfold zfl
 refine zh4 (x:=[]) (by simp[zdz]) ?_
 unfold zgM
 rw[if_pos hs];rfl
theorem zmQ {os:List Dd}{oath:Oath}(ho:∀ m,oath m=([],[])):∀ {ds:List Dd}{p:Nat},(∀ d∈ds,kD d)->∀ g∈zdX [] (os.map λ_=>[]) oath ds p,found g
 | [],p,_,g,hg=>by cases hg
 | d::ds,p,h,g,hg=>by
  unfold zdX at hg
  rw[znS,znS] at hg
  rcases zma.mp hg with z | z
  ·have hd:=h d List.mem_cons_self
   cases d with
   | hold l=>
    obtain⟨c,c0,_,rfl⟩:=hd
    simp[zcl] at z
    rw[z];exact so14 c0
   | call m g0 g1 t0 t1=>simp[zcl,ho] at z
   | set _ _=>exact hd.elim
   | part _ _ _=>exact hd.elim
   | draw _ _ _=>exact hd.elim
   | turn _ _=>exact hd.elim
  ·exact zmQ ho (λe he=>h e (List.mem_cons_of_mem _ he)) g z
theorem znT {cr:Int->Cr}{ds:List Dd}(ho:∀ m,zgO cr m=([],[]))(h:∀ d∈ds,kD d):∀ g∈(cr14 ds).gs cr,found g:=λg hg=>by
 unfold Cr.gs zfU zjo cr14 at hg
 dsimp only at hg
 rw[znS] at hg
 exact zmQ ho h g hg
theorem znU {ds:List Dd}(h:∀ d∈ds,kD d)(h1:1<=ds.length)(h3:ds.length<=3):(cr14 ds).right=true:=by
 show ze5 _ _ _ _=true
 unfold cr14 ze5
 have e1:zeR ds=true:=by
  unfold zeR
  rw[Bool.and_eq_true]
  refine⟨by simp[btw];omega,?_⟩
  rw[List.all_map,List.all_eq_true]
  intro d hd
  have:=h d hd
  cases d with
  | hold l=>obtain⟨c,c0,c4,rfl⟩:=this;simp[zcC,zdy,zdW,btw];omega
  | call m g0 g1 t0 t1=>obtain⟨a,b,rfl,rfl,rfl,rfl⟩:=this;simp[zcC,btw];exact⟨⟨⟨rfl,rfl⟩,rfl,rfl⟩,a,by omega⟩
  | set _ _=>exact this.elim
  | part _ _ _=>exact this.elim
  | draw _ _ _=>exact this.elim
  | turn _ _=>exact this.elim
 have e2:zeS ds (ds.map λ_=>[])=true:=by
  unfold zeS
  rw[Bool.and_eq_true]
  refine⟨by simp,?_⟩
  rw[List.all_map,List.all_map,List.all_eq_true]
  intro d _
  rfl
 dsimp only
 rw[e1,e2]
 rfl
theorem zln {ds:List Dd}(h:∀ d∈ds,kD d)(h3:ds.length<=3):(cr14 ds).Nine:=by
 constructor <;> simp[cr14] <;> try omega
 ·exact λd hd=>(h d hd).l9
 ·intro ls x _ e
  subst e
  exact⟨by simp,λl hl=>by cases hl⟩
theorem zjs {f:Int->List Int}(h:∀ m,(f m).length<=3):∀ ks:List Int,(ks.flatMap f).length<=3 * ks.length
 | []=>by simp
 | k::ks=>by
  have:=zjs h ks
  have:=h k
  rw[List.flatMap_cons,List.length_append,List.length_cons]
  omega
include B Z in
theorem zpw (M_Hall:Mkr P w K mg b8 "Hall" (C 5) ["self"] 1 (Q3e K C))(Q41:Mth (CX1 P w) P w K mg b8 (C 5) "tear" ["self","number"] 4 (Q40 K C))(Q59:Fn P w K mg b8 "_law_mix" ["cell","k","many"] 1 (Q58 K))(G_l_deeds:Fn P w K mg b8 "_law_deeds" ["cell","numbers"] 2 (Q5b K))(G_Hall_lay:Mth (CX1 P w) P w K mg b8 (C 5) "lay" ["self","number","craft"] 8 (Q3f K C))(Q57:Fn P w K mg b8 "_law_cell_at" ["script","k"] 1 (Q56 K))(M_Craft:Mkr P w K mg b8 "Craft" (C 0) ["self","needs","leaves","deeds","notes"] 2 (Q6 K C))(Q5e:Fn P w K mg b8 "_law_met" ["model","number"] 1 (Q5d K C))(Q61:Fn P w K mg b8 "_law_same" ["hall","model","good","number"] 5 (Q60 K C))(G_l_sought:Fn P w K mg b8 "_law_sought" ["hall","model","number"] 9 (Q5f K C))(F:Fun K "law" "law" zeI f fd):FnOk P w K mg b8 CX0 10 f fd ["script"] (Q62 K):=by
 refine F.ok (k:=9) zc8 (λvs H Q E h=>?_) (λcdv A outer s H vs Q E hr h=>?_)
 ·obtain⟨a,ns,rfl,_⟩:=h
  rfl
 obtain⟨a,cs,rfl,hS,hl,q⟩:=h
 refine⟨_,(zae (zat (i:=1) zc8.nd rfl (Or.inr rfl) (zpi M_Hall hr rfl))
   (zae (zeM (i:=2) zc8.nd rfl rfl rfl (COk.m (sc0:=zad zeI) (N:=["script","hall","numbers","model","k","number","deeds","good","asked","gone"]) (N':=["script","hall","numbers","model","k","number","deeds","good","asked","gone"]) (ms:=[false,false,false,false,true,false,false,false,false,false])) (zcx rfl B.range (zbt (zaS (zaV K) zag (zaS zej (zak Q57 hr rfl (zab (pv 0) (zao zag zaa))) zag)) zaa)) (λ_ _ _ _ _=>(zas (i:=4) (ndS (N:=["script","hall","numbers","model","k","number","deeds","good","asked","gone"])) rfl (Or.inl rfl))) (λ_ _ _ _ _=>zav) (λ_ _ _ _ _=>(zak Q59 hr rfl (zaF (zak Q57 hr rfl (zab (pv 0) (zao zag zaa))) (zab (pv 4) (zao zag zaa))))))
   (zae (zat (i:=3) zc8.nd rfl (Or.inr rfl) zem)
   (zae (zcM PassesOwn.never rfl (zns K rfl B.enumerate (zab (pv 2) zaa)) (zkP K (n:=2) rfl (zdI (zas (i:=4) zc8.nd rfl (Or.inl rfl)) (zdI (zas (i:=5) zc8.nd rfl (Or.inl rfl)) zir))) (zae (zat (i:=6) zc8.nd rfl (Or.inl rfl) (zak G_l_deeds hr rfl (zaF (zak Q57 hr rfl (zab (pv 0) (zbt (zaS (zaV K) zag (pv 4)) zaa))) (zab (pv 2) zaa))))
   (zae (zbj (zaM (k_eq K hr) (zaS zej (zaS zis (zak Q57 hr rfl (zab (pv 0) (zao zag zaa))) zag) zag) zag (zaD _)) (zah (zat (i:=6) zc8.nd rfl (Or.inl rfl) (zaL (ze4 (zdT (zao zb3 (za3 (zaH (k_ix K) (pv 2) (zaS zej (zaS (zaV K) (pv 4) zag) (zaq (zdm K) rfl B.len L2.boot_len (zab (pv 2) zaa))) (λ_ _=>rfl)) (ze4 (zdT (zao zag (zao zag zaa))) (ze4 (zdT (zao zag (zao zag zaa))) zaa))))) zaa)))) zaB)
   (zae (zfy (hr_u hr) (pv 3) (pv 5) (pv 6) rfl)
   (zah (za9 (zch G_Hall_lay Z.c_Hall hr zmJ (pv 1) (zab (pv 5) (zaF (zo3 M_Craft hr rfl (zcQ (zaL zaa) (zcQ (zaL zaa) (zab (pv 6) (zbn (zaN rfl (COk.m (sc0:=zad zeI) (N:=["script","hall","numbers","model","k","number","deeds","good","asked","gone"]) (N':=["script","hall","numbers","model","k","number","deeds","good","asked","gone","deed"]) (ms:=[false,false,false,false,false,false,false,false,false,false,true])) (zaK K (pv 6)) (λ_ _ _ _ _=>(zas (i:=10) (ndS (N:=["script","hall","numbers","model","k","number","deeds","good","asked","gone","deed"])) rfl (Or.inl rfl))) (λ_ _ _ _ _=>zav) (λ_ _ _ _ _=>(zaL zaa))) zaa))))) zaa)))))))))
   (zae (zat (i:=7) zc8.nd rfl (Or.inr rfl) zem)
   (zae (zcM PassesOwn.never rfl (zaK K (zaq (zci rfl) rfl B.sorted L2.zbK (zab (pv 3) zaa))) (zas (i:=5) zc8.nd rfl (Or.inl rfl)) (zah (zbj (zaM zmX (zak Q59 hr rfl (zaF (zak Q57 hr rfl (zab (pv 0) (zao zag zaa))) (zab (pv 5) (zao zag zaa)))) zag (zaD _)) (zae (zbj (zhx (zcZ (zak G_l_sought hr rfl (zab (pv 1) (zab (pv 3) (zab (pv 5) zaa)))))) (zah (zap zfn)) zaB)
   (zah (zbj (zcZ (zak Q5e hr rfl (zab (pv 3) (zab (pv 5) zaa)))) (zah (zfy (hr_u hr) (pv 7) (pv 5) zfn rfl)) zaB))) zaB)))
   (zae (zat (i:=8) zc8.nd rfl (Or.inl rfl) (zaS (zaV K) (zaq (zci rfl) rfl B.sorted L2.zbK (zab (pv 3) zaa)) (zaL (zbt (zaS zej (zak Q57 hr rfl (zab (pv 0) (zao zag zaa))) zag) zaa))))
   (zae (zbj (zhx (zcZ (zaq (zfa K rfl) rfl B.all L2.zby (zbn (zaN rfl (COk.m (sc0:=zad zeI) (N:=["script","hall","numbers","model","k","number","deeds","good","asked","gone"]) (N':=["script","hall","numbers","model","k","number","deeds","good","asked","gone"]) (ms:=[false,false,false,false,false,true,false,false,false,false])) (zaK K (pv 8)) (λ_ _ _ _ _=>(zas (i:=5) (ndS (N:=["script","hall","numbers","model","k","number","deeds","good","asked","gone"])) rfl (Or.inl rfl))) (λ_ _ _ _ _=>zav) (λ_ _ _ _ _=>(zak Q61 hr rfl (zab (pv 1) (zab (pv 3) (zab (pv 7) (zab (pv 5) zaa))))))) zaa)))) (zah (zap zfn)) zaB)
   (zae (zat (i:=9) zc8.nd rfl (Or.inr rfl) (zaH (k_ix K) (zaq (zci rfl) rfl B.sorted L2.zbK (zab (pv 3) zaa)) (zaS zej (zaS zis (zak Q57 hr rfl (zab (pv 0) (zao zag zaa))) zag) (zaq zkD rfl B.len L2.boot_len (zab (pv 3) zaa))) (λ_ _=>rfl)))
   (zae (za9 (zch Q41 Z.c_Hall hr zmJ (pv 1) (zab (pv 9) zaa)))
   (zae (za9 (zi9 (pv 3) (pv 9) ⟨rfl,rfl,rfl,rfl⟩))
   (zae (za9 (zgY (pv 7) (pv 9) zfo ⟨rfl,rfl,rfl,rfl⟩))
   (zae (zcM PassesOwn.never rfl (zaK K (zaq (zci rfl) rfl B.sorted L2.zbK (zab (pv 3) zaa))) (zas (i:=5) zc8.nd rfl (Or.inl rfl)) (zah (zbj (zcZ (zaq (znr K rfl) rfl B.any L2.zg4 (zbn (zaN rfl (COk.m (sc0:=zad zeI) (N:=["script","hall","numbers","model","k","number","deeds","good","asked","gone"]) (N':=["script","hall","numbers","model","k","number","deeds","good","asked","gone","deed"]) (ms:=[false,false,false,false,false,false,false,false,false,false,true])) (zaK K (zd4 (hr_u hr) (pv 3) (pv 5) (λ_ _=>rfl))) (λ_ _ _ _ _=>(zas (i:=10) (ndS (N:=["script","hall","numbers","model","k","number","deeds","good","asked","gone","deed"])) rfl (Or.inl rfl))) (λ_ _ _ _ _=>zav) (λ_ _ _ _ _=>(zbq (zba (k_eq K hr) (zaH (k_ix K) (pv 10) zag (λ_ _=>rfl)) zb3 (zaD _)) (zbD (zba (k_eq K hr) (zaH (k_ix K) (pv 10) zag (λ_ _=>rfl)) (pv 9) (zaD _)))))) zaa))) (zah (za9 (zgY (pv 7) (pv 5) zfo ⟨rfl,rfl,rfl,rfl⟩))) zaB)))
   (zah (zap (zaq (zfa K rfl) rfl B.all L2.zby (zbn (zaN rfl (COk.m (sc0:=zad zeI) (N:=["script","hall","numbers","model","k","number","deeds","good","asked","gone"]) (N':=["script","hall","numbers","model","k","number","deeds","good","asked","gone"]) (ms:=[false,false,false,false,false,true,false,false,false,false])) (zaK K (pv 8)) (λ_ _ _ _ _=>(zas (i:=5) (ndS (N:=["script","hall","numbers","model","k","number","deeds","good","asked","gone"])) rfl (Or.inl rfl))) (λ_ _ _ _ _=>zav) (λ_ _ _ _ _=>(zak Q61 hr rfl (zab (pv 1) (zab (pv 3) (zab (pv 7) (zab (pv 5) zaa))))))) zaa))))))))))))))))),?_⟩
 walk_at "q"
 nofun
 intro ha dx ha0 dx0 ndx
 refine⟨ha,dx,rfl,zac,λla va H1 la0 va0 nlv o1 h1 h2 h3=>⟨rfl,?_⟩⟩
 have s1:Same H H1:=zk7 ha0 dx0 o1
 have hA0:HAt (C 5) (C 0) H1 ha la va [] (λ_=>cr14 []) [] []:=HAt.start h1 h2 h3 nlv
 have hS1:=s1.seq hS
 nofun
 walk_at "q"
 nofun
 refine zf8 hS1 (by decide) ?_
 have c0:=Int.emod_nonneg (cell cs 1) (show (12:Int)≠0 by decide)
 have c1:=Int.emod_lt_of_pos (cell cs 1) (show (0:Int)<12 by decide)
 nofun
 generalize hcnt:1+cell cs 1 % 12=cnt
 have cb:1<=cnt/\cnt<=12:=by omega
 refine zd5 (by omega) (by omega) ?_
 refine zaA zeP (((List.range cnt.toNat).map λ(k:Nat)=>mix (cell cs 0) (0+(k:Int)) 100).map D.int) (by simp) (zaj (by omega)) (λi x d H2 R hi hd s2 hx hR=>?_) (λv H2 s2 n2=>?_)
 ·subst hx
  rw[zgm,zgm,List.getElem?_range hi] at hd
  cases hd
  nofun
  refine zf8 (s2.seq hS1) (by decide) ?_
  nofun
  refine ziW (by decide) ?_
  exact hR _ _ (Same.refl _) New.int
 obtain⟨na,rfl,na0,hna⟩:=New.iif.mp n2
 have nlen:((List.range cnt.toNat).map λ(k:Nat)=>mix (cell cs 0) (0+(k:Int)) 100).length=cnt.toNat:=by simp
 have nb:∀ m∈((List.range cnt.toNat).map λ(k:Nat)=>mix (cell cs 0) (0+(k:Int)) 100),0<=m/\m<100:=λm hm=>by
  obtain⟨k,_,rfl⟩:=zmm.mp hm
  exact⟨zdL (by decide),zji (by decide)⟩
 generalize ((List.range cnt.toNat).map λ(k:Nat)=>mix (cell cs 0) (0+(k:Int)) 100)=ns at *
 have hA2:=hA0.same s2
 have hS2:=s2.seq hS1
 clear hA0 hS1 h1 h2 h3 o1 n2
 nofun
 walk_at "q"
 nofun
 intro ma hma
 have s3:=zaf hma (.dK [])
 have g3:(upd H2 ma (.dK [])) ma=some (.dK []):=zac
 obtain⟨kl2,hla2,_⟩:=hA2.laid
 obtain⟨kv2,hva2,_⟩:=hA2.vou
 have nla:ma≠la:=λz=>by rw[z,hla2] at hma;cases hma
 have nva:ma≠va:=λz=>by rw[z,hva2] at hma;cases hma
 generalize upd H2 ma (.dK [])=H3 at *
 have hA3:=hA2.same s3
 have hna3:=s3 _ _ hna
 have hS3:=s3.seq hS2
 clear hA2 hna hS2 hla2 hva2 hma
 nofun
 with_reducible refine zdV (λσ H'=>E7 λx4 x5 x6 ks cr kvs fp=>A7 (σ=[some (.ref a),some (.ref ha),some (.ref na),some (.ref ma),x4,x5,x6,none,none,none]) (NoD H3 H') (HAt (C 5) (C 0) H' ha la va ks cr [] fp) (H' ma=some (.dK kvs)) (KVs (λm v=>DsAt H' (cr m).deeds v) kvs ks) ((∀ m,m∈ks↔m∈ns)) (∀ m,∃ ds,cr m=cr14 ds/\(∀ d∈ds,kD d)/\ds.length<=3)) (λNX hN=>?_) (λσ H' hM=>?_)
 ·nofun
  refine⟨na,_,rfl,hna3,?_⟩
  refine zl4 (xs:=ns.map V.int) (λi σ H'=>E7 λx4 x5 x6 ks cr kvs fp=>A7 (σ=[some (.ref a),some (.ref ha),some (.ref na),some (.ref ma),x4,x5,x6,none,none,none]) (NoD H3 H') (HAt (C 5) (C 0) H' ha la va ks cr [] fp) (H' ma=some (.dK kvs)) (KVs (λm v=>DsAt H' (cr m).deeds v) kvs ks) ((∀ m,m∈ks↔m∈ns.take i)) (∀ m,∃ ds,cr m=cr14 ds/\(∀ d∈ds,kD d)/\ds.length<=3)) ⟨none,none,none,[],λ_=>cr14 [],[],[],rfl,(Same.refl _).nod,hA3,g3,KVs.nil,λm=>(by simp),λm=>⟨[],rfl,λd hd=>(by cases hd),by simp⟩⟩ (λi σ H' _ ⟨_,_,_,_,_,_,_,_,d,_,_,_,_,_⟩=>SqL.of (d _ _ hna3 (λ_ z=>by cases z))) ?_ ?_
  ·rintro i v T σ H4 hv ⟨x4,x5,x6,ks,cr,kvs,fp,rfl,d4,hA4,hma4,hk4,hks4,hcr4⟩ hT
   rw[zgm] at hv
   obtain⟨n,en,rfl⟩:=zme.mp hv
   have nn:=nb n (zmg en)
   have tk:ns.take (i+1)=ns.take i++[n]:=by rw[List.take_add_one,en];rfl
   have s5:=zaf hT (.tup [V.int (i:Int),.int n])
   have g5:(upd H4 T (.tup [V.int (i:Int),.int n])) T=some (.tup [V.int (i:Int),.int n]):=zac
   generalize upd H4 T (.tup [V.int (i:Int),.int n])=H5 at *
   have d5:=d4.trans s5.nod
   have hna5:=d5 _ _ hna3 (λ_ z=>by cases z)
   refine⟨T,_,rfl,SqT.of g5,rfl,⟨_,_,rfl,?_⟩⟩
   refine⟨_,_,rfl,?_⟩
   refine⟨rfl,?_⟩
   nofun
   walk_at "q"
   nofun
   refine zf8 (d5.sq.lst hS3) (by omega) ?_
   nofun
   refine⟨_,na,ns,rfl,SqL.of hna5,by omega,by omega,nb,λl H6 ds s6 l0 hds kds e1 e3=>?_⟩
   nofun
   with_reducible refine zdV (λσ H'=>∃ l ds,A6 (σ=[some (.ref a),some (.ref ha),some (.ref na),some (.ref ma),some (.int (i:Int)),some (.int n),some (.ref l),none,none,none]) (Same H5 H') (DsAt H' ds (.ref l)) ((∀ d∈ds,kD d)) (1<=ds.length) (ds.length<=3)) (λNX hN=>?_) (λσ H' hM=>?_)
   ·nofun
    refine zf8 (s6.seq (d5.sq.lst hS3)) (by decide) ?_
    nofun
    refine ite2 (λe=>?_) (λe=>?_)
    ·nofun
     refine zdR (.inl (SqL.of (s6 _ _ hna5))) ?_
     rw[zlm]
     have np:0<(ns.length:Int):=by omega
     have b0:=Int.emod_nonneg ((i:Int)+1) (show (ns.length:Int)≠0 by omega)
     have b1:=Int.emod_lt_of_pos ((i:Int)+1) np
     nofun
     generalize ((i:Int)+1) % (ns.length:Int)=j at b0 b1 ⊢
     have hj:j.toNat<ns.length:=by omega
     refine zgf (SqL.of (s6 _ _ hna5)) (v:=.int ns[j.toNat]) (zkX b0 (by rw[zgm,List.getElem?_eq_getElem hj];rfl)) ?_
     have nm:=nb _ (List.getElem_mem hj)
     generalize ns[j.toNat]=m at nm ⊢
     nofun
     refine dspT λb1 H7 s7 g7=>?_
     nofun
     refine dspT λb2 H8 s8 g8=>?_
     nofun
     refine dspT λt H9 s9 g9=>?_
     nofun
     refine dspL λl2 H10 s10 g10=>?_
     nofun
     refine hN _ _ ⟨l2,[.call m 0 1 2 3],rfl,s6.trans (s7.trans (s8.trans (s9.trans s10))),⟨l2,_,rfl,g10,⟨rfl,λi d x q1 q2=>?_⟩⟩,λd hd=>(by rw[zms.mp hd];exact⟨nm.1,nm.2,rfl,rfl,rfl,rfl⟩),by simp,by simp⟩
     match i,q1,q2 with
     | 0,q1,q2=>cases q1;cases q2;exact ziK (s10 _ _ g9) (by simp) ⟨.inr (.inl ⟨_,rfl,rfl⟩),.inl ⟨_,rfl,rfl⟩,.inr (.inr (.inr ⟨b1,_,_,rfl,rfl,(s8.trans (s9.trans s10)) _ _ g7⟩)),.inr (.inr (.inr ⟨b2,_,_,rfl,rfl,(s9.trans s10) _ _ g8⟩)),trivial⟩
     | i+1,q1,q2=>simp at q1
    ·nofun
     exact hN _ _ ⟨l,ds,rfl,s6,hds,kds,e1,e3⟩
   clear hds kds e1 e3 l0 s6
   obtain⟨l,ds,rfl,s7,hds,kds,e1,e3⟩:=hM
   have s57:=s5.trans s7
   have hma7:=s57 _ _ hma4
   have kl:=hk4.len
   have k12:=zbM hk4.2.1 λm hm=>List.mem_of_mem_take ((hks4 m).mp hm)
   nofun
   walk_at "q"
   nofun
   refine⟨ma,_,rfl,DPut.k (k:=.inl n) hma7 (zbr (by omega)),?_⟩
   have o8:OffA [ma] H' (upd H' ma (.dK (putK kvs (.inl n) (.ref l)))):=zcc (by simp)
   have d8:NoD H' (upd H' ma (.dK (putK kvs (.inl n) (.ref l)))):=zcD hma7
   have hA8:=zev (hA4.same s57) hma7 nla nva o8
   have hds8:=DsAt.nod d8 hds
   have d48:=s57.nod.trans d8
   have hk8:=hk4.put' (m:=n) (v:=.ref l) (P':=λm v=>DsAt (upd H' ma (.dK (putK kvs (.inl n) (.ref l)))) (setC cr n (cr14 ds) m).deeds v) (by unfold setC;rw[if_pos rfl];exact hds8) (λk v ne z=>by unfold setC;rw[if_neg ne];exact DsAt.nod d48 z)
   have g8:(upd H' ma (.dK (putK kvs (.inl n) (.ref l)))) ma=some (.dK (putK kvs (.inl n) (.ref l))):=zac
   generalize upd H' ma (.dK (putK kvs (.inl n) (.ref l)))=H8 at *
   obtain⟨dx8,hh8⟩:=hA8.ins
   obtain⟨l',dvs,el,hl8,r2⟩:=id hds8
   cases el
   nofun
   refine⟨ha,dx8,_,rfl,hh8,zdo (by decide +kernel) (by decide +kernel),?_⟩
   nofun
   refine dspL λa1 H9 s9 g9=>?_
   nofun
   refine dspL λa2 H10 s10 g10=>?_
   have hl10:=(s9.trans s10) _ _ hl8
   nofun
   refine⟨l,rfl,⟨_,SqL.of hl10⟩,?_⟩
   refine zaA (zay (SqL.of hl10)) (ds.map λ_=>zax []) (by simp[r2.1]) (zaj (by rw[<-r2.1];omega)) (λk x d H11 R hi hd s11 hx hR=>?_) (λv H11 s11 n11=>?_)
   ·rw[zgm] at hd
    obtain⟨d0,_,rfl⟩:=zme.mp hd
    nofun
    refine⟨(by walk_at "sm"),λe he=>?_⟩
    exact hR _ _ (zaf he _) (show New H11 (upd H11 e (.lst (([]:List Int).map V.int))) (nums []) (.ref e) from New.iif.mpr ⟨e,rfl,he,zac⟩)
   obtain⟨nl,nvs,nfp,rfl,nl0,hnl,hnr,_⟩:=New.lso n11
   have hnR:=zai.reps (K:=K) _ hnr
   nofun
   intro p dp p0 dp0 ndp
   have em:∀ {b:Addr}{h:Hp},h b=some (.lst [])->Rep K h (zax []) (.ref b):=λ{b h} e=>by
    unfold zax Rep
    exact⟨b,_,rfl,SqL.of e,by unfold Reps;rfl⟩
   have u8:=s9.trans (s10.trans s11)
   refine zid (c:=cr14 ds) p0 dp0 (em ((s10.trans s11) _ _ g9)) (em (s11 _ _ g10)) (SqL.of (u8 _ _ hl8)) (SqL.of hnl) (R2.mono r2 λ_ _ z=>z.sq u8.nod.sq) ⟨by rw[<-Reps.length hnR];simp[cr14],λk ls x q1 q2=>?_⟩ (zln kds e3) λH12 f s12 hC hf fn=>⟨rfl,?_⟩
   ·obtain⟨d,q3,q4⟩:=Reps.get' hnR q2
    rw[zgm] at q3
    obtain⟨d0,q5,rfl⟩:=zme.mp q3
    have q1:(ds.map λ_=>([]:List (List Int)))[k]?=some ls:=q1
    rw[zgm,q5] at q1
    cases q1
    exact q4
   nofun
   have hr14:=znU kds e1 e3
   have u12:=u8.trans s12
   refine⟨ha,la,va,p,n,ks,cr,[],fp,cr14 ds,rfl,hA8.same u12,hC.t (zln kds e3).d9,zln kds e3,by unfold zbb;omega,.inr (by omega),λz=>(by rw[hr14] at z;cases z),λ_ H13 ks' ws' fp' o13 hA13 hks' hksa hksb hws' _=>?_⟩
   have w0:ws'=[]:=List.eq_nil_iff_forall_not_mem.mpr λm hm=>by
    have:=((hws' m).mp hm).1
    cases this
   subst w0
   have ek:ks'=if n∈ks then ks else ks++[n]:=by
    by_cases z:n∈ks
    ·rw[if_pos z];exact hksa z
    ·rw[if_neg z];exact hksb z
   have d13:=o13.nod λb hb=>(by
    obtain⟨kl,hla,_⟩:=(hA8.same u12).laid
    obtain⟨kv,hva,_⟩:=(hA8.same u12).vou
    simp only[List.mem_cons,List.not_mem_nil,or_false] at hb
    rcases hb with rfl | rfl
    ·exact⟨_,hla⟩
    ·exact⟨_,hva⟩)
   have dz:=u12.nod.trans d13
   nofun
   refine⟨_,_,_,ks',setC cr n (cr14 ds),_,fp',rfl,d4.trans (d48.trans dz),hA13,o13 _ _ (by simp[nla,nva]) (u12 _ _ g8),by rw[ek];exact hk8.mono λm v z=>DsAt.nod dz z,λm=>?_,λm=>?_⟩
   ·rw[hks' m,hks4 m,tk,zma,zms]
   ·unfold setC
    by_cases z:m=n
    ·rw[if_pos z];exact⟨ds,rfl,kds,e3⟩
    ·rw[if_neg z];exact hcr4 m
  ·rintro σ H4 ⟨x4,x5,x6,ks,cr,kvs,fp,rfl,d4,hA4,hma4,hk4,hks4,hcr4⟩
   rw[zlm,List.take_of_length_le (Nat.le_refl _)] at hks4
   exact hN _ _ ⟨x4,x5,x6,ks,cr,kvs,fp,rfl,d4,hA4,hma4,hk4,hks4,hcr4⟩
 obtain⟨x4,x5,x6,ks,cr,kvs,fp,rfl,d3,hA,hma,hk,hks,hcr⟩:=hM
 clear hA3 g3
 have hS4:=d3.sq.lst hS3
 have ks12:=zbM hk.2.1 λm hm=>(hks m).mp hm
 have kb:∀ m∈ks,0<=m/\m<100:=λm hm=>nb m ((hks m).mp hm)
 have oath:∀ m,zgO cr m=([],[]):=λm=>by
  obtain⟨ds,e,_⟩:=hcr m
  unfold zgO
  rw[e];rfl
 have fnd:∀ m,zdN ((cr m).gs cr):=λm=>by
  obtain⟨ds,e,h,_⟩:=hcr m
  rw[e];exact znT oath h
 have hcs:∀ m,∀ d∈(cr m).deeds,hcD d:=λm d hd=>by
  obtain⟨ds,e,h,_⟩:=hcr m
  rw[e] at hd
  have:=h d hd
  cases d with
  | hold l=>obtain⟨c,_,_,rfl⟩:=this;rfl
  | call m' g0 g1 t0 t1=>obtain⟨z1,z2,_⟩:=this;show m'.natAbs<zbb;unfold zbb;omega
  | set _ _=>exact this.elim
  | part _ _ _=>exact this.elim
  | draw _ _ _=>exact this.elim
  | turn _ _=>exact this.elim
 nofun
 walk_at "q"
 nofun
 intro ga hga
 have s5:=zaf hga (.dK [])
 have g5:(upd H' ga (.dK [])) ga=some (.dK []):=zac
 obtain⟨kl2,hla2,_⟩:=hA.laid
 obtain⟨kv2,hva2,_⟩:=hA.vou
 have gla:ga≠la:=λz=>by rw[z,hla2] at hga;cases hga
 have gva:ga≠va:=λz=>by rw[z,hva2] at hga;cases hga
 have gma:ga≠ma:=λz=>by rw[z,hma] at hga;cases hga
 generalize upd H' ga (.dK [])=H5 at *
 have hA5:=hA.same s5
 have hma5:=s5 _ _ hma
 have hk5:=hk.mono λm v z=>DsAt.nod s5.nod z
 have hS5:=s5.seq hS4
 clear hA hma hk hS4 hga hla2 hva2
 nofun
 with_reducible refine zdV (λσ H'=>E4 λx5 kvg gs ws=>A7 (σ=[some (.ref a),some (.ref ha),some (.ref na),some (.ref ma),x4,x5,x6,some (.ref ga),none,none]) (NoD H5 H') (HAt (C 5) (C 0) H' ha la va ks cr ws fp) (H' ma=some (.dK kvs)) (H' ga=some (.dK kvg)) (KVs (λ_ _=>True) kvg gs) ((∀ m,m∈gs↔m∈ws))) (λNX hN=>?_) (λσ H' hM=>?_)
 ·nofun
  refine⟨ma,kvs,ks,rfl,hma5,hk5.1,by omega,λsl so0 sl0 pm so=>?_⟩
  have s6:=zaf sl0 (.lst (so0.map V.int))
  have g6:(upd H5 sl (.lst (so0.map V.int))) sl=some (.lst (so0.map V.int)):=zac
  generalize upd H5 sl (.lst (so0.map V.int))=H6 at *
  refine⟨sl,rfl,⟨_,SqL.of g6⟩,?_⟩
  refine zfH (xs:=so0.map V.int) (λi σ H'=>E4 λx5 kvg gs ws=>A7 (σ=[some (.ref a),some (.ref ha),some (.ref na),some (.ref ma),x4,x5,x6,some (.ref ga),none,none]) (NoD H6 H') (HAt (C 5) (C 0) H' ha la va ks cr ws fp) (H' ma=some (.dK kvs)) (H' ga=some (.dK kvg)) (KVs (λ_ _=>True) kvg gs) ((∀ m,m∈gs↔m∈ws))) ⟨x5,[],[],[],rfl,(Same.refl _).nod,hA5.same s6,s6 _ _ hma5,s6 _ _ g5,KVs.nil,λm=>Iff.rfl⟩ (λi σ H' _ ⟨_,_,_,_,_,d,_,_,_,_,_⟩=>SqL.of (d _ _ g6 (λ_ z=>by cases z))) ?_ ?_
  ·rintro i v σ H7 hv ⟨x5,kvg,gs,ws,rfl,d7,hA7,hma7,hga7,hg7,hgw7⟩
   rw[zgm] at hv
   obtain⟨n,en,rfl⟩:=zme.mp hv
   have nk:n∈ks:=pm.mem_iff.mp (zmg en)
   have nb7:=kb n nk
   have d57:=s6.nod.trans d7
   have hk7:=hk5.mono λm v z=>DsAt.nod d57 z
   nofun
   refine zf8 (d57.sq.lst hS5) (by decide) ?_
   nofun
   refine ziW (by decide) ?_
   nofun
   refine ite2 (λe=>?_) (λe=>?_)
   ·nofun
    walk_at "q"
    nofun
    refine⟨ha,la,va,ma,n,ks,ks,cr,ws,fp,kvs,rfl,hA7,hma7,hk7,λm=>Iff.rfl,nva,nk,by unfold zbb;omega,hcs n,fnd n,λH8 ws8 o8 hA8 hw8=>?_⟩
    have d8:=o8.nod λb hb=>(by
     obtain⟨kv,hva,_⟩:=hA7.vou
     rw[zms.mp hb];exact⟨_,hva⟩)
    have hma8:=o8 _ _ (by simp[nva]) hma7
    have hga8:=o8 _ _ (by simp[gva]) hga7
    have hk8:=hk7.mono λm v z=>DsAt.nod d8 z
    nofun
    refine⟨ma,kvs,ks,λm=>(cr m).deeds,n,rfl,hma8,hk8,nk,hcs n,(hA7.rt n nk).parts.2.2.1.2,λH9 s9=>?_⟩
    have hA9:=hA8.same s9
    have hga9:=s9 _ _ hga8
    have hma9:=s9 _ _ hma8
    have d79:=d8.trans s9.nod
    cases em:(cr n).deeds.all (metD ks) with
    | true=>
     have hcl:=zgb.mp em
     nofun
     have gl:=hg7.len
     have g60:=zbM hg7.2.1 λm hm=>hA7.sub m ((hgw7 m).mp hm)
     refine⟨ga,_,rfl,DPut.k (k:=.inl n) hga9 (zbr (by omega)),?_⟩
     have o10:OffA [ga] H9 (upd H9 ga (.dK (putK kvg (.inl n) (.bl true)))):=zcc (by simp)
     refine⟨_,_,_,ws8,rfl,d7.trans (d79.trans (zcD hga9)),zev hA9 hga9 gla gva o10,o10 _ _ (by simp[gma.symm]) hma9,zac,hg7.put (m:=n) (v:=.bl true) trivial,λm=>?_⟩
     rw[hw8 m,<-hgw7 m]
     by_cases z:n∈gs
     ·rw[if_pos z]
      exact⟨.inl,λw=>w.elim id λy=>y.1 ▸ z⟩
     ·rw[if_neg z,zma,zms]
      exact⟨λw=>w.imp id λy=>⟨y,hcl⟩,λw=>w.imp id λy=>y.1⟩
    | false=>
     nofun
     refine⟨_,kvg,gs,ws8,rfl,d7.trans d79,hA9,hma9,hga9,hg7,λm=>?_⟩
     rw[hw8 m,<-hgw7 m]
     refine⟨.inl,λw=>w.elim id λy=>?_⟩
     rw[zgb.mpr y.2] at em;cases em
   ·nofun
    exact⟨_,kvg,gs,ws,rfl,d7,hA7,hma7,hga7,hg7,hgw7⟩
  ·rintro σ H7 ⟨x5,kvg,gs,ws,rfl,d7,hA7,hma7,hga7,hg7,hgw7⟩
   exact hN _ _ ⟨x5,kvg,gs,ws,rfl,s6.nod.trans d7,hA7,hma7,hga7,hg7,hgw7⟩
 obtain⟨x5,kvg,gs,ws,rfl,d6,hA6,hma6,hga6,hg6,hgw⟩:=hM
 have hk6:=hk5.mono λm v z=>DsAt.nod d6 z
 have hS6:=d6.sq.lst hS5
 clear hA5 hma5 hk5 hS5 g5
 nofun
 walk_at "q"
 nofun
 refine⟨ma,kvs,ks,rfl,hma6,hk6.1,by omega,λsl so0 sl0 pm so=>?_⟩
 have s7:=zaf sl0 (.lst (so0.map V.int))
 have g7:(upd H' sl (.lst (so0.map V.int))) sl=some (.lst (so0.map V.int)):=zac
 generalize upd H' sl (.lst (so0.map V.int))=H7 at *
 nofun
 refine zf8 (s7.seq hS6) (by decide) ?_
 nofun
 generalize cell cs 3 % 100=far
 refine⟨(by walk_at "sm"),λbl hbl=>?_⟩
 have s8:=zaf hbl (.lst [V.int far])
 have g8:(upd H7 bl (.lst [V.int far])) bl=some (.lst ([far].map V.int)):=zac
 generalize upd H7 bl (.lst [V.int far])=H8 at *
 have solen:=pm.length_eq
 refine zbe (s8 _ _ g7) g8 (by rw[zlm];exact zaj (by simp;omega)) λal hal=>?_
 have s9:=zaf hal (.lst (so0.map V.int++[far].map V.int))
 have g9:(upd H8 al (.lst (so0.map V.int++[far].map V.int))) al=some (.lst ((so0++[far]).map V.int)):=by rw[zac,List.map_append]
 generalize upd H8 al (.lst (so0.map V.int++[far].map V.int))=H9 at *
 have s69:=s7.trans (s8.trans s9)
 have hA9:=hA6.same s69
 have hma9:=s69 _ _ hma6
 have hga9:=s69 _ _ hga6
 have hk9:=hk6.mono λm v z=>DsAt.nod s69.nod z
 have hS9:=s69.seq hS6
 clear hA6 hma6 hga6 hk6 hS6 g7 g8
 obtain⟨us,hus1,hus2,hus3,hus4⟩:∃ us:List Int,us.length<64/\(∀ m∈ks,m∈us)/\far∈us/\∀ m∈ks,∀ k∈zaw (cr m).deeds,k∈us:=by
  refine⟨ks++(ks.flatMap λm=>zaw (cr m).deeds)++[far],?_,λm hm=>by simp[hm],by simp,λm hm k hk=>by
   rw[zma,zma]
   exact .inl (.inr (List.mem_flatMap.mpr ⟨m,hm,hk⟩))⟩
  have:=zjs (f:=λm=>zaw (cr m).deeds) (λm=>by
   obtain⟨ds,e,_,h3⟩:=hcr m
   rw[e]
   exact Nat.le_trans (List.length_filterMap_le _ _) h3) ks
  rw[List.length_append,List.length_append,List.length_singleton]
  omega
 have cu:∀ {kk:List Int},(∀ m∈kk,m∈ks)->∀ m,∀ k∈zaC kk cr m,k∈us:=λ{kk} h m k hk=>by
  unfold zaC at hk
  split at hk
  ·rename_i z;exact hus4 m (h m z) k hk
  ·cases hk
 have hsub:∀ m∈ws,m∈ks:=hA9.sub
 have ask:∀ m∈so0++[far],m∈us:=λm hm=>by
  rcases zma.mp hm with z | z
  ·exact hus2 m (pm.mem_iff.mp z)
  ·rw[zms.mp z];exact hus3
 nofun
 walk_at "q"
 nofun
 refine⟨al,rfl,⟨_,SqL.of g9⟩,?_⟩
 refine zaA (zay (SqL.of g9)) (((so0++[far]).map λ_=>true).map D.bl) (by simp) (zaj (by simp;omega)) (λi x d H10 R hi hd s10 hx hR=>?_) (λv H10 s10 n10=>?_)
 ·rw[zgm] at hx
  obtain⟨m,em,rfl⟩:=zme.mp hx
  rw[zgm,zgm,em] at hd
  cases hd
  nofun
  exact⟨ha,la,va,ma,ga,m,ks,ks,gs,cr,ws,fp,kvs,kvg,us,rfl,hA9.same s10,s10 _ _ hma9,hk9.mono λm v z=>DsAt.nod s10.nod z,λm=>Iff.rfl,s10 _ _ hga9,hg6,hgw,ask m (zmg em),cu λm hm=>hm,hus1,λH11 s11=>hR _ _ s11 New.bl⟩
 obtain⟨ba,rfl,ba0,ba1⟩:=New.bls n10
 nofun
 refine zeQ (SqL.of ba1) ?_
 rw[show ((so0++[far]).map λ_=>true).all id=true by simp]
 have hA10:=hA9.same s10
 have hma10:=s10 _ _ hma9
 have hga10:=s10 _ _ hga9
 have hk10:=hk9.mono λm v z=>DsAt.nod s10.nod z
 have hS10:=s10.seq hS9
 have g10:=s10 _ _ g9
 clear hA9 hma9 hga9 hk9 hS9 g9 ba1 n10
 nofun
 walk_at "q"
 nofun
 refine⟨ma,kvs,ks,rfl,hma10,hk10.1,by omega,λtl so1 tl0 pm1 so1'=>?_⟩
 have s11:=zaf tl0 (.lst (so1.map V.int))
 have g11:(upd H10 tl (.lst (so1.map V.int))) tl=some (.lst (so1.map V.int)):=zac
 generalize upd H10 tl (.lst (so1.map V.int))=H11 at *
 have hA11:=hA10.same s11
 have hma11:=s11 _ _ hma10
 have hga11:=s11 _ _ hga10
 have hk11:=hk10.mono λm v z=>DsAt.nod s11.nod z
 have hS11:=s11.seq hS10
 have a11:=s11 _ _ g10
 clear hA10 hma10 hga10 hk10 hS10 g10
 nofun
 refine zf8 hS11 (by decide) ?_
 nofun
 refine⟨ma,kvs,rfl,hma11,?_⟩
 rw[hk11.len]
 have kp:0<ks.length:=by
  obtain⟨x,hx⟩:∃ x,x∈ns:=⟨ns[0]'(by omega),List.getElem_mem _⟩
  exact List.length_pos_of_mem ((hks x).mpr hx)
 have np:0<(ks.length:Int):=by omega
 have b0:=Int.emod_nonneg (cell cs 3 / 100) (show (ks.length:Int)≠0 by omega)
 have b1:=Int.emod_lt_of_pos (cell cs 3 / 100) np
 nofun
 generalize cell cs 3 / 100 % (ks.length:Int)=j at b0 b1 ⊢
 have len1:=pm1.length_eq
 have hj:j.toNat<so1.length:=by omega
 refine zgf (SqL.of g11) (v:=.int so1[j.toNat]) (zkX b0 (by rw[zgm,List.getElem?_eq_getElem hj];rfl)) ?_
 have gk:so1[j.toNat]∈ks:=pm1.mem_iff.mp (List.getElem_mem hj)
 generalize so1[j.toNat]=gone at gk ⊢
 have gb:=kb gone gk
 obtain⟨dx11,hh11⟩:=hA11.ins
 nofun
 walk_at "q"
 nofun
 refine⟨ha,dx11,_,rfl,hh11,zdo (by decide +kernel) (by decide +kernel),?_⟩
 nofun
 refine⟨ha,la,va,gone,ks,cr,ws,fp,rfl,hA11,by unfold zbb;omega,λz=>absurd gk z,λ_ H12 ws12 o12 hA12 hw12=>?_⟩
 have d12:=o12.nod λb hb=>(by
  obtain⟨kl,hla,_⟩:=hA11.laid
  obtain⟨kv,hva,_⟩:=hA11.vou
  simp only[List.mem_cons,List.not_mem_nil,or_false] at hb
  rcases hb with rfl | rfl
  ·exact⟨_,hla⟩
  ·exact⟨_,hva⟩)
 have hma12:=o12 _ _ (by simp[nla,nva]) hma11
 have hga12:=o12 _ _ (by simp[gla,gva]) hga11
 have hk12:=hk11.mono λm v z=>DsAt.nod d12 z
 have a12:=d12 _ _ a11 (λ_ z=>by cases z)
 have hS12:=d12.sq.lst hS11
 nofun
 walk_at "q"
 nofun
 obtain⟨gv,egv,_⟩:=hk12.2.2 gone gk
 refine⟨ma,rfl,.inl ⟨_,.inl hma12⟩,?_⟩
 nofun
 refine⟨kvs,.inl gone,gv,hma12,rfl,egv,?_⟩
 have o13:OffA [ma] H12 (upd H12 ma (.dK (zbI kvs (.inl gone)))):=zcc (by simp)
 have d13:NoD H12 (upd H12 ma (.dK (zbI kvs (.inl gone)))):=zcD hma12
 have hA13:=zev hA12 hma12 nla nva o13
 have hga13:=o13 _ _ (by simp[gma]) hga12
 have hk13:=(hk12.mono (P':=λm v=>DsAt (upd H12 ma (.dK (zbI kvs (.inl gone)))) (cr m).deeds v) λm v z=>DsAt.nod d13 z).drop (m:=gone)
 have g13:(upd H12 ma (.dK (zbI kvs (.inl gone)))) ma=some (.dK (zbI kvs (.inl gone))):=zac
 have a13:=d13 _ _ a12 (λ_ z=>by cases z)
 generalize upd H12 ma (.dK (zbI kvs (.inl gone)))=H13 at *
 clear hA12 hma12 hga12 hk12 a12 hS12 hA11 hma11 hga11 hk11 hS11 a11 g11
 have k2:∀ m,m∈(ks.filter λk=>decide (k≠gone))↔m∈ks/\m≠gone:=λm=>by rw[List.mem_filter,decide_eq_true_eq]
 generalize (ks.filter λk=>decide (k≠gone))=ks2 at *
 generalize zbI kvs (.inl gone)=kvs2 at *
 have k2l:=zbM hk13.2.1 λm hm=>((k2 m).mp hm).1
 have g60:=zbM hg6.2.1 λm hm=>(hA13.few |> λ_=>hus2 m (by
  have:=(hgw m).mp hm
  exact (hsub m this)))
 nofun
 with_reducible refine zdV (λσ H'=>∃ kvg gs',A7 (σ=[some (.ref a),some (.ref ha),some (.ref na),some (.ref ma),x4,x5,x6,some (.ref ga),some (.ref al),some (.int gone)]) (NoD H13 H') (HAt (C 5) (C 0) H' ha la va ks2 cr ws12 fp) (H' ma=some (.dK kvs2)) (H' ga=some (.dK kvg)) (KVs (λ_ _=>True) kvg gs') (∀ m,m∈gs'↔m∈gs/\m≠gone)) (λNX hN=>?_) (λσ H' hM=>?_)
 ·nofun
  refine⟨ga,rfl,.inl ⟨_,.inl hga13⟩,?_⟩
  nofun
  refine⟨kvg,.inl gone,hga13,rfl,λv ev=>?_,λev=>?_⟩
  ·have o14:OffA [ga] H13 (upd H13 ga (.dK (zbI kvg (.inl gone)))):=zcc (by simp)
   exact hN _ _ ⟨_,_,rfl,zcD hga13,zev hA13 hga13 gla gva o14,o14 _ _ (by simp[gma.symm]) g13,zac,hg6.drop (m:=gone),λm=>by rw[List.mem_filter,decide_eq_true_eq]⟩
  ·refine hN _ _ ⟨kvg,gs,rfl,(Same.refl _).nod,hA13,g13,hga13,hg6,λm=>⟨λz=>⟨z,λw=>?_⟩,λz=>z.1⟩⟩
   obtain⟨v,e,_⟩:=hg6.2.2 m z
   rw[w,ev] at e;cases e
 obtain⟨kvg2,gs2,rfl,d14,hA14,hma14,hga14,hg14,hgs2⟩:=hM
 have hk14:=hk13.mono λm v z=>DsAt.nod d14 z
 have a14:=d14 _ _ a13 (λ_ z=>by cases z)
 clear hA13 hga13 hk13 g13 a13
 nofun
 with_reducible refine zdV (λσ H'=>E3 λx5 kvg gs'=>A9 (σ=[some (.ref a),some (.ref ha),some (.ref na),some (.ref ma),x4,x5,x6,some (.ref ga),some (.ref al),some (.int gone)]) (NoD H' H') (HAt (C 5) (C 0) H' ha la va ks2 cr ws12 fp) (H' ma=some (.dK kvs2)) (KVs (λm v=>DsAt H' (cr m).deeds v) kvs2 ks2) (H' ga=some (.dK kvg)) (KVs (λ_ _=>True) kvg gs') ((∀ m,m∈gs'↔m∈ws12)) (H' al=some (.lst ((so0++[far]).map V.int)))) (λNX hN=>?_) (λσ H' hM=>?_)
 ·nofun
  refine⟨ma,kvs2,ks2,rfl,hma14,hk14.1,by omega,λsl2 so2 sl20 pm2 so2'=>?_⟩
  have s15:=zaf sl20 (.lst (so2.map V.int))
  have g15:(upd H' sl2 (.lst (so2.map V.int))) sl2=some (.lst (so2.map V.int)):=zac
  generalize upd H' sl2 (.lst (so2.map V.int))=H15 at *
  refine⟨sl2,rfl,⟨_,SqL.of g15⟩,?_⟩
  refine zfH (xs:=so2.map V.int) (λi σ Hz=>E3 λx5 kvg gs'=>A7 (σ=[some (.ref a),some (.ref ha),some (.ref na),some (.ref ma),x4,x5,x6,some (.ref ga),some (.ref al),some (.int gone)]) (NoD H15 Hz) (HAt (C 5) (C 0) Hz ha la va ks2 cr ws12 fp) (Hz ma=some (.dK kvs2)) (Hz ga=some (.dK kvg)) (KVs (λ_ _=>True) kvg gs') (∀ m,m∈gs'↔m∈gs2/\(m∈so2.take i->gone∉zaw (cr m).deeds))) ⟨x5,kvg2,gs2,rfl,(Same.refl _).nod,hA14.same s15,s15 _ _ hma14,s15 _ _ hga14,hg14,λm=>⟨λz=>⟨z,λw=>by simp at w⟩,λz=>z.1⟩⟩ (λi σ Hz _ ⟨_,_,_,_,d,_,_,_,_,_⟩=>SqL.of (d _ _ g15 (λ_ z=>by cases z))) ?_ ?_
  ·rintro i v σ H16 hv ⟨x5,kvg3,gs3,rfl,d16,hA16,hma16,hga16,hg16,hgs3⟩
   rw[zgm] at hv
   obtain⟨n,en,rfl⟩:=zme.mp hv
   have nk:n∈ks2:=pm2.mem_iff.mp (zmg en)
   have tk:so2.take (i+1)=so2.take i++[n]:=by rw[List.take_add_one,en];rfl
   have n8:(cr n).deeds.length<=3:=by
    obtain⟨ds,e,_,h3⟩:=hcr n
    rw[e];exact h3
   obtain⟨v,ev,l,dvs,rfl,hl,r2⟩:=(hk14.mono (P':=λm v=>DsAt H16 (cr m).deeds v) λm v z=>DsAt.nod (s15.nod.trans d16) z).2.2 n nk
   nofun
   refine⟨ma,.ref l,rfl,by rw[<-ev];exact DGet.k (k:=.inl n) hma16,?_⟩
   refine⟨l,rfl,⟨_,SqL.of hl⟩,?_⟩
   refine zaA (zay (SqL.of hl)) (((cr n).deeds.map λd=>decide (zbf d=some gone)).map D.bl) (by simp[r2.1]) (zaj (by rw[<-r2.1];omega)) (λk x d H17 R hi hd s17 hx hR=>?_) (λv H17 s17 n17=>?_)
   ·have hi':k<(cr n).deeds.length:=by rw[r2.1];exact hi
    have ed:(cr n).deeds[k]?=some (cr n).deeds[k]:=List.getElem?_eq_getElem hi'
    rw[zgm,zgm,ed] at hd
    cases hd
    have dr:=(r2.2 k _ x ed hx).sq s17.nod.sq
    generalize (cr n).deeds[k]=d at *
    cases hcb:zbf d with
    | none=>
     obtain⟨t,xs,rfl,ht⟩:=zd9 dr
     nofun
     refine zaO (SqT.of ht) zbs ?_
     nofun
     rw[zeG,hcb]
     dsimp only[Option.isSome]
     nofun
     dsimp only at hR
     rw[hcb,decide_eq_false (by simp)] at hR
     exact hR _ _ (Same.refl _) New.bl
    | some m=>
     obtain⟨t,xs,rfl,ht⟩:∃ t xs,x=.ref t/\H17 t=some (.tup (.str (zbX d)::.int m::xs)):=by
      cases d with
      | call m' g0 g1 t0 t1=>
       cases hcb
       obtain⟨t,xs,rfl,ht,px⟩:=zbl dr
       obtain⟨x0,r1,rfl,e0,px1⟩:=zar px
       obtain⟨x1,r3,rfl,e1,px2⟩:=zar px1
       cases zbW e0
       cases zbz e1
       exact⟨t,r3,rfl,ht⟩
      | set _ _=>cases hcb
      | part _ _ _=>cases hcb
      | draw _ _ _=>cases hcb
      | turn _ _=>cases hcb
      | hold _=>cases hcb
     nofun
     refine zaO (SqT.of ht) zbs ?_
     nofun
     rw[zeG,hcb]
     dsimp only[Option.isSome]
     nofun
     refine zaO (SqT.of ht) (zaJ (j:=1) rfl) ?_
     nofun
     dsimp only at hR
     rw[hcb,show decide (some m=some gone)=decide (m=gone) by simp] at hR
     exact hR _ _ (Same.refl _) New.bl
   obtain⟨ba,rfl,ba0,ba1⟩:=New.bls n17
   nofun
   refine zoT (SqL.of ba1) ?_
   have ea:((cr n).deeds.map λd=>decide (zbf d=some gone)).any id=decide (gone∈zaw (cr n).deeds):=by
    rw[Bool.eq_iff_iff,List.any_map,List.any_eq_true,decide_eq_true_eq]
    unfold zaw
    rw[List.mem_filterMap]
    exact⟨λ⟨d,hd,e⟩=>⟨d,hd,of_decide_eq_true e⟩,λ⟨d,hd,e⟩=>⟨d,hd,decide_eq_true e⟩⟩
   rw[ea]
   have hga17:=s17 _ _ hga16
   have hma17:=s17 _ _ hma16
   have hA17:=hA16.same s17
   have d17:=d16.trans s17.nod
   by_cases gc:gone∈zaw (cr n).deeds
   ·rw[decide_eq_true gc]
    nofun
    refine⟨ga,rfl,.inl ⟨_,.inl hga17⟩,?_⟩
    nofun
    refine⟨kvg3,.inl n,hga17,rfl,λv ev=>?_,λev=>?_⟩
    ·have o18:OffA [ga] H17 (upd H17 ga (.dK (zbI kvg3 (.inl n)))):=zcc (by simp)
     refine⟨_,_,_,rfl,d17.trans (zcD hga17),zev hA17 hga17 gla gva o18,o18 _ _ (by simp[gma.symm]) hma17,zac,hg16.drop (m:=n),λm=>?_⟩
     rw[List.mem_filter,decide_eq_true_eq,hgs3 m,tk,zma,zms]
     exact⟨λz=>⟨z.1.1,λw=>w.elim z.1.2 λy=>absurd y z.2⟩,λz=>⟨⟨z.1,λw=>z.2 (.inl w)⟩,λy=>z.2 (.inr y) (y ▸ gc)⟩⟩
    ·refine⟨_,kvg3,gs3,rfl,d17,hA17,hma17,hga17,hg16,λm=>?_⟩
     rw[hgs3 m,tk,zma,zms]
     refine⟨λz=>⟨z.1,λw=>w.elim z.2 λy=>?_⟩,λz=>⟨z.1,λw=>z.2 (.inl w)⟩⟩
     have mg:m∈gs3:=(hgs3 m).mpr z
     obtain⟨v,e,_⟩:=hg16.2.2 m mg
     rw[y,ev] at e;cases e
   ·rw[decide_eq_false gc]
    nofun
    refine⟨_,kvg3,gs3,rfl,d17,hA17,hma17,hga17,hg16,λm=>?_⟩
    rw[hgs3 m,tk,zma,zms]
    exact⟨λz=>⟨z.1,λw=>w.elim z.2 λy=>y ▸ gc⟩,λz=>⟨z.1,λw=>z.2 (.inl w)⟩⟩
  ·rintro σ H16 ⟨x5,kvg3,gs3,rfl,d16,hA16,hma16,hga16,hg16,hgs3⟩
   rw[zlm,List.take_of_length_le (Nat.le_refl _)] at hgs3
   have dz:=s15.nod.trans d16
   refine hN _ _ ⟨x5,kvg3,gs3,rfl,λ_ _ z _=>z,hA16,hma16,hk14.mono λm v z=>DsAt.nod dz z,hga16,hg16,λm=>?_,dz _ _ a14 (λ_ z=>by cases z)⟩
   rw[hgs3 m,hgs2 m,hgw m,hw12 m]
   refine⟨λz=>⟨z.1.1,z.1.2,λw=>?_⟩,λz=>⟨⟨z.1,z.2.1⟩,λ_ w=>z.2.2 ?_⟩⟩
   ·have mk:=hsub m z.1.1
    unfold zaC at w
    rw[if_pos mk] at w
    exact z.2 (pm2.mem_iff.mpr ((k2 m).mpr ⟨mk,z.1.2⟩)) w
   ·unfold zaC
    rw[if_pos (hsub m z.1)]
    exact w
 obtain⟨x5,kvg3,gs3,rfl,_,hA15,hma15,hk15,hga15,hg15,hgw15,a15⟩:=hM
 nofun
 refine⟨al,rfl,⟨_,SqL.of a15⟩,?_⟩
 refine zaA (zay (SqL.of a15)) (((so0++[far]).map λ_=>true).map D.bl) (by simp) (zaj (by simp;omega)) (λi x d H10 R hi hd s10 hx hR=>?_) (λv H10 s10 n10=>?_)
 ·rw[zgm] at hx
  obtain⟨m,em,rfl⟩:=zme.mp hx
  rw[zgm,zgm,em] at hd
  cases hd
  nofun
  exact⟨ha,la,va,ma,ga,m,ks2,ks2,gs3,cr,ws12,fp,kvs2,kvg3,us,rfl,hA15.same s10,s10 _ _ hma15,hk15.mono λm v z=>DsAt.nod s10.nod z,λm=>Iff.rfl,s10 _ _ hga15,hg15,hgw15,ask m (zmg em),cu λm hm=>((k2 m).mp hm).1,hus1,λH11 s11=>hR _ _ s11 New.bl⟩
 obtain⟨ba,rfl,ba0,ba1⟩:=New.bls n10
 nofun
 refine zeQ (SqL.of ba1) ?_
 rw[show ((so0++[far]).map λ_=>true).all id=true by simp]
 exact q _
end
end My
namespace My
open PySem L2 PyProof.Rows
abbrev FQ (K:Fg)(f:Addr)(x q:Str)(s:Stmt):Prop:=∃ oc od sl kV dc pm an cd ct,K.lookup f=some ⟨oc,od,.func (fnOf x q (zcV s) (zbO s) (zad s) .none kV dc pm an cd ct),sl⟩/\codeIn K cd q=true/\keepIn K (.ref f)=true
theorem zaR {K:Fg}{f:Addr}{x q:Str}{s:Stmt}(h:FQ K f x q s):∃ fd,Fun K x q s f fd:=by
 obtain⟨_,_,_,_,_,_,_,_,_,l,c,k⟩:=h
 exact⟨_,zmB l c k⟩
abbrev NI (K:Fg)(x:Str)(f:Addr):Prop:=nsIn K mainGlobals x=some (some (.ref f))
abbrev FI (K:Fg)(C:Addr)(x:Str)(f:Addr):Prop:=findIn K (.ref C) x=some (some (.ref f))
abbrev KI (K:Fg)(f:Addr):Prop:=keepIn K (.ref f)=true
abbrev IF (K:Fg)(f:Addr):Prop:=isFn K (.ref f)=true
theorem all_mk {l:PySem.W.OpenLaw}{w:World}{K:Fg}{h:Heap}{mg:Str->Option Value}{fa:Addr}(X:K.In h)(G:h.Ns mainGlobals mg)(hfa:mg "law"=some (.ref fa))
  (aC0:NI K "Craft" C0)
  (aC1:NI K "HallError" C1)
  (aC2:NI K "BadSheet" C2)
  (aC3:NI K "NoCraft" C3)
  (aC4:NI K "Unmet" C4)
  (aC5:NI K "Hall" C5)
  (a1:NI K "copied_lines" f1) (l1:FQ K f1 "copied_lines" "copied_lines" zbC)
  (a2:NI K "copied_deed" f2) (l2:FQ K f2 "copied_deed" "copied_deed" zbP)
  (a3:FI K C0 "__init__" f3) (i3:IF K f3) (l3:FQ K f3 "__init__" "Craft.__init__" za6)
  (a4:NI K "bare" f4) (l4:FQ K f4 "bare" "bare" zht)
  (a5:NI K "summed" f5) (l5:FQ K f5 "summed" "summed" zed)
  (a6:NI K "turned" f6) (l6:FQ K f6 "turned" "turned" zfc)
  (a7:NI K "copied_craft" f7) (l7:FQ K f7 "copied_craft" "copied_craft" zb8)
  (a8:NI K "called_by" f8) (l8:FQ K f8 "called_by" "called_by" zcv)
  (a9:NI K "between" f9) (l9:FQ K f9 "between" "between" zee)
  (a10:NI K "small_enough" f10) (l10:FQ K f10 "small_enough" "small_enough" zb9)
  (a11:NI K "line_right" f11) (l11:FQ K f11 "line_right" "line_right" zbN)
  (a12:NI K "lines_right" f12) (l12:FQ K f12 "lines_right" "lines_right" zbS)
  (a13:NI K "oath_right" f13) (l13:FQ K f13 "oath_right" "oath_right" zcH)
  (a14:NI K "hand_right" f14) (l14:FQ K f14 "hand_right" "hand_right" zcK)
  (a15:NI K "two_hands_right" f15) (l15:FQ K f15 "two_hands_right" "two_hands_right" za8)
  (a16:NI K "call_right" f16) (l16:FQ K f16 "call_right" "call_right" zcJ)
  (a17:NI K "range_right" f17) (l17:FQ K f17 "range_right" "range_right" zcm)
  (a18:NI K "deed_right" f18) (l18:FQ K f18 "deed_right" "deed_right" zcI)
  (a19:NI K "deeds_right" f19) (l19:FQ K f19 "deeds_right" "deeds_right" zbQ)
  (a20:NI K "notes_right" f20) (l20:FQ K f20 "notes_right" "notes_right" zbR)
  (a21:NI K "right" f21) (l21:FQ K f21 "right" "right" zgS)
  (a22:NI K "due_at" f22) (l22:FQ K f22 "due_at" "due_at" zdE)
  (a23:NI K "eight_with" f23) (l23:FQ K f23 "eight_with" "eight_with" zcf)
  (a24:NI K "each_from" f24) (l24:FQ K f24 "each_from" "each_from" zcw)
  (a25:NI K "all_turned" f25) (l25:FQ K f25 "all_turned" "all_turned" zce)
  (a26:NI K "constant" f26) (l26:FQ K f26 "constant" "constant" zdF)
  (a27:NI K "first_duties" f27) (l27:FQ K f27 "first_duties" "first_duties" zca)
  (a28:NI K "call_duties" f28) (l28:FQ K f28 "call_duties" "call_duties" zcr)
  (a29:NI K "part_duties" f29) (l29:FQ K f29 "part_duties" "part_duties" zco)
  (a30:NI K "draw_duties" f30) (l30:FQ K f30 "draw_duties" "draw_duties" zcp)
  (a31:NI K "turn_duties" f31) (l31:FQ K f31 "turn_duties" "turn_duties" zcq)
  (a32:NI K "deed_duties" f32) (l32:FQ K f32 "deed_duties" "deed_duties" zcn)
  (a33:NI K "duties" f33) (l33:FQ K f33 "duties" "duties" zfd)
  (a34:NI K "shows" f34) (l34:FQ K f34 "shows" "shows" zdp)
  (a35:NI K "noughts_and_ones" f35) (l35:FQ K f35 "noughts_and_ones" "noughts_and_ones" zaX)
  (a36:NI K "sought" f36) (l36:FQ K f36 "sought" "sought" zfe)
  (a37:FI K C5 "__init__" f37) (i37:IF K f37) (l37:FQ K f37 "__init__" "Hall.__init__" zbT)
  (a38:FI K C5 "release" f38) (i38:IF K f38) (l38:FQ K f38 "release" "Hall.release" zcb)
  (a39:FI K C5 "called_at" f39) (i39:IF K f39) (l39:FQ K f39 "called_at" "Hall.called_at" zbH)
  (a40:FI K C5 "release_callers" f40) (i40:IF K f40) (l40:FQ K f40 "release_callers" "Hall.release_callers" za4)
  (a41:NI K "same_oath" f41) (l41:FQ K f41 "same_oath" "same_oath" zdb)
  (a42:FI K C5 "lay" f42) (i42:IF K f42) (l42:FQ K f42 "lay" "Hall.lay" zdG)
  (a43:FI K C5 "must_stand" f43) (i43:IF K f43) (l43:FQ K f43 "must_stand" "Hall.must_stand" zbu)
  (a44:FI K C5 "tear" f44) (i44:IF K f44) (l44:FQ K f44 "tear" "Hall.tear" zc9)
  (a45:FI K C5 "duties_at" f45) (i45:IF K f45) (l45:FQ K f45 "duties_at" "Hall.duties_at" zbG)
  (a46:FI K C5 "seek" f46) (i46:IF K f46) (l46:FQ K f46 "seek" "Hall.seek" zb5)
  (a47:FI K C5 "held" f47) (i47:IF K f47) (l47:FQ K f47 "held" "Hall.held" zda)
  (a48:FI K C5 "reach" f48) (i48:IF K f48) (l48:FQ K f48 "reach" "Hall.reach" zcL)
  (a49:FI K C5 "sworn" f49) (i49:IF K f49) (l49:FQ K f49 "sworn" "Hall.sworn" zcg)
  (a50:NI K "_law_mix" f50) (l50:FQ K f50 "_law_mix" "_law_mix" zgT)
  (a51:NI K "_law_deeds" f51) (l51:FQ K f51 "_law_deeds" "_law_deeds" zef)
  (a52:NI K "_law_cell_at" f52) (l52:FQ K f52 "_law_cell_at" "_law_cell_at" zdc)
  (a53:NI K "_law_met" f53) (l53:FQ K f53 "_law_met" "_law_met" zeH)
  (a54:NI K "_law_reach" f54) (l54:FQ K f54 "_law_reach" "_law_reach" zeg)
  (a55:NI K "_law_told" f55) (l55:FQ K f55 "_law_told" "_law_told" zff)
  (a56:NI K "_law_same" f56) (l56:FQ K f56 "_law_same" "_law_same" zei)
  (a57:NI K "_law_met" f57) (l57:FQ K f57 "_law_met" "_law_met" zeh)
  (a58:NI K "_law_sought" f58) (l58:FQ K f58 "_law_sought" "_law_sought" zdH)
  (a59:NI K "law" f59) (l59:FQ K f59 "law" "law" zeI)
  (z_all:nsIn K mainGlobals "all"=some none)
  (z_any:nsIn K mainGlobals "any"=some none)
  (z_bool:nsIn K mainGlobals "bool"=some none)
  (z_enumerate:nsIn K mainGlobals "enumerate"=some none)
  (z_isinstance:nsIn K mainGlobals "isinstance"=some none)
  (z_len:nsIn K mainGlobals "len"=some none)
  (z_list:nsIn K mainGlobals "list"=some none)
  (z_min:nsIn K mainGlobals "min"=some none)
  (z_range:nsIn K mainGlobals "range"=some none)
  (z_sorted:nsIn K mainGlobals "sorted"=some none)
  (z_tuple:nsIn K mainGlobals "tuple"=some none)
  (z_zip:nsIn K mainGlobals "zip"=some none)
  (y_NUMBERS:nsIn K mainGlobals "NUMBERS"=some (some (.int 9 t_NUMBERS)))
  (y_FACTORS:nsIn K mainGlobals "FACTORS"=some (some (.int 8 t_FACTORS)))
  (y_HAND_SPOTS:NI K "HAND_SPOTS" a_HAND_SPOTS) (x_HAND_SPOTS:K.lookup a_HAND_SPOTS=some ⟨.type "tuple",dd_HAND_SPOTS,.seq #[.int 1 t_HAND_SPOTS_0,.int 2 t_HAND_SPOTS_1,.int 3 t_HAND_SPOTS_2,.int 4 t_HAND_SPOTS_3] n_HAND_SPOTS,ss_HAND_SPOTS⟩)
  (y_LEFT_SPOTS:NI K "LEFT_SPOTS" a_LEFT_SPOTS) (x_LEFT_SPOTS:K.lookup a_LEFT_SPOTS=some ⟨.type "tuple",dd_LEFT_SPOTS,.seq #[.int 7 t_LEFT_SPOTS_0,.int 8 t_LEFT_SPOTS_1] n_LEFT_SPOTS,ss_LEFT_SPOTS⟩)
  (y_LEFT_AS_HANDS:NI K "LEFT_AS_HANDS" a_LEFT_AS_HANDS) (x_LEFT_AS_HANDS:K.lookup a_LEFT_AS_HANDS=some ⟨.type "tuple",dd_LEFT_AS_HANDS,.seq #[.int 0 t_LEFT_AS_HANDS_0,.int 1 t_LEFT_AS_HANDS_1,.int 2 t_LEFT_AS_HANDS_2,.int 3 t_LEFT_AS_HANDS_3,.int 4 t_LEFT_AS_HANDS_4,.int 5 t_LEFT_AS_HANDS_5,.int 0 t_LEFT_AS_HANDS_6,.int 1 t_LEFT_AS_HANDS_7] n_LEFT_AS_HANDS,ss_LEFT_AS_HANDS⟩)
  (y_MOST_LINES:nsIn K mainGlobals "MOST_LINES"=some (some (.int 2 t_MOST_LINES)))
  (y_MOST_DEEDS:nsIn K mainGlobals "MOST_DEEDS"=some (some (.int 8 t_MOST_DEEDS)))
  (y_LAST_HAND:nsIn K mainGlobals "LAST_HAND"=some (some (.int 3 t_LAST_HAND)))
  (y_LAST_NUMBER:nsIn K mainGlobals "LAST_NUMBER"=some (some (.int 99 t_LAST_NUMBER)))
  (y_GREATEST_BY:nsIn K mainGlobals "GREATEST_BY"=some (some (.int 1000 t_GREATEST_BY)))
  (y_GREATEST:nsIn K mainGlobals "GREATEST"=some (some (.int 1000000000 t_GREATEST)))
  (y_ASKED_0:nsIn K mainGlobals "ASKED_0"=some (some (.int 4 t_ASKED_0)))
  (y_ASKED_1:nsIn K mainGlobals "ASKED_1"=some (some (.int 5 t_ASKED_1)))
  (y_NEW_0:nsIn K mainGlobals "NEW_0"=some (some (.int 6 t_NEW_0)))
  (y_NEW_1:nsIn K mainGlobals "NEW_1"=some (some (.int 7 t_NEW_1)))
  (y_WHOLES:NI K "WHOLES" a_WHOLES) (x_WHOLES:K.lookup a_WHOLES=some ⟨.type "tuple",dd_WHOLES,.seq #[.int 1 t_WHOLES_0,.int 2 t_WHOLES_1,.int 3 t_WHOLES_2,.int 4 t_WHOLES_3] n_WHOLES,ss_WHOLES⟩)
  (oC1:K.lookup C1=some (PySem.excClassObj xn1 xq1 C1 xN1 xb1 zbA xh1 xl1 xs1 xa1 xc1 xd1 x0_1 x1_1 x2_1 x3_1 x5_1 "ValueError.__new__")) (xC1:excIn K C1 zbA "ValueError.__new__"=true)
  (oC2:K.lookup C2=some (PySem.excClassObj xn2 xq2 C2 xN2 xb2 (.ref C1::zbA) xh2 xl2 xs2 xa2 xc2 xd2 x0_2 x1_2 x2_2 x3_2 x5_2 "ValueError.__new__")) (xC2:excIn K C2 zbA "ValueError.__new__"=true)
  (oC3:K.lookup C3=some (PySem.excClassObj xn3 xq3 C3 xN3 xb3 (.ref C1::zbA) xh3 xl3 xs3 xa3 xc3 xd3 x0_3 x1_3 x2_3 x3_3 x5_3 "ValueError.__new__")) (xC3:excIn K C3 zbA "ValueError.__new__"=true)
  (oC4:K.lookup C4=some (PySem.excClassObj xn4 xq4 C4 xN4 xb4 (.ref C1::zbA) xh4 xl4 xs4 xa4 xc4 xd4 x0_4 x1_4 x2_4 x3_4 x5_4 "ValueError.__new__")) (xC4:excIn K C4 zbA "ValueError.__new__"=true)
  (pg0:PySem.W.plainGet K C0 Str.empty=true) (hd0:PySem.W.hasDictIn K C0=true) (po0:PySem.W.plainOver K C0=true) (sa0:findIn K (.ref C0) "__setattr__"=some (some (.builtin "object.__setattr__"))) (mk0:makesIn K C0=true) (kc0:KI K C0)
  (na0_needs:findIn K (.ref C0) "needs"=some none)
  (na0_leaves:findIn K (.ref C0) "leaves"=some none)
  (na0_deeds:findIn K (.ref C0) "deeds"=some none)
  (na0_notes:findIn K (.ref C0) "notes"=some none)
  (pg5:PySem.W.plainGet K C5 Str.empty=true) (hd5:PySem.W.hasDictIn K C5=true) (po5:PySem.W.plainOver K C5=true) (sa5:findIn K (.ref C5) "__setattr__"=some (some (.builtin "object.__setattr__"))) (mk5:makesIn K C5=true) (kc5:KI K C5)
  (na5_laid:findIn K (.ref C5) "laid"=some none)
  (na5_vouched:findIn K (.ref C5) "vouched"=some none) :
  ∃ fd:FuncData,(∀ (s:Shared) (v:Value),BindsTo s fd ⟨[v],[]⟩ [("script",v)])/\∀ b8:Heap,K.In b8->b8.Ns mainGlobals mg->FnOk l.prog w K mg b8 CX0 10 fa fd ["script"] (Q62 K):=by
 have e:=hfa.symm.trans (mg_of X G a59)
 cases e
 have B:Bl K mg:=⟨mg_none_of X G z_all,mg_none_of X G z_any,mg_none_of X G z_bool,mg_none_of X G z_enumerate,mg_none_of X G z_isinstance,mg_none_of X G z_len,mg_none_of X G z_list,mg_none_of X G z_min,mg_none_of X G z_range,mg_none_of X G z_sorted,mg_none_of X G z_tuple,mg_none_of X G z_zip,⟨_,mg_of X G y_NUMBERS⟩,⟨_,mg_of X G y_FACTORS⟩,⟨_,mg_of X G y_MOST_LINES⟩,⟨_,mg_of X G y_MOST_DEEDS⟩,⟨_,mg_of X G y_LAST_HAND⟩,⟨_,mg_of X G y_LAST_NUMBER⟩,⟨_,mg_of X G y_GREATEST_BY⟩,⟨_,mg_of X G y_GREATEST⟩,⟨_,mg_of X G y_ASKED_0⟩,⟨_,mg_of X G y_ASKED_1⟩,⟨_,mg_of X G y_NEW_0⟩,⟨_,mg_of X G y_NEW_1⟩,⟨_,mg_of X G y_HAND_SPOTS,λ_=>.inr ⟨_,_,_,x_HAND_SPOTS,rfl,rfl,zaj (by simp),.cons ⟨_,rfl⟩ (.cons ⟨_,rfl⟩ (.cons ⟨_,rfl⟩ (.cons ⟨_,rfl⟩ (.nil))))⟩⟩,⟨_,mg_of X G y_LEFT_SPOTS,λ_=>.inr ⟨_,_,_,x_LEFT_SPOTS,rfl,rfl,zaj (by simp),.cons ⟨_,rfl⟩ (.cons ⟨_,rfl⟩ (.nil))⟩⟩,⟨_,mg_of X G y_LEFT_AS_HANDS,λ_=>.inr ⟨_,_,_,x_LEFT_AS_HANDS,rfl,rfl,zaj (by simp),.cons ⟨_,rfl⟩ (.cons ⟨_,rfl⟩ (.cons ⟨_,rfl⟩ (.cons ⟨_,rfl⟩ (.cons ⟨_,rfl⟩ (.cons ⟨_,rfl⟩ (.cons ⟨_,rfl⟩ (.cons ⟨_,rfl⟩ (.nil))))))))⟩⟩,⟨_,mg_of X G y_WHOLES,λ_=>.inr ⟨_,_,_,x_WHOLES,rfl,rfl,zaj (by simp),.cons ⟨_,rfl⟩ (.cons ⟨_,rfl⟩ (.cons ⟨_,rfl⟩ (.cons ⟨_,rfl⟩ (.nil))))⟩⟩⟩
 have Z:Zt K mg (λi=>[C0,C1,C2,C3,C4,C5].getD i 0):=⟨⟨pg0,hd0,po0,sa0⟩,mg_of X G aC0,na0_needs,na0_leaves,na0_deeds,na0_notes,⟨⟨_,_,_,_,_,_,_,_,_,_,_,_,_,_,_,oC1⟩,xC1⟩,mg_of X G aC1,⟨⟨_,_,_,_,_,_,_,_,_,_,_,_,_,_,_,oC2⟩,xC2⟩,mg_of X G aC2,⟨⟨_,_,_,_,_,_,_,_,_,_,_,_,_,_,_,oC3⟩,xC3⟩,mg_of X G aC3,⟨⟨_,_,_,_,_,_,_,_,_,_,_,_,_,_,_,oC4⟩,xC4⟩,mg_of X G aC4,⟨pg5,hd5,po5,sa5⟩,mg_of X G aC5,na5_laid,na5_vouched⟩
 obtain⟨_,F1⟩:=zaR l1
 obtain⟨_,F2⟩:=zaR l2
 obtain⟨_,F3⟩:=zaR l3
 obtain⟨_,F4⟩:=zaR l4
 obtain⟨_,F5⟩:=zaR l5
 obtain⟨_,F6⟩:=zaR l6
 obtain⟨_,F7⟩:=zaR l7
 obtain⟨_,F8⟩:=zaR l8
 obtain⟨_,F9⟩:=zaR l9
 obtain⟨_,F10⟩:=zaR l10
 obtain⟨_,F11⟩:=zaR l11
 obtain⟨_,F12⟩:=zaR l12
 obtain⟨_,F13⟩:=zaR l13
 obtain⟨_,F14⟩:=zaR l14
 obtain⟨_,F15⟩:=zaR l15
 obtain⟨_,F16⟩:=zaR l16
 obtain⟨_,F17⟩:=zaR l17
 obtain⟨_,F18⟩:=zaR l18
 obtain⟨_,F19⟩:=zaR l19
 obtain⟨_,F20⟩:=zaR l20
 obtain⟨_,F21⟩:=zaR l21
 obtain⟨_,F22⟩:=zaR l22
 obtain⟨_,F23⟩:=zaR l23
 obtain⟨_,F24⟩:=zaR l24
 obtain⟨_,F25⟩:=zaR l25
 obtain⟨_,F26⟩:=zaR l26
 obtain⟨_,F27⟩:=zaR l27
 obtain⟨_,F28⟩:=zaR l28
 obtain⟨_,F29⟩:=zaR l29
 obtain⟨_,F30⟩:=zaR l30
 obtain⟨_,F31⟩:=zaR l31
 obtain⟨_,F32⟩:=zaR l32
 obtain⟨_,F33⟩:=zaR l33
 obtain⟨_,F34⟩:=zaR l34
 obtain⟨_,F35⟩:=zaR l35
 obtain⟨_,F36⟩:=zaR l36
 obtain⟨_,F37⟩:=zaR l37
 obtain⟨_,F38⟩:=zaR l38
 obtain⟨_,F39⟩:=zaR l39
 obtain⟨_,F40⟩:=zaR l40
 obtain⟨_,F41⟩:=zaR l41
 obtain⟨_,F42⟩:=zaR l42
 obtain⟨_,F43⟩:=zaR l43
 obtain⟨_,F44⟩:=zaR l44
 obtain⟨_,F45⟩:=zaR l45
 obtain⟨_,F46⟩:=zaR l46
 obtain⟨_,F47⟩:=zaR l47
 obtain⟨_,F48⟩:=zaR l48
 obtain⟨_,F49⟩:=zaR l49
 obtain⟨_,F50⟩:=zaR l50
 obtain⟨_,F51⟩:=zaR l51
 obtain⟨_,F52⟩:=zaR l52
 obtain⟨_,F53⟩:=zaR l53
 obtain⟨_,F54⟩:=zaR l54
 obtain⟨_,F55⟩:=zaR l55
 obtain⟨_,F56⟩:=zaR l56
 obtain⟨_,F57⟩:=zaR l57
 obtain⟨_,F58⟩:=zaR l58
 obtain⟨_,_,_,kV,dc,pm,an,cd,ct,l59,c59,k59⟩:=l59
 have F59:=zmB (st:=zeI) l59 c59 k59
 refine⟨fnOf "law" "law" (zcV zeI) (zbO zeI) (zad zeI) .none kV dc pm an cd ct,λs v=>.of_eq rfl,λb8 _ _=>?_⟩
 have G1:=zf2 (P:=l.prog) (w:=w) (b8:=b8) B Z  F1 (mg_of X G a1)
 have G2:=zgl (P:=l.prog) (w:=w) (b8:=b8) B Z  F2 (mg_of X G a2)
 have G3:=zl8 (P:=l.prog) (w:=w) (b8:=b8) B Z G1 G2 F3 ⟨mk0,a3,i3,kc0⟩
 have G4:=znM (P:=l.prog) (w:=w) (b8:=b8) B Z  F4 (mg_of X G a4)
 have G5:=zk9 (P:=l.prog) (w:=w) (b8:=b8) B Z  F5 (mg_of X G a5)
 have G6:=zla (P:=l.prog) (w:=w) (b8:=b8) B Z G5 F6 (mg_of X G a6)
 have G7:=zf3 (P:=l.prog) (w:=w) (b8:=b8) B Z G3 F7 (mg_of X G a7)
 have G8:=zie (P:=l.prog) (w:=w) (b8:=b8) B Z  F8 (mg_of X G a8)
 have G9:=zj1 (P:=l.prog) (w:=w) (b8:=b8) B Z  F9 (mg_of X G a9)
 have G10:=zf4 (P:=l.prog) (w:=w) (b8:=b8) B Z G9 F10 (mg_of X G a10)
 have G11:=zhi (P:=l.prog) (w:=w) (b8:=b8) B Z G10 F11 (mg_of X G a11)
 have G12:=zgn (P:=l.prog) (w:=w) (b8:=b8) B Z G11 F12 (mg_of X G a12)
 have G13:=zhj (P:=l.prog) (w:=w) (b8:=b8) B Z G12 F13 (mg_of X G a13)
 have G14:=zhk (P:=l.prog) (w:=w) (b8:=b8) B Z G9 F14 (mg_of X G a14)
 have G15:=zeE (P:=l.prog) (w:=w) (b8:=b8) B Z G14 F15 (mg_of X G a15)
 have G16:=zhl (P:=l.prog) (w:=w) (b8:=b8) B Z G15 G9 F16 (mg_of X G a16)
 have G17:=zgo (P:=l.prog) (w:=w) (b8:=b8) B Z G10 F17 (mg_of X G a17)
 have G18:=zhn (P:=l.prog) (w:=w) (b8:=b8) B Z G16 G11 G14 G9 G17 F18 (mg_of X G a18)
 have G19:=zgp (P:=l.prog) (w:=w) (b8:=b8) B Z G9 G18 F19 (mg_of X G a19)
 have G20:=zgq (P:=l.prog) (w:=w) (b8:=b8) B Z G12 F20 (mg_of X G a20)
 have G21:=zmd (P:=l.prog) (w:=w) (b8:=b8) B Z G13 G19 G20 F21 (mg_of X G a21)
 have G22:=zld (P:=l.prog) (w:=w) (b8:=b8) B Z G9 G1 G4 G6 F22 (mg_of X G a22)
 have G23:=zhp (P:=l.prog) (w:=w) (b8:=b8) B Z G4 F23 (mg_of X G a23)
 have G24:=zig (P:=l.prog) (w:=w) (b8:=b8) B Z G1 F24 (mg_of X G a24)
 have G25:=zhq (P:=l.prog) (w:=w) (b8:=b8) B Z G6 F25 (mg_of X G a25)
 have G26:=ziT (P:=l.prog) (w:=w) (b8:=b8) B Z  F26 (mg_of X G a26)
 have G27:=zf6 (P:=l.prog) (w:=w) (b8:=b8) B Z G23 G24 G25 G4 G26 G22 F27 (mg_of X G a27)
 have G28:=zgr (P:=l.prog) (w:=w) (b8:=b8) B Z G23 G24 G25 G4 F28 (mg_of X G a28)
 have G29:=zgs (P:=l.prog) (w:=w) (b8:=b8) B Z G5 G24 G25 G4 G26 G23 F29 (mg_of X G a29)
 have G30:=zgt (P:=l.prog) (w:=w) (b8:=b8) B Z G5 G24 G25 G4 G26 G23 F30 (mg_of X G a30)
 have G31:=zgu (P:=l.prog) (w:=w) (b8:=b8) B Z G5 G24 G26 F31 (mg_of X G a31)
 have G32:=zgv (P:=l.prog) (w:=w) (b8:=b8) B Z G22 G28 G24 G29 G30 G31 G25 G23 F32 (mg_of X G a32)
 have G33:=zlg (P:=l.prog) (w:=w) (b8:=b8) B Z G8 G27 G32 F33 (mg_of X G a33)
 have G34:=zmh (P:=l.prog) (w:=w) (b8:=b8) B Z G5 F34 (mg_of X G a34)
 have G35:=zec (P:=l.prog) (w:=w) (b8:=b8) B Z  F35 (mg_of X G a35)
 have G36:=zli (P:=l.prog) (w:=w) (b8:=b8) B Z G35 G34 F36 (mg_of X G a36)
 have G37:=znQ (P:=l.prog) (w:=w) (b8:=b8) B Z  F37 ⟨mk5,a37,i37,kc5⟩
 have G38:=zf7 (P:=l.prog) (w:=w) (b8:=b8) B Z  F38 ⟨a38,i38,F38.kp⟩
 have G39:=ze0 (P:=l.prog) (w:=w) (b8:=b8) B Z G8 F39 ⟨a39,i39,F39.kp⟩
 have G40:=zdj (P:=l.prog) (w:=w) (b8:=b8) B Z G39 G38 F40 ⟨a40,i40,F40.kp⟩
 have G41:=zih (P:=l.prog) (w:=w) (b8:=b8) B Z  F41 (mg_of X G a41)
 have G42:=ziV (P:=l.prog) (w:=w) (b8:=b8) B Z G38 G7 G21 G40 G41 F42 ⟨a42,i42,F42.kp⟩
 have G43:=zeF (P:=l.prog) (w:=w) (b8:=b8) B Z  F43 ⟨a43,i43,F43.kp⟩
 have G44:=zii (P:=l.prog) (w:=w) (b8:=b8) B Z G43 G40 G38 F44 ⟨a44,i44,F44.kp⟩
 have G45:=ze1 (P:=l.prog) (w:=w) (b8:=b8) B Z G43 G33 F45 ⟨a45,i45,F45.kp⟩
 have G46:=zij (P:=l.prog) (w:=w) (b8:=b8) B Z G36 G45 F46 ⟨a46,i46,F46.kp⟩
 have G47:=zik (P:=l.prog) (w:=w) (b8:=b8) B Z  F47 ⟨a47,i47,F47.kp⟩
 have G48:=zhr (P:=l.prog) (w:=w) (b8:=b8) B Z G39 F48 ⟨a48,i48,F48.kp⟩
 have G49:=zhs (P:=l.prog) (w:=w) (b8:=b8) B Z G47 G48 F49 ⟨a49,i49,F49.kp⟩
 have G50:=zmj (P:=l.prog) (w:=w) (b8:=b8) B Z  F50 (mg_of X G a50)
 have G51:=zj3 (P:=l.prog) (w:=w) (b8:=b8) B Z G50 F51 (mg_of X G a51)
 have G52:=zil (P:=l.prog) (w:=w) (b8:=b8) B Z  F52 (mg_of X G a52)
 have G53:=zmk (P:=l.prog) (w:=w) (b8:=b8) B Z  F53 (mg_of X G a53)
 have G54:=zj4 (P:=l.prog) (w:=w) (b8:=b8) B Z  F54 (mg_of X G a54)
 have G55:=zlk (P:=l.prog) (w:=w) (b8:=b8) B Z  F55 (mg_of X G a55)
 have G56:=zll (P:=l.prog) (w:=w) (b8:=b8) B Z G54 G48 G55 G49 F56 (mg_of X G a56)
 have G57:=zj5 (P:=l.prog) (w:=w) (b8:=b8) B Z  F57 (mg_of X G a57)
 have G58:=ziX (P:=l.prog) (w:=w) (b8:=b8) B Z G53 G46 G57 F58 (mg_of X G a58)
 exact zpw B Z G37 G44 G50 G51 G42 G52 G3 G53 G56 G58 F59
end My

open PySem PySem.W PyProof.Rows
open My L2
set_option maxRecDepth 1000000 in
set_option maxHeartbeats 0 in
theorem PySem.Challenge.cw_swornhall_k14_reach_holds : PySem.Challenge.rw_swornhall_k14_reach.Holds := by
  refine PySem.Challenge.hd_swornhall_k14_reach fun d kwd hdef => ?_
  obtain ⟨rfl, rfl⟩ := Prod.mk.inj (Option.some.inj ((show defOf My.Qv PySem.Challenge.rw_swornhall_k14_reach.row.name = some (_, _) from rfl).symm.trans hdef))
  refine L2.walk_ofE (l := PySem.Challenge.rw_swornhall_k14_reach) (n := 63) (k := 10) (x := "script") (CX := L2.CX0) (sp := My.Q62) (S := fun K => ((My.zBoo K).all id, My.zSee K) = (true, My.zSig)) rfl (by decide) rfl ⟨rfl, by decide, by decide, rfl⟩ (fun w h Y => Y) ?F (fun _ _ a ns hl _ hS => ⟨a, ns, rfl, hS, hl, fun _ => rfl⟩) (fun _ _ _ _ z => z)
  intro w K mg fa h hA KX G hmg
  obtain⟨_,_,_,xa_HAND_SPOTS⟩:=L2.tup_of (bA hA 152 rfl)
  obtain⟨_,_,_,xa_LEFT_SPOTS⟩:=L2.tup_of (bA hA 154 rfl)
  obtain⟨_,_,_,xa_LEFT_AS_HANDS⟩:=L2.tup_of (bA hA 156 rfl)
  obtain⟨_,_,_,xa_WHOLES⟩:=L2.tup_of (bA hA 168 rfl)
  obtain⟨_,_,_,_,_,_,_,_,_,_,_,_,_,_,_,o1⟩:=L2.exc_of (bA hA 169 rfl)
  obtain⟨_,_,_,_,_,_,_,_,_,_,_,_,_,_,_,o2⟩:=L2.exc_of (bA hA 171 rfl)
  obtain⟨_,_,_,_,_,_,_,_,_,_,_,_,_,_,_,o3⟩:=L2.exc_of (bA hA 173 rfl)
  obtain⟨_,_,_,_,_,_,_,_,_,_,_,_,_,_,_,o4⟩:=L2.exc_of (bA hA 175 rfl)
  exact My.all_mk KX G hmg (eA hA 0 rfl) (eA hA 1 rfl) (eA hA 2 rfl) (eA hA 3 rfl) (eA hA 4 rfl) (eA hA 5 rfl) (eA hA 6 rfl) (fA hA 0 7 65 _ _ _ rfl rfl rfl) (eA hA 8 rfl) (fA hA 1 9 70 _ _ _ rfl rfl rfl) (eA hA 10 rfl) (bA hA 11 rfl) (fA hA 2 12 53 _ _ _ rfl rfl rfl) (eA hA 13 rfl) (fA hA 3 14 26 _ _ _ rfl rfl rfl) (eA hA 15 rfl) (fA hA 4 16 31 _ _ _ rfl rfl rfl) (eA hA 17 rfl) (fA hA 5 18 38 _ _ _ rfl rfl rfl) (eA hA 19 rfl) (fA hA 6 20 77 _ _ _ rfl rfl rfl) (eA hA 21 rfl) (fA hA 7 22 82 _ _ _ rfl rfl rfl) (eA hA 23 rfl) (fA hA 8 24 163 _ _ _ rfl rfl rfl) (eA hA 25 rfl) (fA hA 9 26 156 _ _ _ rfl rfl rfl) (eA hA 27 rfl) (fA hA 10 28 116 _ _ _ rfl rfl rfl) (eA hA 29 rfl) (fA hA 11 30 111 _ _ _ rfl rfl rfl) (eA hA 31 rfl) (fA hA 12 32 96 _ _ _ rfl rfl rfl) (eA hA 33 rfl) (fA hA 13 34 149 _ _ _ rfl rfl rfl) (eA hA 35 rfl) (fA hA 14 36 142 _ _ _ rfl rfl rfl) (eA hA 37 rfl) (fA hA 15 38 137 _ _ _ rfl rfl rfl) (eA hA 39 rfl) (fA hA 16 40 130 _ _ _ rfl rfl rfl) (eA hA 41 rfl) (fA hA 17 42 123 _ _ _ rfl rfl rfl) (eA hA 43 rfl) (fA hA 18 44 101 _ _ _ rfl rfl rfl) (eA hA 45 rfl) (fA hA 19 46 106 _ _ _ rfl rfl rfl) (eA hA 47 rfl) (fA hA 20 48 89 _ _ _ rfl rfl rfl) (eA hA 49 rfl) (fA hA 21 50 168 _ _ _ rfl rfl rfl) (eA hA 51 rfl) (fA hA 22 52 282 _ _ _ rfl rfl rfl) (eA hA 53 rfl) (fA hA 23 54 272 _ _ _ rfl rfl rfl) (eA hA 55 rfl) (fA hA 24 56 277 _ _ _ rfl rfl rfl) (eA hA 57 rfl) (fA hA 25 58 289 _ _ _ rfl rfl rfl) (eA hA 59 rfl) (fA hA 26 60 232 _ _ _ rfl rfl rfl) (eA hA 61 rfl) (fA hA 27 62 267 _ _ _ rfl rfl rfl) (eA hA 63 rfl) (fA hA 28 64 246 _ _ _ rfl rfl rfl) (eA hA 65 rfl) (fA hA 29 66 253 _ _ _ rfl rfl rfl) (eA hA 67 rfl) (fA hA 30 68 260 _ _ _ rfl rfl rfl) (eA hA 69 rfl) (fA hA 31 70 239 _ _ _ rfl rfl rfl) (eA hA 71 rfl) (fA hA 32 72 225 _ _ _ rfl rfl rfl) (eA hA 73 rfl) (fA hA 33 74 294 _ _ _ rfl rfl rfl) (eA hA 75 rfl) (fA hA 34 76 306 _ _ _ rfl rfl rfl) (eA hA 77 rfl) (fA hA 35 78 301 _ _ _ rfl rfl rfl) (eA hA 79 rfl) (bA hA 80 rfl) (fA hA 36 81 320 _ _ _ rfl rfl rfl) (eA hA 82 rfl) (bA hA 83 rfl) (fA hA 37 84 407 _ _ _ rfl rfl rfl) (eA hA 85 rfl) (bA hA 86 rfl) (fA hA 38 87 400 _ _ _ rfl rfl rfl) (eA hA 88 rfl) (bA hA 89 rfl) (fA hA 39 90 414 _ _ _ rfl rfl rfl) (eA hA 91 rfl) (fA hA 40 92 428 _ _ _ rfl rfl rfl) (eA hA 93 rfl) (bA hA 94 rfl) (fA hA 41 95 327 _ _ _ rfl rfl rfl) (eA hA 96 rfl) (bA hA 97 rfl) (fA hA 42 98 386 _ _ _ rfl rfl rfl) (eA hA 99 rfl) (bA hA 100 rfl) (fA hA 43 101 334 _ _ _ rfl rfl rfl) (eA hA 102 rfl) (bA hA 103 rfl) (fA hA 44 104 393 _ _ _ rfl rfl rfl) (eA hA 105 rfl) (bA hA 106 rfl) (fA hA 45 107 360 _ _ _ rfl rfl rfl) (eA hA 108 rfl) (bA hA 109 rfl) (fA hA 46 110 367 _ _ _ rfl rfl rfl) (eA hA 111 rfl) (bA hA 112 rfl) (fA hA 47 113 374 _ _ _ rfl rfl rfl) (eA hA 114 rfl) (bA hA 115 rfl) (fA hA 48 116 379 _ _ _ rfl rfl rfl) (eA hA 117 rfl) (fA hA 49 118 442 _ _ _ rfl rfl rfl) (eA hA 119 rfl) (fA hA 50 120 456 _ _ _ rfl rfl rfl) (eA hA 121 rfl) (fA hA 51 122 435 _ _ _ rfl rfl rfl) (eA hA 123 rfl) (fA hA 52 124 468 _ _ _ rfl rfl rfl) (eA hA 125 rfl) (fA hA 53 126 463 _ _ _ rfl rfl rfl) (eA hA 127 rfl) (fA hA 54 128 449 _ _ _ rfl rfl rfl) (eA hA 129 rfl) (fA hA 55 130 480 _ _ _ rfl rfl rfl) (eA hA 131 rfl) (fA hA 56 132 468 _ _ _ rfl rfl rfl) (eA hA 133 rfl) (fA hA 57 134 475 _ _ _ rfl rfl rfl) (eA hA 135 rfl) (fA hA 58 136 485 _ _ _ rfl rfl rfl) (eA hA 137 rfl) (eA hA 138 rfl) (eA hA 139 rfl) (eA hA 140 rfl) (eA hA 141 rfl) (eA hA 142 rfl) (eA hA 143 rfl) (eA hA 144 rfl) (eA hA 145 rfl) (eA hA 146 rfl) (eA hA 147 rfl) (eA hA 148 rfl) (eA hA 149 rfl) (eA hA 150 rfl) (eA hA 151 rfl) xa_HAND_SPOTS (eA hA 153 rfl) xa_LEFT_SPOTS (eA hA 155 rfl) xa_LEFT_AS_HANDS (eA hA 157 rfl) (eA hA 158 rfl) (eA hA 159 rfl) (eA hA 160 rfl) (eA hA 161 rfl) (eA hA 162 rfl) (eA hA 163 rfl) (eA hA 164 rfl) (eA hA 165 rfl) (eA hA 166 rfl) (eA hA 167 rfl) xa_WHOLES o1 (bA hA 170 rfl) o2 (bA hA 172 rfl) o3 (bA hA 174 rfl) o4 (bA hA 176 rfl) (bA hA 177 rfl) (bA hA 178 rfl) (bA hA 179 rfl) (eA hA 180 rfl) (bA hA 181 rfl) (bA hA 182 rfl) (eA hA 183 rfl) (eA hA 184 rfl) (eA hA 185 rfl) (eA hA 186 rfl) (bA hA 187 rfl) (bA hA 188 rfl) (bA hA 189 rfl) (eA hA 190 rfl) (bA hA 191 rfl) (bA hA 192 rfl) (eA hA 193 rfl) (eA hA 194 rfl)

