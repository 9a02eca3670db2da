import PyProof.Rows.All
import Wide.All
import Wide.FinOn
import OpenK.KLine
import OpenK.KMore
import OpenK.KDescr
import OpenK.KOwn
import OpenK.KCls
import KE.KIsAll
import KE.KRevIter
import KE.KDictList
import KE.KIsNot
import KE.KItem
import KE.KDictSum
import KE.KDictOf
import KE.KxBytes
import KE.KFromBytes
import Open.FastRun
import PySem.Challenge.RW_swornhall_k21_refusals_apart
set_option Elab.async false
set_option linter.all false
set_option compiler.extract_closed false
set_option maxHeartbeats 0
set_option maxRecDepth 100000
abbrev Fg:=PySem.W.Frag
variable {i:Nat}
theorem zgm{α: Type _}{β: Type _}{f: α -> β}{l: List α}: (l.map f)[i]? = l[i]?.map f := List.getElem?_map
theorem zlm {α : Type _}{β : Type _}{as : List α}(f : α -> β) : (as.map f).length = as.length := List.length_map f
theorem zme {α : Type _}{β : Type _}{f : α -> β}{o : Option α}{b : β} : o.map f = some b ↔ ∃ a, o = some a /\ f a = b := Option.map_eq_some_iff
theorem zmg{α: Type _}{l: List α}{a: α}(e : l[i]? = some a): a ∈ l := List.mem_of_getElem? e
theorem zms {α : Type _}{a b : α} : a ∈ [b] ↔ a = b := List.mem_singleton
theorem zst {α : Type _}{l : List α} : l.toArray.size = l.length := List.size_toArray
theorem zma {α : Type _}{a : α}{s t : List α} : a ∈ s ++ t ↔ a ∈ s \/ a ∈ t := List.mem_append
theorem zge{α: Type _}{l: List α}{a: α}: l[i]? = some a ↔ ∃ h : i < l.length, l[i] = a := List.getElem?_eq_some_iff
theorem zmc {α : Type _}{β : Type _}{f : α -> β}{a : α}{l : List α} : (a :: l).map f = f a :: l.map f := List.map_cons
theorem zmm {α : Type _}{β : Type _}{f : α -> β}{l : List α}{b : β} : b ∈ l.map f ↔ ∃ a, a ∈ l /\ f a = b := List.mem_map
namespace L2
open PySem PySem.Spec PySem.Calls PyProof.Rows PySem.W
abbrev zaR:List Value:=[.type "ValueError",.type "Exception",.type "BaseException",.type "object"]
def zaU (s:Stmt)(j:Nat):Stmt:=match s with
 | .ClassDef _ _ _ body _ _ _ _ _ _ _=>body.getD j (.Pass ⟨0,0,0,0⟩)
 | _=>.Pass ⟨0,0,0,0⟩
def zdy (s:Stmt):Arguments:=match s with
 | .FunctionDef _ a _ _ _ _ _ _ _ _=>a
 | _=>{posonlyargs:=[],args:=[],vararg:=none,kwonlyargs:=[],kw_defaults:=[],kwarg:=none,defaults:=[]}
def zb4 (s:Stmt):List Stmt:=match s with
 | .FunctionDef _ _ b _ _ _ _ _ _ _=>b
 | _=>[]
def zaf (s:Stmt):Scope:=match s with
 | .FunctionDef _ _ _ _ _ _ sc _ _ _=>sc
 | _=>{kind:=.function,names:=[],isGenerator:=false,isCoroutine:=false}
def Kof (as:List Addr)(h:Heap):Fg:=as.filterMap λa=>(h.get? a).map λo=>(a,o)
theorem zoK (h:Heap):∀ as:List Addr,(Kof as h).In h
 | []=>λa o e=>by cases e
 | b::as=>λa o e=>by
  have ih:=zoK h as
  unfold Kof at e
  rw[List.filterMap_cons] at e
  cases hb:h.get? b with
  | none=>rw[hb] at e;exact ih a o e
  | some ob=>
   rw[hb] at e
   simp only[Option.map_some] at e
   rw[List.lookup_cons] at e
   by_cases z:(a == b)=true
   ·rw[z] at e
    cases e
    rw[eq_of_beq z];exact hb
   ·rw[Bool.not_eq_true] at z
    rw[z] at e
    exact ih a o e
abbrev Sig:=Str × Str × Arguments × FuncBody × Scope × Addr × List (Str × Addr) × Value × Addr
def zpc (name qual:Str)(params:Arguments)(body:List Stmt)(scope:Scope):Sig:=(name,qual,params,.stmts body,scope,mainGlobals,[],.none,builtinsNs)
def zaH (K:Fg)(a:Addr):Option Sig:=match K.lookup a with
 | some ⟨_,_,.func f,_⟩=>some (f.name,f.qualname,f.params,f.body,f.scope,f.globals,f.closure,f.defaults,f.builtins)
 | _=>none
def zal (K:Fg)(a:Addr)(q:Str):Bool:=match K.lookup a with
 | some ⟨_,_,.func f,_⟩=>codeIn K f.code q && keepIn K (.ref a)
 | _=>false
def zf2 (K:Fg)(C:Addr)(bm:List Value)(newId:String):Bool:=match K.lookup C with
 | some ⟨cl,_,.cls c,sl⟩=>cl == .type "type" && c.mro == .ref C::bm && !c.hasDel && (match sl.toList with
  | [_,_,_,_,some v,_]=>v == .builtin newId
  | _=>false)
 | _=>false
def zhQ (K:Fg)(a:Addr)(vs:List Value):Bool:=match K.lookup a with
 | some ⟨cl,_,.seq xs _,_⟩=>cl == .type "tuple" && xs.toList == vs
 | _=>false
def eHook {β:Type}(as:List Addr)(see:Fg->β)(due:β):Hook:=
 ⟨β,λs=>see (Kof as s.heap),λ_=>due,λ_ h=>∃ K:Fg,K.In h/\see K=due,λ_ s e=>⟨_,zoK _ _,e⟩,λ_ _ _ ⟨K,x,e⟩ k=>⟨K,x.keeps k,e⟩⟩
end L2
namespace PySem.W.Fast
def tw16060840307866941349:=0
def tw223247210110448976:=0
def tw14842009244261995702:=0
def tw15183653964473060200:=0
def tw18074614859652139159:=0
def tw17807295472102109400:=0
def tw2754152945991020041:=0
def tw17935041016666756904:=0
def tw14062403771830084206:=0
def tw4706819536664284700:=0
def tw14008206056208164241:=0
def tw5709213500425076279:=0
def tw15973206108290979862:=0
def tw13178832899111560578:=0
def tw1374809917478469207:=0
def tw14482651795672426695:=0
def tw16059175977071946576:=0
def tw10189714851057097097:=0
def tw950364315886517644:=0
def tw5864006401950016324:=0
def tw11005972740370947515:=0
def tw10352156562876082892:=0
def tw17128681581259198777:=0
def tw1031358704201277654:=0
def tw12947189612364120706:=0
def tw5025412065520492896:=0
def tw451954154529737775:=0
def tw14688823809928390674:=0
def tw2619345289147007211:=0
def tw4557451158805891816:=0
def tw15144015268519983437:=0
def tw3161609688578465986:=0
def tw13142961833111553010:=0
def tw12014059842149551039:=0
def tw6861808934818840450:=0
def tw2908114537691344523:=0
def tw14812479578643340063:=0
def tw282984023959242216:=0
def tw16090065518022591600:=0
def tw3748999267920110134:=0
def tw11027451853168240822:=0
def tw8318065926718102376:=0
def tw3337345800337084490:=0
def tw7225070965881317719:=0
def tw9667525153372002720:=0
def tw6333535980197796413:=0
def tw5038823930554645001:=0
def tw16718615607379599127:=0
def tw15006559433743348977:=0
def tw14611099531438905723:=0
def tw15928888528813392904:=0
def tw5456052009567073234:=0
def tw18427951495157273034:=0
def tw10255063319037554359:=0
def tw8398475441067464431:=0
def tw7515029330496299858:=0
def tw1516207676077166569:=0
def tw4703279013948813110:=0
def tw6262791087940229423:=0
def tw8045404785644203845:=0
def tw14237672820922130503:=0
def tw5496999633696064956:=0
def tw982582944724292414:=0
def tw13635749711083705959:=0
def tw15392495988140701954:=0
def tw7209776790338117132:=0
def tw7845394819946980623:=0
def tw9129571055374533390:=0
def tw7155186981107871368:=0
def tw15022842587274466440:=0
def tw7604595910938592612:=0
def tw13657227747577511220:=0
def tw16506202174289016110:=0
def tw159031762632178392:=0
def tw658046469513046847:=0
def tw1317316465959101391:=0
def tw12704234709308406963:=0
def tw417568213767435082:=0
def tw7571082180875417673:=0
def tw9472828436441012930:=0
def tw8734428869353733656:=0
def tw1094572267346031431:=0
def tw16225298908217412166:=0
def tw2017583569983263043:=0
def tw18106693425407436266:=0
def tw3325626784051080632:=0
def tw6022529178077825950:=0
def tw386693230270410644:=0
def tw13665629211175207911:=0
def tw1870898188935121634:=0
def tw5965805344701044470:=0
def tw9110394186510428900:=0
def tw17634150540665133416:=0
def tw3515942243687106943:=0
def tw17244471227573991616:=0
def tw3374804744262688212:=0
def tw12868419085317106769:=0
def tw15869526277208173390:=0
def tw8349585821013879291:=0
def tw8521989481450959304:=0
def tw4170834642920943460:=0
def tw12574471642100359924:=0
def tw10819714273472909549:=0
def tw10748201667451018471:=0
def tw14946948205114515976:=0
def tw17844046498804372208:=0
def tw9382428103285895628:=0
def tw3687117299518228077:=0
def tw5806764107157878424:=0
def tw4132506296735804960:=0
def tw4118943098980347558:=0
def tw5964031998131579550:=0
def tw14691488836496591556:=0
def tw15579084433516753587:=0
def tw2847443431880464288:=0
end PySem.W.Fast
namespace My
open PySem L2 PyProof.Rows
def top (i:Nat):Stmt:=PySem.Challenge.pw_swornhall_k21_refusals_apart.main.body.getD i (.Pass ⟨0,0,0,0⟩)
abbrev zie:Stmt:=top 4
abbrev zif:Stmt:=top 5
abbrev ziT:Stmt:=top 6
abbrev zfc:Stmt:=top 7
abbrev zgj:Stmt:=top 8
abbrev zbo:Stmt:=zaU (top 19) 0
abbrev zbT:Stmt:=top 20
abbrev zb5:Stmt:=top 21
abbrev zcw:Stmt:=top 22
abbrev zcZ:Stmt:=top 23
abbrev zig:Stmt:=top 24
abbrev zdg:Stmt:=top 25
abbrev zb6:Stmt:=top 26
abbrev zb7:Stmt:=top 27
abbrev zb8:Stmt:=top 28
abbrev zb3:Stmt:=top 29
abbrev zdh:Stmt:=top 30
abbrev zcN:Stmt:=top 31
abbrev zdi:Stmt:=top 32
abbrev zbs:Stmt:=top 33
abbrev zdj:Stmt:=top 34
abbrev zcx:Stmt:=top 35
abbrev zfd:Stmt:=top 36
abbrev zeA:Stmt:=top 37
abbrev zgk:Stmt:=top 51
abbrev zcy:Stmt:=top 52
abbrev zcO:Stmt:=top 53
abbrev zcP:Stmt:=top 54
abbrev zcQ:Stmt:=top 55
abbrev zcR:Stmt:=top 56
abbrev zcS:Stmt:=top 57
abbrev zc0:Stmt:=top 58
abbrev zcD:Stmt:=top 59
abbrev zcE:Stmt:=top 60
abbrev zeB:Stmt:=top 61
abbrev zei:Stmt:=top 62
abbrev zgl:Stmt:=top 63
abbrev za7:Stmt:=top 64
abbrev zb9:Stmt:=zaU (top 66) 0
abbrev zeC:Stmt:=zaU (top 66) 1
abbrev zca:Stmt:=zaU (top 66) 3
abbrev zcT:Stmt:=zaU (top 66) 4
abbrev zdk:Stmt:=zaU (top 66) 5
abbrev zcr:Stmt:=zaU (top 66) 6
abbrev zdS:Stmt:=zaU (top 66) 7
abbrev zbH:Stmt:=zaU (top 66) 10
abbrev zbX:Stmt:=zaU (top 66) 11
abbrev zbY:Stmt:=zaU (top 66) 12
abbrev zcz:Stmt:=zaU (top 66) 13
abbrev zbm:Stmt:=zaU (top 66) 14
abbrev zdT:Stmt:=top 67
abbrev zc1:Stmt:=top 68
abbrev zbZ:Stmt:=zaU (top 71) 0
abbrev zcb:Stmt:=zaU (top 71) 1
abbrev zcA:Stmt:=zaU (top 72) 0
abbrev zgn:Stmt:=zaU (top 72) 1
abbrev zeD:Stmt:=zaU (top 72) 4
abbrev zfe:Stmt:=zaU (top 72) 5
abbrev zeE:Stmt:=zaU (top 72) 6
abbrev zeF:Stmt:=zaU (top 72) 7
abbrev zeG:Stmt:=zaU (top 72) 8
abbrev zdU:Stmt:=zaU (top 72) 9
abbrev zcU:Stmt:=zaU (top 72) 10
abbrev za1:Stmt:=zaU (top 72) 11
abbrev zb0:Stmt:=zaU (top 72) 12
abbrev zdV:Stmt:=zaU (top 72) 13
abbrev zeH:Stmt:=zaU (top 72) 14
abbrev zcB:Stmt:=zaU (top 72) 15
abbrev zdW:Stmt:=zaU (top 72) 16
abbrev zcV:Stmt:=top 73
abbrev zcc:Stmt:=top 74
abbrev zdX:Stmt:=top 76
abbrev zff:Stmt:=top 78
abbrev zih:Stmt:=top 79
abbrev ziU:Stmt:=top 80
section
open PySem PySem.Spec PySem.Calls PyProof.Rows PySem.W L2
def zqp (p:Program)(ks:List Nat):Program:={p with main:={p.main with body:=ks.filterMap λi=>p.main.body[i]?}}
def Qv:Program:=zqp PySem.Challenge.rw_swornhall_k21_refusals_apart.row.toRowW.prog [0,2,3,4,5,6,7,8,10,11,12,13,14,15,16,17,18,19,20,21,22,23,24,25,26,27,28,29,30,31,32,33,34,35,36,37,39,40,41,42,43,44,46,47,48,49,50,51,52,53,54,55,56,57,58,59,60,61,62,63,64,66,67,68,70,71,72,73,74,76,77,78,79,80]
abbrev nI (K:Fg)(s:Str)(n:Addr):Bool:=PySem.W.nsIn K mainGlobals s == some (some (.ref n))
abbrev fI (K:Fg)(c:Addr)(s:Str)(n:Addr):Bool:=PySem.W.findIn K (.ref c) s == some (some (.ref n))
abbrev gS (n q:Str)(d:Stmt):Option L2.Sig:=some (L2.zpc n q (zdy d) (zb4 d) (zaf d))
def zBo1 (K:Fg):List Bool:=[nI K "Craft" 70,
 nI K "HallError" 192,
 nI K "BadSheet" 205,
 nI K "NoCraft" 217,
 nI K "Unmet" 229,
 nI K "NotShown" 241,
 nI K "Unfit" 253,
 nI K "Hall" 457,
 nI K "Frame" 497,
 nI K "Run" 630,
 nI K "copied_lines" 79,
 L2.zal K 79 "copied_lines",
 nI K "copied_deed" 84,
 L2.zal K 84 "copied_deed",
 fI K 70 "__init__" 67,
 PySem.W.isFn K (.ref 67),
 L2.zal K 67 "Craft.__init__",
 nI K "worth" 28,
 L2.zal K 28 "worth",
 nI K "holds" 35,
 L2.zal K 35 "holds",
 nI K "bare" 40,
 L2.zal K 40 "bare",
 nI K "summed" 45,
 L2.zal K 45 "summed",
 nI K "turned" 52,
 L2.zal K 52 "turned",
 nI K "copied_craft" 91,
 L2.zal K 91 "copied_craft",
 nI K "called_by" 96,
 L2.zal K 96 "called_by",
 nI K "between" 177,
 L2.zal K 177 "between",
 nI K "small_enough" 170,
 L2.zal K 170 "small_enough",
 nI K "line_right" 130,
 L2.zal K 130 "line_right",
 nI K "lines_right" 125,
 L2.zal K 125 "lines_right",
 nI K "oath_right" 110,
 L2.zal K 110 "oath_right",
 nI K "hand_right" 163,
 L2.zal K 163 "hand_right",
 nI K "two_hands_right" 156,
 L2.zal K 156 "two_hands_right",
 nI K "call_right" 151,
 L2.zal K 151 "call_right",
 nI K "range_right" 144,
 L2.zal K 144 "range_right",
 nI K "deed_right" 137,
 L2.zal K 137 "deed_right",
 nI K "deeds_right" 115,
 L2.zal K 115 "deeds_right",
 nI K "notes_right" 120,
 L2.zal K 120 "notes_right",
 nI K "right" 103,
 L2.zal K 103 "right",
 nI K "due_at" 182,
 L2.zal K 182 "due_at",
 nI K "eight_with" 320,
 L2.zal K 320 "eight_with",
 nI K "each_from" 310,
 L2.zal K 310 "each_from",
 nI K "all_turned" 315,
 L2.zal K 315 "all_turned",
 nI K "constant" 327,
 L2.zal K 327 "constant",
 nI K "first_duties" 270,
 L2.zal K 270 "first_duties",
 nI K "call_duties" 305,
 L2.zal K 305 "call_duties",
 nI K "part_duties" 284,
 L2.zal K 284 "part_duties",
 nI K "draw_duties" 291,
 L2.zal K 291 "draw_duties",
 nI K "turn_duties" 298,
 L2.zal K 298 "turn_duties",
 nI K "deed_duties" 277,
 L2.zal K 277 "deed_duties",
 nI K "duties" 263,
 L2.zal K 263 "duties",
 nI K "shows" 332,
 L2.zal K 332 "shows",
 nI K "noughts_and_ones" 344,
 L2.zal K 344 "noughts_and_ones",
 nI K "sought" 339,
 L2.zal K 339 "sought",
 fI K 457 "__init__" 358,
 PySem.W.isFn K (.ref 358),
 L2.zal K 358 "Hall.__init__",
 fI K 457 "release" 447,
 PySem.W.isFn K (.ref 447),
 L2.zal K 447 "Hall.release",
 fI K 457 "called_at" 440,
 PySem.W.isFn K (.ref 440),
 L2.zal K 440 "Hall.called_at",
 fI K 457 "release_callers" 454,
 PySem.W.isFn K (.ref 454),
 L2.zal K 454 "Hall.release_callers",
 nI K "same_oath" 468,
 L2.zal K 468 "same_oath",
 fI K 457 "lay" 365,
 PySem.W.isFn K (.ref 365),
 L2.zal K 365 "Hall.lay",
 fI K 457 "standing" 379,
 PySem.W.isFn K (.ref 379),
 L2.zal K 379 "Hall.standing",
 fI K 457 "crafts" 386,
 PySem.W.isFn K (.ref 386),
 L2.zal K 386 "Hall.crafts",
 nI K "all_shown" 473,
 L2.zal K 473 "all_shown",
 fI K 457 "must_stand" 426,
 PySem.W.isFn K (.ref 426),
 L2.zal K 426 "Hall.must_stand",
 fI K 457 "duties_at" 433,
 PySem.W.isFn K (.ref 433),
 L2.zal K 433 "Hall.duties_at",
 fI K 457 "vouch" 393,
 PySem.W.isFn K (.ref 393),
 L2.zal K 393 "Hall.vouch",
 fI K 457 "seek" 398,
 PySem.W.isFn K (.ref 398),
 L2.zal K 398 "Hall.seek",
 fI K 457 "held" 405,
 PySem.W.isFn K (.ref 405),
 L2.zal K 405 "Hall.held",
 fI K 497 "__init__" 487,
 PySem.W.isFn K (.ref 487),
 L2.zal K 487 "Frame.__init__",
 fI K 497 "numbers" 494,
 PySem.W.isFn K (.ref 494),
 L2.zal K 494 "Frame.numbers",
 fI K 630 "craft_of" 620,
 PySem.W.isFn K (.ref 620),
 L2.zal K 620 "Run.craft_of",
 fI K 630 "is_behind_last_deed" 592,
 PySem.W.isFn K (.ref 592),
 L2.zal K 592 "Run.is_behind_last_deed",
 nI K "first_unmet" 641,
 L2.zal K 641 "first_unmet",
 fI K 630 "meets" 627,
 PySem.W.isFn K (.ref 627),
 L2.zal K 627 "Run.meets",
 fI K 630 "take" 613,
 PySem.W.isFn K (.ref 613),
 L2.zal K 613 "Run.take",
 fI K 630 "leave" 606,
 PySem.W.isFn K (.ref 606),
 L2.zal K 606 "Run.leave",
 fI K 630 "meet_notes" 599,
 PySem.W.isFn K (.ref 599),
 L2.zal K 599 "Run.meet_notes"]
def zBo2 (K:Fg):List Bool:=[fI K 630 "come_to" 585,
 PySem.W.isFn K (.ref 585),
 L2.zal K 585 "Run.come_to",
 fI K 630 "begin" 578,
 PySem.W.isFn K (.ref 578),
 L2.zal K 578 "Run.begin",
 nI K "asked_numbers" 648,
 L2.zal K 648 "asked_numbers",
 fI K 630 "__init__" 515,
 PySem.W.isFn K (.ref 515),
 L2.zal K 515 "Run.__init__",
 fI K 630 "put" 550,
 PySem.W.isFn K (.ref 550),
 L2.zal K 550 "Run.put",
 fI K 630 "draw" 557,
 PySem.W.isFn K (.ref 557),
 L2.zal K 557 "Run.draw",
 fI K 630 "hold" 564,
 PySem.W.isFn K (.ref 564),
 L2.zal K 564 "Run.hold",
 fI K 630 "call" 571,
 PySem.W.isFn K (.ref 571),
 L2.zal K 571 "Run.call",
 fI K 630 "step" 543,
 PySem.W.isFn K (.ref 543),
 L2.zal K 543 "Run.step",
 fI K 630 "go" 522,
 PySem.W.isFn K (.ref 522),
 L2.zal K 522 "Run.go",
 nI K "_law_cell_at" 655,
 L2.zal K 655 "_law_cell_at",
 nI K "_law_which" 669,
 L2.zal K 669 "_law_which",
 nI K "_law_met" 676,
 L2.zal K 676 "_law_met",
 nI K "law" 683,
 L2.zal K 683 "law",
 PySem.W.nsIn K mainGlobals "ValueError"== some none,
 PySem.W.nsIn K mainGlobals "all"== some none,
 PySem.W.nsIn K mainGlobals "any"== some none,
 PySem.W.nsIn K mainGlobals "enumerate"== some none,
 PySem.W.nsIn K mainGlobals "isinstance"== some none,
 PySem.W.nsIn K mainGlobals "len"== some none,
 PySem.W.nsIn K mainGlobals "list"== some none,
 PySem.W.nsIn K mainGlobals "min"== some none,
 PySem.W.nsIn K mainGlobals "range"== some none,
 PySem.W.nsIn K mainGlobals "sorted"== some none,
 PySem.W.nsIn K mainGlobals "tuple"== some none,
 PySem.W.nsIn K mainGlobals "zip"== some none,
 PySem.W.nsIn K mainGlobals "NUMBERS"== some (some (.int 9 196)),
 PySem.W.nsIn K mainGlobals "FACTORS"== some (some (.int 8 198)),
 nI K "HAND_SPOTS" 53,
 L2.zhQ K 53 [(.int 1 242),(.int 2 243),(.int 3 244),(.int 4 245)],
 nI K "LEFT_SPOTS" 54,
 L2.zhQ K 54 [(.int 7 247),(.int 8 248)],
 nI K "LEFT_AS_HANDS" 55,
 L2.zhQ K 55 [(.int 0 250),(.int 1 251),(.int 2 252),(.int 3 253),(.int 4 254),(.int 5 255),(.int 0 256),(.int 1 257)],
 PySem.W.nsIn K mainGlobals "MOST_LINES"== some (some (.int 2 259)),
 PySem.W.nsIn K mainGlobals "MOST_DEEDS"== some (some (.int 8 261)),
 PySem.W.nsIn K mainGlobals "LAST_HAND"== some (some (.int 3 263)),
 PySem.W.nsIn K mainGlobals "LAST_NUMBER"== some (some (.int 99 265)),
 PySem.W.nsIn K mainGlobals "GREATEST_BY"== some (some (.int 1000 267)),
 PySem.W.nsIn K mainGlobals "GREATEST"== some (some (.int 1000000000 269)),
 PySem.W.nsIn K mainGlobals "ASKED_0"== some (some (.int 4 529)),
 PySem.W.nsIn K mainGlobals "ASKED_1"== some (some (.int 5 531)),
 PySem.W.nsIn K mainGlobals "NEW_0"== some (some (.int 6 533)),
 PySem.W.nsIn K mainGlobals "NEW_1"== some (some (.int 7 535)),
 nI K "WHOLES" 256,
 L2.zhQ K 256 [(.int 1 537),(.int 2 538),(.int 3 539),(.int 4 540)],
 PySem.W.nsIn K mainGlobals "MOST_FRAMES"== some (some (.int 20 831)),
 L2.zf2 K 192 zaR "ValueError.__new__",
 PySem.W.excIn K 192 zaR "ValueError.__new__",
 PySem.W.findIn K (.ref 192) "__getattribute__"== some (some (.builtin "BaseException.__getattribute__")),
 PySem.W.findIn K (.ref 192) "__getattr__"== some none,
 PySem.W.findIn K (.ref 192) "__class__"== some (some (.builtin "object.__class__")),
 PySem.W.mroIn K 192 (.type "object") == some true,
 PySem.W.mroIn K 192 (.type "BaseException") == some true,
 L2.zf2 K 205 (.ref 192::zaR) "ValueError.__new__",
 PySem.W.excIn K 205 zaR "ValueError.__new__",
 PySem.W.findIn K (.ref 205) "__getattribute__"== some (some (.builtin "BaseException.__getattribute__")),
 PySem.W.findIn K (.ref 205) "__getattr__"== some none,
 PySem.W.findIn K (.ref 205) "__class__"== some (some (.builtin "object.__class__")),
 PySem.W.mroIn K 205 (.type "object") == some true,
 PySem.W.mroIn K 205 (.type "BaseException") == some true,
 L2.zf2 K 217 (.ref 192::zaR) "ValueError.__new__",
 PySem.W.excIn K 217 zaR "ValueError.__new__",
 PySem.W.findIn K (.ref 217) "__getattribute__"== some (some (.builtin "BaseException.__getattribute__")),
 PySem.W.findIn K (.ref 217) "__getattr__"== some none,
 PySem.W.findIn K (.ref 217) "__class__"== some (some (.builtin "object.__class__")),
 PySem.W.mroIn K 217 (.type "object") == some true,
 PySem.W.mroIn K 217 (.type "BaseException") == some true,
 L2.zf2 K 229 (.ref 192::zaR) "ValueError.__new__",
 PySem.W.excIn K 229 zaR "ValueError.__new__",
 PySem.W.findIn K (.ref 229) "__getattribute__"== some (some (.builtin "BaseException.__getattribute__")),
 PySem.W.findIn K (.ref 229) "__getattr__"== some none,
 PySem.W.findIn K (.ref 229) "__class__"== some (some (.builtin "object.__class__")),
 PySem.W.mroIn K 229 (.type "object") == some true,
 PySem.W.mroIn K 229 (.type "BaseException") == some true,
 L2.zf2 K 241 (.ref 192::zaR) "ValueError.__new__",
 PySem.W.excIn K 241 zaR "ValueError.__new__",
 PySem.W.findIn K (.ref 241) "__getattribute__"== some (some (.builtin "BaseException.__getattribute__")),
 PySem.W.findIn K (.ref 241) "__getattr__"== some none,
 PySem.W.findIn K (.ref 241) "__class__"== some (some (.builtin "object.__class__")),
 PySem.W.mroIn K 241 (.type "object") == some true,
 PySem.W.mroIn K 241 (.type "BaseException") == some true,
 L2.zf2 K 253 (.ref 192::zaR) "ValueError.__new__",
 PySem.W.excIn K 253 zaR "ValueError.__new__",
 PySem.W.findIn K (.ref 253) "__getattribute__"== some (some (.builtin "BaseException.__getattribute__")),
 PySem.W.findIn K (.ref 253) "__getattr__"== some none,
 PySem.W.findIn K (.ref 253) "__class__"== some (some (.builtin "object.__class__")),
 PySem.W.mroIn K 253 (.type "object") == some true,
 PySem.W.mroIn K 253 (.type "BaseException") == some true,
 PySem.W.plainGet K 70 Str.empty,
 PySem.W.hasDictIn K 70,
 PySem.W.plainOver K 70,
 PySem.W.findIn K (.ref 70) "__setattr__"== some (some (.builtin "object.__setattr__")),
 PySem.W.makesIn K 70,
 PySem.W.keepIn K (.ref 70),
 PySem.W.findIn K (.ref 70) "needs"== some none,
 PySem.W.findIn K (.ref 70) "leaves"== some none,
 PySem.W.findIn K (.ref 70) "deeds"== some none,
 PySem.W.findIn K (.ref 70) "notes"== some none,
 PySem.W.plainGet K 457 Str.empty,
 PySem.W.hasDictIn K 457,
 PySem.W.plainOver K 457,
 PySem.W.findIn K (.ref 457) "__setattr__"== some (some (.builtin "object.__setattr__")),
 PySem.W.makesIn K 457,
 PySem.W.keepIn K (.ref 457),
 PySem.W.findIn K (.ref 457) "laid"== some none,
 PySem.W.findIn K (.ref 457) "vouched"== some none,
 PySem.W.plainGet K 497 Str.empty,
 PySem.W.hasDictIn K 497,
 PySem.W.plainOver K 497,
 PySem.W.findIn K (.ref 497) "__setattr__"== some (some (.builtin "object.__setattr__")),
 PySem.W.makesIn K 497,
 PySem.W.keepIn K (.ref 497),
 PySem.W.findIn K (.ref 497) "number"== some none,
 PySem.W.findIn K (.ref 497) "place"== some none,
 PySem.W.findIn K (.ref 497) "hands"== some none,
 PySem.W.findIn K (.ref 497) "asked"== some none,
 PySem.W.plainGet K 630 Str.empty,
 PySem.W.hasDictIn K 630,
 PySem.W.plainOver K 630,
 PySem.W.findIn K (.ref 630) "__setattr__"== some (some (.builtin "object.__setattr__")),
 PySem.W.makesIn K 630,
 PySem.W.keepIn K (.ref 630),
 PySem.W.findIn K (.ref 630) "known"== some none,
 PySem.W.findIn K (.ref 630) "inputs_left"== some none,
 PySem.W.findIn K (.ref 630) "stack"== some none,
 PySem.W.findIn K (.ref 630) "steps_done"== some none,
 PySem.W.findIn K (.ref 630) "ending"== some none,
 PySem.W.specialIn K (.builtin "object.__class__") "__get__"== some (some (.builtin "getset_descriptor.__get__")),
 PySem.W.takesIn K (.builtin "object.__class__") == some true]
def zBoo (K:Fg):List Bool:=zBo1 K++zBo2 K
def zSee (K:Fg):List (Option L2.Sig):=[L2.zaH K 79,L2.zaH K 84,L2.zaH K 67,L2.zaH K 28,L2.zaH K 35,L2.zaH K 40,L2.zaH K 45,L2.zaH K 52,L2.zaH K 91,L2.zaH K 96,L2.zaH K 177,L2.zaH K 170,L2.zaH K 130,L2.zaH K 125,L2.zaH K 110,L2.zaH K 163,L2.zaH K 156,L2.zaH K 151,L2.zaH K 144,L2.zaH K 137,L2.zaH K 115,L2.zaH K 120,L2.zaH K 103,L2.zaH K 182,L2.zaH K 320,L2.zaH K 310,L2.zaH K 315,L2.zaH K 327,L2.zaH K 270,L2.zaH K 305,L2.zaH K 284,L2.zaH K 291,L2.zaH K 298,L2.zaH K 277,L2.zaH K 263,L2.zaH K 332,L2.zaH K 344,L2.zaH K 339,L2.zaH K 358,L2.zaH K 447,L2.zaH K 440,L2.zaH K 454,L2.zaH K 468,L2.zaH K 365,L2.zaH K 379,L2.zaH K 386,L2.zaH K 473,L2.zaH K 426,L2.zaH K 433,L2.zaH K 393,L2.zaH K 398,L2.zaH K 405,L2.zaH K 487,L2.zaH K 494,L2.zaH K 620,L2.zaH K 592,L2.zaH K 641,L2.zaH K 627,L2.zaH K 613,L2.zaH K 606,L2.zaH K 599,L2.zaH K 585,L2.zaH K 578,L2.zaH K 648,L2.zaH K 515,L2.zaH K 550,L2.zaH K 557,L2.zaH K 564,L2.zaH K 571,L2.zaH K 543,L2.zaH K 522,L2.zaH K 655,L2.zaH K 669,L2.zaH K 676,L2.zaH K 683]
def zSig:List (Option L2.Sig):=[gS "copied_lines" "copied_lines" zbT,
 gS "copied_deed" "copied_deed" zb5,
 gS "__init__" "Craft.__init__" zbo,
 gS "worth" "worth" zie,
 gS "holds" "holds" zif,
 gS "bare" "bare" ziT,
 gS "summed" "summed" zfc,
 gS "turned" "turned" zgj,
 gS "copied_craft" "copied_craft" zcw,
 gS "called_by" "called_by" zcZ,
 gS "between" "between" zfd,
 gS "small_enough" "small_enough" zcx,
 gS "line_right" "line_right" zb3,
 gS "lines_right" "lines_right" zb8,
 gS "oath_right" "oath_right" zdg,
 gS "hand_right" "hand_right" zdj,
 gS "two_hands_right" "two_hands_right" zbs,
 gS "call_right" "call_right" zdi,
 gS "range_right" "range_right" zcN,
 gS "deed_right" "deed_right" zdh,
 gS "deeds_right" "deeds_right" zb6,
 gS "notes_right" "notes_right" zb7,
 gS "right" "right" zig,
 gS "due_at" "due_at" zeA,
 gS "eight_with" "eight_with" zcE,
 gS "each_from" "each_from" zc0,
 gS "all_turned" "all_turned" zcD,
 gS "constant" "constant" zeB,
 gS "first_duties" "first_duties" zcy,
 gS "call_duties" "call_duties" zcS,
 gS "part_duties" "part_duties" zcP,
 gS "draw_duties" "draw_duties" zcQ,
 gS "turn_duties" "turn_duties" zcR,
 gS "deed_duties" "deed_duties" zcO,
 gS "duties" "duties" zgk,
 gS "shows" "shows" zei,
 gS "noughts_and_ones" "noughts_and_ones" za7,
 gS "sought" "sought" zgl,
 gS "__init__" "Hall.__init__" zb9,
 gS "release" "Hall.release" zcz,
 gS "called_at" "Hall.called_at" zbY,
 gS "release_callers" "Hall.release_callers" zbm,
 gS "same_oath" "same_oath" zdT,
 gS "lay" "Hall.lay" zeC,
 gS "standing" "Hall.standing" zca,
 gS "crafts" "Hall.crafts" zcT,
 gS "all_shown" "all_shown" zc1,
 gS "must_stand" "Hall.must_stand" zbH,
 gS "duties_at" "Hall.duties_at" zbX,
 gS "vouch" "Hall.vouch" zdk,
 gS "seek" "Hall.seek" zcr,
 gS "held" "Hall.held" zdS,
 gS "__init__" "Frame.__init__" zbZ,
 gS "numbers" "Frame.numbers" zcb,
 gS "craft_of" "Run.craft_of" zcB,
 gS "is_behind_last_deed" "Run.is_behind_last_deed" za1,
 gS "first_unmet" "first_unmet" zcV,
 gS "meets" "Run.meets" zdW,
 gS "take" "Run.take" zeH,
 gS "leave" "Run.leave" zdV,
 gS "meet_notes" "Run.meet_notes" zb0,
 gS "come_to" "Run.come_to" zcU,
 gS "begin" "Run.begin" zdU,
 gS "asked_numbers" "asked_numbers" zcc,
 gS "__init__" "Run.__init__" zcA,
 gS "put" "Run.put" zfe,
 gS "draw" "Run.draw" zeE,
 gS "hold" "Run.hold" zeF,
 gS "call" "Run.call" zeG,
 gS "step" "Run.step" zeD,
 gS "go" "Run.go" zgn,
 gS "_law_cell_at" "_law_cell_at" zdX,
 gS "_law_which" "_law_which" zff,
 gS "_law_met" "_law_met" zih,
 gS "law" "law" ziU]
def HK:PySem.W.Hook:=L2.eHook (List.range 684) (λK=>((zBoo K).all id,zSee K)) (true,zSig)
set_option maxRecDepth 1000000 in
set_option maxHeartbeats 0 in
theorem said0:OpenLaw.wellSaid PySem.Challenge.rw_swornhall_k21_refusals_apart=true:=by
 rw[PySem.W.Fast.te9446332074065402090]
 kernel_rfl
set_option maxRecDepth 1000000 in
set_option maxHeartbeats 0 in
theorem _root_.PySem.Challenge.hd_swornhall_k21_refusals_apart (q:∀ (d:DefRec) (kwd:List (Str × PySem.Expr)),defOf My.Qv PySem.Challenge.rw_swornhall_k21_refusals_apart.row.name=some (d,kwd)->WalkO My.Qv [] (XL My.Qv []) (Hook.says My.HK) PySem.Challenge.rw_swornhall_k21_refusals_apart.row.toRowW d kwd λf vs=>PySem.call f vs):PySem.Challenge.rw_swornhall_k21_refusals_apart.Holds:=by
 refine holds_law My.said0 λsaid=>?_
 have h:=q _ _ rfl
 refine (λ(_:type_of% h)=>?m) ?hc
 rotate_left
 exact h
 o_head My.HK
 case hw=>w_witness2
end
end My
namespace L2
open PySem PySem.Spec PyProof.Rows

abbrev Key:=Sum Int Str
def ziV:Key->Value->Bool
 | .inl k,v=>Value.isInt k v
 | .inr x,v=>Value.isStrOf x v
def keyH (w:World):Key->Int
 | .inl k=>hashInt k
 | .inr x=>hashStr w x
theorem zbf:∀ {k:Key}{v:Value},ziV k v=true->(∃ i t,k=Sum.inl i/\v=Value.int i t)\/(∃ x t,k=Sum.inr x/\v=Value.str x t)
 | .inl i,v,h=>by
  obtain⟨t,e⟩:=Value.isInt_shape (k:=i) (v:=v) h
  exact .inl ⟨i,t,rfl,e⟩
 | .inr x,v,h=>by
  obtain⟨t,e⟩:=Value.isStrOf_shape (x:=x) (v:=v) h
  exact .inr ⟨x,t,rfl,e⟩
theorem zl0 (i:Int)(t:Tok):ziV (.inl i) (.int i t)=true:=by simp[ziV,Value.isInt]
theorem zl1 (x:Str)(t:Tok):ziV (.inr x) (.str x t)=true:=by simp[ziV,Value.isStrOf]
theorem zqq (a b:Int):decide ((Sum.inl a:Key)=Sum.inl b)=(a == b):=by
 by_cases e:a=b
 ·subst e;simp
 ·have h:¬ (Sum.inl a:Key)=Sum.inl b:=λq=>e (Sum.inl.inj q)
  rw[decide_eq_false h]
  exact (beq_eq_false_iff_ne.mpr e).symm
theorem zqr (a b:Str):decide ((Sum.inr a:Key)=Sum.inr b)=decide (a=b):=by
 by_cases e:a=b
 ·subst e;simp
 ·have h:¬ (Sum.inr a:Key)=Sum.inr b:=λq=>e (Sum.inr.inj q)
  rw[decide_eq_false h,decide_eq_false e]
theorem zqs (a:Int)(b:Str):decide ((Sum.inl a:Key)=Sum.inr b)=false:=decide_eq_false (λq=>nomatch q)
theorem zqt (a:Str)(b:Int):decide ((Sum.inr a:Key)=Sum.inl b)=false:=decide_eq_false (λq=>nomatch q)
def zbg (prog:Program)(w:World):PySem.KeyKind prog w Key where
 is:=ziV
 hash:=keyH w
 inj:=λv a b ha hb=>by
  rcases zbf ha with ⟨i,t,rfl,rfl⟩ | ⟨x,t,rfl,rfl⟩
  ·rcases zbf hb with ⟨j,u,rfl,e⟩ | ⟨y,u,rfl,e⟩
   ·injection e with e1 _;rw[e1]
   ·exact nomatch e
  ·rcases zbf hb with ⟨j,u,rfl,e⟩ | ⟨y,u,rfl,e⟩
   ·exact nomatch e
   ·injection e with e1 _;rw[e1]
 byValue:=λk v h=>by
  rcases zbf h with ⟨i,t,rfl,rfl⟩ | ⟨x,t,rfl,rfl⟩ <;> rfl
 pyHash:=λhv h=>by
  rcases zbf hv with ⟨i,t,rfl,rfl⟩ | ⟨x,t,rfl,rfl⟩
  ·exact wpAny_pyHash_int h
  ·exact wpAny_pyHash_str h
 eqBool:=λhu hv h=>by
  rcases zbf hu with ⟨i,t,rfl,rfl⟩ | ⟨x,t,rfl,rfl⟩
  ·rcases zbf hv with ⟨j,u,rfl,rfl⟩ | ⟨y,u,rfl,rfl⟩
   ·rw[zqq] at h;exact wpAny_eqBool_int h
   ·rw[zqs] at h;exact SeqAt.EqAt.int_str i t y u _ _ _ _ h
  ·rcases zbf hv with ⟨j,u,rfl,rfl⟩ | ⟨y,u,rfl,rfl⟩
   ·rw[zqt] at h;exact SeqAt.EqAt.str_int x t j u _ _ _ _ h
   ·rw[zqr] at h;exact wpAny_eqBool_str h
 «strs»:=λk x t v h=>by
  rcases zbf h with ⟨i,u,rfl,e⟩ | ⟨y,u,rfl,e⟩
  ·exact nomatch e
  ·injection e with e1 _
   subst e1
   cases v <;> rfl
theorem zj0 (prog:Program)(w:World)(i:Int)(t:Tok):(zbg prog w).is (.inl i) (.int i t)=true:=zl0 i t
theorem zj1 (prog:Program)(w:World)(x:Str)(t:Tok):(zbg prog w).is (.inr x) (.str x t)=true:=zl1 x t

inductive V where
 | non | bl (b:Bool) | int (i:Int) | str (x:Str) | byt (b:Array UInt8) | flt (b:UInt64) | ref (a:Addr) | ty (n:String)
 deriving DecidableEq
def RelV:V->Value->Prop
 | .non,u=>u=Value.none
 | .bl b,u=>u=Value.bool b
 | .int i,u=>∃ t,u=Value.int i t
 | .str x,u=>∃ t,u=Value.str x t
 | .byt b,u=>∃ t,u=Value.bytes b t
 | .flt b,u=>∃ t,u=Value.float b t
 | .ref a,u=>u=Value.ref a
 | .ty n,u=>u=Value.type n
abbrev Vals:List V->List Value->Prop:=Paired RelV
variable {xs:List V}{us:List Value}
theorem Vals.length(r:Vals xs us):xs.length=us.length:=Paired.length r
theorem Vals.get:∀ {xs:List V}{us:List Value}{i:Nat}{x:V},Vals xs us->xs[i]?=some x->∃ u,us[i]?=some u/\RelV x u
 | _,_,_,_,.nil,e=>by simp at e
 | _,_,0,_,.cons r _,e=>by simp at e;subst e;exact⟨_,rfl,r⟩
 | _,_,i+1,x,.cons _ t,e=>by
  obtain⟨u,h1,h2⟩:=Vals.get (i:=i) (x:=x) t (by simpa using e)
  exact⟨u,by simpa using h1,h2⟩
variable {u:Value}
theorem Vals.set{x:V}(r:RelV x u):∀ {xs:List V}{us:List Value}(i:Nat),Vals xs us->Vals (xs.set i x) (us.set i u)
 | _,_,_,.nil=>.nil
 | _,_,0,.cons _ t=>.cons r t
 | _,_,i+1,.cons q t=>.cons q (Vals.set r i t)
theorem Vals.append:∀ {xs ys:List V}{us ws:List Value},Vals xs us->Vals ys ws->Vals (xs++ys) (us++ws)
 | _,_,_,_,.nil,s=>s
 | _,_,_,_,.cons r t,s=>.cons r (Vals.append t s)
theorem Vals.take:∀ {xs:List V}{us:List Value}(n:Nat),Vals xs us->Vals (xs.take n) (us.take n)
 | _,_,0,_=>.nil
 | _,_,_+1,.nil=>.nil
 | _,_,n+1,.cons r t=>.cons r (Vals.take n t)
theorem Vals.drop:∀ {xs:List V}{us:List Value}(n:Nat),Vals xs us->Vals (xs.drop n) (us.drop n)
 | _,_,0,r=>r
 | _,_,_+1,.nil=>.nil
 | _,_,n+1,.cons _ t=>Vals.drop n t
theorem Vals.none_of:∀ {xs:List V}{us:List Value}{i:Nat},Vals xs us->xs[i]?=none->us[i]?=none:=λ{xs us i} r e=>by
 have h1:=r.length
 have h2:xs.length<=i:=List.getElem?_eq_none_iff.mp e
 exact List.getElem?_eq_none_iff.mpr (by omega)
def RelO:Option V->Option Value->Prop
 | some v,some u=>RelV v u
 | none,none=>True
 | _,_=>False
def KV {κ:Type} : List (κ × V)->List (κ × Value)->Prop:=Paired λ(p:κ × V) (q:κ × Value)=>p.1=q.1/\RelV p.2 q.2
def kV:Key->V
 | .inl i=>.int i
 | .inr x=>.str x
inductive HO where
 /-- a list -/
 | lst (xs:List V)
 /-- a tuple (never changes) -/
 | tup (xs:List V)
 /-- a dict whose keys are ints and texts;one whose keys are tuples of ints and texts (the empty one is both) -/
 | dK (kvs:List (Key × V)) | dT (kvs:List (List Key × V))
 /-- a set of ints: its members,its size -/
 | set (S:Int->Bool) (n:Nat)
 /-- an instance of the class at C,its dict at dx,its attributes -/
 | ins (C dx:Addr) (fs:List (Str × V))
 /-- the dict of the instance at x -/
 | own (x:Addr)
 /-- the dict of an exception -/
 | xd (fs:List (Str × V))
 /-- a bound method,f of x -/
 | met (f x:Addr)
 /-- a range object lo,lo+1,.. below hi -/
 | rng (lo hi:Int)
 /-- a thing that is known to the object (the script;a dict while a loop walks it): read,never written while it is so -/
 | frz (o:Obj) (u:HO)
 /-- a code object's table -/
 | tbl (ps:Array Value)
 /-- any other thing,by what is true of its one object (a def of one's own: SetO a S n:=HO.ext λh=>..) -/
 | ext (φ:Heap->Prop)
abbrev Hp:=Addr->Option HO
def upd (H:Hp)(a:Addr)(o:HO):Hp:=λb=>if b=a then some o else H b
variable {H:Hp}{a:Addr}{o:HO}
theorem zaa: upd H a o a=some o:=by unfold upd;rw[if_pos rfl]
variable {b:Addr}
theorem zai(h:b≠a):upd H a o b=H b:=by unfold upd;rw[if_neg h]
theorem zpd{u:HO}(h:H a=some o)(h':H b=some u)(d:o≠u):a≠b:=by
 intro e;subst e;rw[h] at h';exact d (Option.some.inj h')
theorem zan(h:H a=some o)(h':H b=none):a≠b:=by
 intro e;subst e;rw[h] at h';cases h'
section
variable (P:Program)(w:World)
def zbI (H:Hp)(h:Heap)(a:Addr):HO->Prop
 | .lst xs=>xs.length<=sizeLine/\∃ (its:List Value) (n:Nat),Vals xs its/\h.get? a=some {cls:=.type "list",data:=.seq its.toArray n}
 | .tup xs=>xs.length<=sizeLine/\∃ its:List Value,Vals xs its/\IsTup h a its.toArray
 | .dK kvs=>kvs.length<=sizeLine/\(a == sysModules)=false/\∃ vs,KV kvs vs/\h.DictOf (zbg P w) a vs
 | .dT kvs=>kvs.length<=sizeLine/\(a == sysModules)=false/\∃ xs:List (List Key × Addr × Value),
   Paired (λ(p:List Key × V) (q:List Key × Addr × Value)=>p.1=q.1/\H q.2.1=some (.tup (p.1.map kV))/\RelV p.2 q.2.2) kvs xs/\
   ∃ o es ep,h.get? a=some o/\o.ExactDict/\o.data=.dict es ep/\es.toList=xs.map (entryOfKey (tupleKind (zbg P w)))/\(xs.map (·.1)).Nodup
 | .set S n=>h.SetOf (intKind P w) a S n
 | .ins C dx fs=>H dx=some (.own a)/\fs.length<=1000/\dx≠a/\h.get? a=some (PySem.W.instObj C dx)/\
   ∃ mA,h.Ns1 dx mA/\(∀ f,RelO (fs.lookup f) (mA f))/\PySem.Within mA (fs.map (·.1))
 | .own _=>∃ o,h.get? a=some o
 | .xd fs=>∃ mA,h.Ns1 a mA/\∀ f,RelO (fs.lookup f) (mA f)
 | .rng lo hi=>∃ t u v,h.get? a=some {cls:=.type "range",data:=.fields #[.int lo t,.int hi u,.int 1 v]}
 | .frz o u=>h.get? a=some o/\zbI H h a u
 | .tbl ps=>h.get? a=some {cls:=.none,data:=.fields ps}
 | .met f x=>h.get? a=some (PySem.W.methodObj (.ref f) (.ref x))
 | .ext φ=>φ h/\(∃ o,h.get? a=some o)/\∀ h1 h2:Heap,φ h1->(∀ o,h1.get? a=some o->h2.get? a=some o)->φ h2
def HOk (H:Hp)(h:Heap):Prop:=∀ a o,H a=some o->zbI P w H h a o
end

variable {α:Type}
section
variable {P:Program}{w:World}{H H':Hp}{h h':Heap}{a:Addr}{o:HO}
theorem zbI.lt (x:zbI P w H h a o):a<h.objs.size:=by
 cases o with
 | lst xs=>obtain⟨_,_,_,_,e⟩:=x;exact Heap.lt_size e
 | tup xs=>obtain⟨_,_,_,p⟩:=x;exact p.lt
 | dK kvs=>obtain⟨_,_,_,_,o,_,_,e,_⟩:=x;exact Heap.lt_size e
 | dT kvs=>obtain⟨_,_,_,_,o,_,_,e,_⟩:=x;exact Heap.lt_size e
 | set S n=>obtain⟨o,_,_,_,e,_⟩:=x;exact Heap.lt_size e
 | ins C dx fs=>obtain⟨_,_,_,e,_⟩:=x;exact Heap.lt_size e
 | own y=>obtain⟨_,e⟩:=x;exact Heap.lt_size e
 | xd fs=>obtain⟨_,⟨_,_,_,e,_⟩,_⟩:=x;exact Heap.lt_size e
 | rng lo hi=>obtain⟨_,_,_,e⟩:=x;exact Heap.lt_size e
 | frz ob u=>obtain⟨e,_⟩:=x;exact Heap.lt_size e
 | tbl ps=>exact Heap.lt_size (show h.get? a=some _ from x)
 | met f y=>exact Heap.lt_size (show h.get? a=some _ from x)
 | ext φ=>obtain⟨_,⟨_,e⟩,_⟩:=x;exact Heap.lt_size e
theorem Paired.mapP{β:Type}{F G:α->β->Prop}: ∀ {l₁:List α}{l₂:List β},Paired F l₁ l₂->(∀ a b,F a b->G a b)->Paired G l₁ l₂
 | _,_,.nil,_=>.nil
 | _,_,.cons r t,f=>.cons (f _ _ r) (Paired.mapP t f)
theorem zbI.stay (x:zbI P w H h a o)(k:∀ b u,(b=a\/H b=some (.own a))->h.get? b=some u->h'.get? b=some u)
  (ho:∀ b,H b=some (.own a)->H' b=some (.own a)) (ht:∀ b xs,H b=some (.tup xs)->H' b=some (.tup xs)):zbI P w H' h' a o:=by
 induction o with
 | lst xs=>obtain⟨z,its,n,r,e⟩:=x;exact⟨z,its,n,r,k _ _ (.inl rfl) e⟩
 | tup xs=>obtain⟨z,its,r,ob,e,c⟩:=x;exact⟨z,its,r,ob,k _ _ (.inl rfl) e,c⟩
 | dK kvs=>obtain⟨z,y,vs,r,ob,es,ep,e,c⟩:=x;exact⟨z,y,vs,r,ob,es,ep,k _ _ (.inl rfl) e,c⟩
 | dT kvs=>
  obtain⟨z,y,xs,r,ob,es,ep,e,c⟩:=x
  exact⟨z,y,xs,Paired.mapP r λp q z=>⟨z.1,ht _ _ z.2.1,z.2.2⟩,ob,es,ep,k _ _ (.inl rfl) e,c⟩
 | set S n=>obtain⟨ob,es,ep,t,e,c⟩:=x;exact⟨ob,es,ep,t,k _ _ (.inl rfl) e,c⟩
 | ins C dx fs=>
  obtain⟨d,z,ne,e,mA,⟨od,es,ep,e2,c⟩,r⟩:=x
  exact⟨ho _ d,z,ne,k _ _ (.inl rfl) e,mA,⟨od,es,ep,k _ _ (.inr d) e2,c⟩,r⟩
 | own y=>obtain⟨ob,e⟩:=x;exact⟨ob,k _ _ (.inl rfl) e⟩
 | xd fs=>obtain⟨mA,⟨od,es,ep,e,c⟩,r⟩:=x;exact⟨mA,⟨od,es,ep,k _ _ (.inl rfl) e,c⟩,r⟩
 | rng lo hi=>obtain⟨t,u,v,e⟩:=x;exact⟨t,u,v,k _ _ (.inl rfl) e⟩
 | frz ob u ih=>obtain⟨e,q⟩:=x;exact⟨k _ _ (.inl rfl) e,ih q⟩
 | tbl ps=>
  have e:h.get? a=some {cls:=.none,data:=.fields ps}:=x
  show h'.get? a=some {cls:=.none,data:=.fields ps}
  exact k a _ (.inl rfl) e
 | met f y=>
  have e:h.get? a=some (PySem.W.methodObj (.ref f) (.ref y)):=x
  show h'.get? a=some (PySem.W.methodObj (.ref f) (.ref y))
  exact k a _ (.inl rfl) e
 | ext φ=>obtain⟨p,⟨o,e⟩,st⟩:=x;exact⟨st _ _ p λo q=>k _ _ (.inl rfl) q,⟨o,k _ _ (.inl rfl) e⟩,st⟩
theorem HOk.lt (x:HOk P w H h)(e:H a=some o):a<h.objs.size:=(x a o e).lt
theorem HOk.fresh (x:HOk P w H h)(e:h.objs.size<=a):H a=none:=by
 cases q:H a with
 | none=>rfl
 | some u=>exact absurd (Nat.lt_of_lt_of_le (x.lt q) e) (Nat.lt_irrefl _)
theorem HOk.kept (x:HOk P w H h)(k:∀ b u,h.get? b=some u->h'.get? b=some u):HOk P w H h':=λa o e=>
 (x a o e).stay (λb u _ q=>k b u q) (λ_ q=>q) λ_ _ q=>q
theorem HOk.laid (x:HOk P w H h)(k:∀ b u,h.get? b=some u->h'.get? b=some u)(hp:h.objs.size<=a)(new:zbI P w (upd H a o) h' a o):HOk P w (upd H a o) h':=λb u e=>by
 have hn:=x.fresh hp
 by_cases hb:b=a
 ·subst hb;rw[zaa] at e;cases e;exact new
 ·rw[zai hb] at e
  exact (x b u e).stay (λc v _ q=>k c v q) (λc q=>by rw[zai (zan q hn)];exact q) λc xs q=>by rw[zai (zan q hn)];exact q
end

def Rd (H:Hp)(a:Addr)(u:HO):Prop:=H a=some u\/∃ o,H a=some (.frz o u)
variable {P:Program}{w:World}
theorem Rd.ok{h:Heap}{u:HO}(r:Rd H a u)(x:HOk P w H h):zbI P w H h a u:=by
 rcases r with r | ⟨o,r⟩
 ·exact x a u r
 ·obtain⟨_,q⟩:=x a _ r
  exact q
def Mut:Option HO->Prop
 | some (.lst _)=>True
 | some (.dK _)=>True
 | some (.dT _)=>True
 | some (.set _ _)=>True
 | some (.ins _ _ _)=>True
 | some (.ext _)=>True
 | _=>False
section
variable {P:Program}{w:World}{H:Hp}{h h':Heap}{x e:Addr}{o':HO}
theorem HOk.write (ok:HOk P w H h)(mu:Mut (H x))(he:e=x\/H e=some (.own x))(k:∀ b u,b≠e->h.get? b=some u->h'.get? b=some u)(heo:∃ u,h'.get? e=some u)
  (new:zbI P w (upd H x o') h' x o'):HOk P w (upd H x o') h':=λb u q=>by
 have nown:∀ c y,H c=some (.own y)->c≠x:=λc y r z=>by subst z;rw[r] at mu;exact mu
 have ntup:∀ c xs,H c=some (.tup xs)->c≠x:=λc xs r z=>by subst z;rw[r] at mu;exact mu
 by_cases hb:b=x
 ·subst hb;rw[zaa] at q;cases q;exact new
 ·rw[zai hb] at q
  by_cases hbe:b=e
  ·have q':H b=some (.own x):=by
    rcases he with z | z
    ·exact absurd (hbe.trans z) hb
    ·rw[hbe];exact z
   rw[q] at q';cases q'
   obtain⟨v,hv⟩:=heo
   exact⟨v,by rw[hbe];exact hv⟩
  ·refine (ok b u q).stay (λc v hc r=>k c v ?_ r) (λc r=>by rw[zai (nown c b r)];exact r) λc xs r=>by rw[zai (ntup c xs r)];exact r
   rcases hc with rfl | hc
   ·exact hbe
   ·rintro rfl
    rcases he with z | z
    ·exact nown c b hc z
    ·rw[hc] at z;cases z;exact hb rfl
end

structure Un (fs ex:List Addr)(H H':Hp)(h h':Heap):Prop where
 keep:∀ b o,h.get? b=some o->H b=none->b∉fs->b∉ex->h'.get? b=some o
 slot:∀ b o,h.get? b=some o->H b=none->b∈fs->b∉ex->∃ sl,h'.get? b=some {o with slots:=sl}
 free:∀ b o,h.get? b=some o->H b=none->b∉ex->H' b=none
 there:∀ b o,h.get? b=some o->b∉ex->∃ o',h'.get? b=some o'
 tups:∀ b xs,H b=some (.tup xs)->H' b=some (.tup xs)
 frzs:∀ b o u,H b=some (.frz o u)->H' b=some (.frz o u)
 tbls:∀ b ps,H b=some (.tbl ps)->∃ more,H' b=some (.tbl (ps++more))
section
variable {fs fs' ex ex':List Addr}{H H1 H2:Hp}{h h1 h2 h':Heap}{a x e:Addr}{o:HO}
theorem Un.any(u:Un fs ex H H1 h h1){ob:Obj}(q:h.get? b=some ob)(n:H b=none)(hx:b∉ex):∃ sl,h1.get? b=some {ob with slots:=sl}:=by
 by_cases hb:b∈fs
 ·exact u.slot b ob q n hb hx
 ·exact⟨ob.slots,u.keep b ob q n hb hx⟩
theorem Un.kept (k:∀ b u,h.get? b=some u->h'.get? b=some u):Un fs ex H H h h':=
 ⟨λb ob q _ _ _=>k b ob q,λb ob q _ _ _=>⟨ob.slots,k b ob q⟩,λ_ _ _ n _=>n,λb ob q _=>⟨ob,k b ob q⟩,λ_ _ q=>q,λ_ _ _ q=>q,λ_ ps q=>⟨#[],by rw[q];simp⟩⟩
theorem Un.refl:Un fs ex H H h h:=Un.kept λ_ _ q=>q
theorem Un.laid (k:∀ b u,h.get? b=some u->h'.get? b=some u)(hp:h.objs.size<=a)(hn:H a=none):Un fs ex H (upd H a o) h h' where
 keep:=λb u q _ _ _=>k b u q
 slot:=λb u q _ _ _=>⟨u.slots,k b u q⟩
 free:=λb u q n _=>by rw[zai (Nat.ne_of_lt (Nat.lt_of_lt_of_le (Heap.lt_size q) hp))];exact n
 there:=λb u q _=>⟨u,k b u q⟩
 tups:=λb xs q=>by rw[zai (zan q hn)];exact q
 frzs:=λb u xs q=>by rw[zai (zan q hn)];exact q
 tbls:=λb ps q=>⟨#[],by rw[zai (zan q hn),q];simp⟩
theorem Un.write (mu:Mut (H x))(he:e=x\/H e=some (.own x))(k:∀ b u,b≠e->h.get? b=some u->h'.get? b=some u)(heo:∃ u,h'.get? e=some u):Un fs ex H (upd H x o) h h':=by
 have hx:∀ b,H b=none->b≠x:=λb n z=>by subst z;rw[n] at mu;exact mu
 have hb:∀ b,H b=none->b≠e:=λb n z=>by
  subst z
  rcases he with r | r
  ·exact hx b n r
  ·rw[n] at r;cases r
 have hm:∀ b u,H b=some u->¬ Mut (some u)->b≠x:=λb u q nm z=>by subst z;rw[q] at mu;exact nm mu
 refine⟨λb u q n _ _=>k b u (hb b n) q,λb u q n _ _=>⟨u.slots,k b u (hb b n) q⟩,λb u q n _=>by rw[zai (hx b n)];exact n,λb u q _=>?_,
  λb xs q=>by rw[zai (hm b _ q λz=>z)];exact q,λb u xs q=>by rw[zai (hm b _ q λz=>z)];exact q,λb ps q=>⟨#[],by rw[zai (hm b _ q λz=>z),q];simp⟩⟩
 by_cases hbe:b=e
 ·subst hbe;exact heo
 ·exact⟨u,k b u hbe q⟩
end

def trk (h:Heap)(H:Hp):List Addr:=(List.range h.objs.size).filter λa=>(H a).isSome
def hidT (h:Heap)(H:Hp):Heap:=PySem.W.hideAll h (trk h H)
theorem zl2 (h:Heap)(H:Hp):(hidT h H).objs.size=h.objs.size:=PySem.W.hideAll_size _ _
theorem znG{h:Heap}{o:Obj}(e:h.get? b=some o)(n:H b=none):(hidT h H).get? b=some o:=
 PySem.W.hideAll_get _ e λhm=>by
  have q:(H b).isSome=true:=(List.mem_filter.mp hm).2
  rw[n] at q;simp at q
theorem zpe{h:Heap}{o:Obj}(e:(hidT h H).get? b=some o):h.get? b=some o/\H b=none:=by
 have e':h.get? b=some o:=PySem.W.of_hideAll (trk h H) e
 refine⟨e',?_⟩
 cases q:H b with
 | none=>rfl
 | some x=>
  have hm:b∈trk h H:=List.mem_filter.mpr ⟨List.mem_range.mpr (Heap.lt_size e'),by simp[q]⟩
  have z:(hidT h H).get? b=none:=PySem.W.hideAll_none (trk h H) hm
  rw[z] at e;cases e

structure Mod (K:Fg)(mg:Str->Option Value)(base:Heap):Prop where
 kin:K.In base
 glob:base.Ns mainGlobals mg
 blt:∃ mb,base.Ns builtinsNs mb/\∀ x:Str,x≠ "__name__" ->mb x=bootBuiltins x
 nolimit:base.NoLimit
structure Cx where
 prog:Program
 w:World
 K:Fg
 mg:Str->Option Value
 base:Heap
 A:Around
 N:List Str
 s₀:Shared
 H₀:Hp
 env:Env
 outer:List Env
 stack:List Env
 ex:List Addr
 fn:Str->Bool
 calm:Bool
 pn:List (Addr × Obj)
 xe:Value->Shared->Prop
def frs (l:List Env):List Addr:=l.filterMap (·.frame)
abbrev Cx.fs (X:Cx):List Addr:=frs X.outer
def Vis (sc:Scope)(x:Str):Prop:=sc.names.lookup x=some .local\/sc.names.lookup x=some .cell\/sc.names.lookup x=some .free
def Loc (sc:Scope)(x:Str):Prop:=sc.names.lookup x=some .local\/sc.names.lookup x=some .cell
def Look (env:Env)(h:Heap)(m:Str->Option Value)(x:Str)(u:Value):Prop:=
 (env.kindOf x=some .local/\m x=some u)\/((env.kindOf x=some .cell\/env.kindOf x=some .free)/\∃ c,env.cells.lookup x=some c/\h.IsCell c (some u))
structure Cx.Ok (X:Cx):Prop where
 mod:Mod X.K X.mg X.base
 kind:X.env.scope.kind=.function
 glob:X.env.globals=mainGlobals
 blt:X.env.builtins=builtinsNs
 above:X.s₀.heap.objs.size<=X.env.locals
 inj:∀ x y c,X.env.cells.lookup x=some c->X.env.cells.lookup y=some c->x=y
 has:∀ x,(X.env.kindOf x=some .cell\/X.env.kindOf x=some .free)->∃ c,X.env.cells.lookup x=some c
 cab:∀ x c,X.fn x=true->X.env.cells.lookup x=some c->X.s₀.heap.objs.size<=c
 hd:X.calm=true->X.A.handled=none
 frames:X.A.frames=some X.stack
 stk:X.stack=X.outer\/(X.stack=X.env::X.outer/\X.env.frame=some X.env.locals)
 exf:∀ b∈X.ex,b≠X.env.locals/\∀ x c,X.env.cells.lookup x=some c->c≠b
 bs:∀ b o,X.base.get? b=some o->X.s₀.heap.get? b=some o/\X.H₀ b=none
 bsz:X.base.objs.size<=X.s₀.heap.objs.size
 noex:∀ b o,X.base.get? b=some o->b∉X.ex
 exfs:∀ b∈X.ex,b∉X.fs
 funs:X.s₀.heap.FunFrames X.base X.outer
 frf:∀ b∈X.fs,X.H₀ b=none
structure Inv (X:Cx)(pins:List (Addr × Obj))(σ:List (Option V))(H:Hp)(s:Shared):Prop where
 ok:X.Ok
 os:s.os=X.s₀.os
 bare:AllBare s.gens
 base:Un X.fs X.ex X.H₀ H X.s₀.heap s.heap
 loc:∃ m,s.heap.Ns X.env.locals m/\∀ (i:Nat) (x:Str) (v:V),X.N[i]?=some x->σ[i]?=some (some v)->Vis X.env.scope x->∃ u,RelV v u/\Look X.env s.heap m x u
 cell:∀ x c,X.env.cells.lookup x=some c->∃ v,s.heap.IsCell c v
 free:H X.env.locals=none
 freeC:∀ x c,X.env.cells.lookup x=some c->H c=none
 pin:∀ p∈X.pn++pins,s.heap.get? p.1=some p.2/\H p.1=none/\p.1≠X.env.locals/\p.1∉X.fs/\∀ v,p.2.data≠.cell v
 hok:HOk X.prog X.w H s.heap
 len:σ.length=X.N.length
variable {x:Str}{g':Array GenState}{t' i j:Nat}{d':Drawn}{ch:List Addr}{it:Addr}{N:List Str}{M:Model}{A:Around}{E:Value->Shared->Prop}{v:V}{s':Shared}
section
variable {X:Cx}{pins:List (Addr × Obj)}{σ:List (Option V)}{H H':Hp}{s:Shared}{h':Heap}

theorem Cx.Ok.nofr(ok:X.Ok){o:Obj}(e:X.base.get? b=some o):b∉X.fs:=λhb=>by
 have:=(ok.funs.mem hb).1
 rw[e] at this;cases this
theorem Inv.bs (I:Inv X pins σ H s):∀ b o,X.base.get? b=some o->s.heap.get? b=some o/\H b=none:=λb o e=>
 ⟨I.base.keep b o (I.ok.bs b o e).1 (I.ok.bs b o e).2 (I.ok.nofr e) (I.ok.noex b o e),I.base.free b o (I.ok.bs b o e).1 (I.ok.bs b o e).2 (I.ok.noex b o e)⟩
theorem Inv.bk (I:Inv X pins σ H s):∀ b o,X.base.get? b=some o->s.heap.get? b=some o:=λb o e=>(I.bs b o e).1
theorem Inv.mod (I:Inv X pins σ H s):Mod X.K X.mg X.base:=I.ok.mod
theorem Inv.kIn (I:Inv X pins σ H s):X.K.In s.heap:=I.ok.mod.kin.keeps I.bk
theorem Inv.lt (I:Inv X pins σ H s):X.env.locals<s.heap.objs.size:=let ⟨_,hn,_⟩:=I.loc;hn.lt
theorem Inv.sz (I:Inv X pins σ H s):X.s₀.heap.objs.size<=s.heap.objs.size:=Nat.le_trans I.ok.above (Nat.le_of_lt I.lt)
theorem Inv.nofs(I:Inv X pins σ H s)(h:s.heap.objs.size<=a):a∉X.fs:=λhb=>by
 obtain⟨_,o,ho,_⟩:=I.ok.funs.mem hb
 exact absurd (Nat.lt_of_lt_of_le (Heap.lt_size ho) (Nat.le_trans I.sz h)) (Nat.lt_irrefl _)
theorem Inv.cne (I:Inv X pins σ H s):∀ x c,X.env.cells.lookup x=some c->c≠X.env.locals:=λx c e z=>by
 obtain⟨v,o,ho,hd⟩:=I.cell x c e
 obtain⟨m,⟨o',es,ep,ho',hd',_⟩,_⟩:=I.loc
 rw[z,ho'] at ho;cases ho;rw[hd'] at hd;cases hd
theorem Inv.funs (I:Inv X pins σ H s):s.heap.FunFrames X.base X.outer:=by
 have all:∀ (l:List Env),(∀ b∈frs l,b∈X.fs)->X.s₀.heap.FunFrames X.base l->s.heap.FunFrames X.base l:=by
  intro l
  induction l with
  | nil=>intro _ _;trivial
  | cons env r ih=>
   intro hs hl
   obtain⟨hk,⟨L,o,hf,hn,ho,hd⟩,hr⟩:=hl
   have hL:L∈X.fs:=hs L (by unfold frs;rw[List.filterMap_cons,hf];exact List.mem_cons_self)
   obtain⟨sl,e⟩:=I.base.slot L o ho (I.ok.frf L hL) hL λz=>I.ok.exfs L z hL
   exact⟨hk,⟨L,_,hf,hn,e,hd⟩,ih (λb hb=>hs b (by unfold frs;rw[List.filterMap_cons,hf];exact List.mem_cons_of_mem _ hb)) hr⟩
 exact all X.outer (λ_ hb=>hb) I.ok.funs
theorem Inv.stack (I:Inv X pins σ H s):s.heap.FunFrames X.base X.stack:=by
 rcases I.ok.stk with e | ⟨e,hf⟩
 ·rw[e];exact I.funs
 ·rw[e]
  obtain⟨m,hn,_⟩:=I.loc
  refine .cons (by rw[I.ok.kind];decide) hf hn ?_ I.funs
  exact Heap.get?_none_of_le (Nat.le_trans I.ok.bsz I.ok.above)
theorem Inv.stkSub (I:Inv X pins σ H s):∀ b∈frs X.stack,b∈X.env.locals::X.fs:=λb hb=>by
 rcases I.ok.stk with e | ⟨e,hf⟩
 ·rw[e] at hb;exact List.mem_cons_of_mem _ hb
 ·rw[e] at hb
  unfold frs at hb
  rw[List.filterMap_cons,hf] at hb
  exact hb
theorem Inv.stkFree (I:Inv X pins σ H s):∀ b∈frs X.stack,H b=none:=λb hb=>by
 rcases List.mem_cons.mp (I.stkSub b hb) with e | hb
 ·rw[e];exact I.free
 ·obtain⟨_,o,ho,_⟩:=I.ok.funs.mem hb
  exact I.base.free b o ho (I.ok.frf b hb) λz=>I.ok.exfs b z hb
theorem Inv.step(I:Inv X pins σ H s)(hch:∀ b∈ch,(b∈X.ex\/X.s₀.heap.objs.size<=b)/\b≠X.env.locals/\(∀ x c,X.env.cells.lookup x=some c->c≠b)/\∀ p∈X.pn++pins,p.1≠b)(keep:∀ b o,b≠X.env.locals->b∉X.fs->b∉ch->s.heap.get? b=some o->H b=none->h'.get? b=some o)(slot:∀ b o,b≠X.env.locals->b∈X.fs->b∉ch->s.heap.get? b=some o->H b=none->∃ sl,h'.get? b=some {o with slots:=sl})(free:∀ b o,b∉ch->s.heap.get? b=some o->H b=none->H' b=none)(there:∀ b o,b∉ch->s.heap.get? b=some o->∃ o',h'.get? b=some o')(tups:∀ b xs,H b=some (.tup xs)->H' b=some (.tup xs))(frzs:∀ b o u,H b=some (.frz o u)->H' b=some (.frz o u))(tbls:∀ b ps,H b=some (.tbl ps)->∃ more,H' b=some (.tbl (ps++more)))(ns:∀ m,s.heap.Ns X.env.locals m->h'.Ns X.env.locals m)(hok:HOk X.prog X.w H' h')(hg:AllBare g'):
  Inv X pins σ H' {s with heap:=h',gens:=g',drawn:=d',toks:=t'}:=by
 have neL:∀ b o,X.s₀.heap.get? b=some o->b≠X.env.locals:=λb o e=>Nat.ne_of_lt (Nat.lt_of_lt_of_le (Heap.lt_size e) I.ok.above)
 have neC:∀ b o,X.s₀.heap.get? b=some o->b∉X.ex->b∉ch:=λb o e hx hb=>by
  rcases (hch b hb).1 with z | z
  ·exact hx z
  ·exact absurd (Nat.lt_of_lt_of_le (Heap.lt_size e) z) (Nat.lt_irrefl _)
 have cellK:∀ x c,X.env.cells.lookup x=some c->∀ v,s.heap.IsCell c v->h'.IsCell c v:=λx c e v ⟨o,ho,hd⟩=>by
  have nch:c∉ch:=λz=>(hch c z).2.2.1 x c e rfl
  by_cases hc:c∈X.fs
  ·obtain⟨sl,q⟩:=slot c o (I.cne x c e) hc nch ho (I.freeC x c e)
   exact⟨_,q,hd⟩
  ·exact⟨o,keep c o (I.cne x c e) hc nch ho (I.freeC x c e),hd⟩
 refine⟨I.ok,I.os,hg,⟨λb o e n hb hx=>?_,λb o e n hb hx=>?_,λb o e n hx=>?_,λb o e hx=>?_,λb xs e=>tups b xs (I.base.tups b xs e),λb o xs e=>frzs b o xs (I.base.frzs b o xs e),λb ps e=>?_⟩,?_,λx c e=>?_,?_,λx c e=>?_,λp hp=>?_,hok,I.len⟩
 ·exact keep b o (neL b o e) hb (neC b o e hx) (I.base.keep b o e n hb hx) (I.base.free b o e n hx)
 ·obtain⟨sl,e1⟩:=I.base.slot b o e n hb hx
  obtain⟨sl',e2⟩:=slot b _ (neL b o e) hb (neC b o e hx) e1 (I.base.free b o e n hx)
  exact⟨sl',e2⟩
 ·obtain⟨o',e1⟩:=I.base.there b o e hx
  exact free b o' (neC b o e hx) e1 (I.base.free b o e n hx)
 ·obtain⟨o',e1⟩:=I.base.there b o e hx
  exact there b o' (neC b o e hx) e1
 ·obtain⟨m1,e1⟩:=I.base.tbls b ps e
  obtain⟨m2,e2⟩:=tbls b _ e1
  exact⟨m1++m2,by rw[e2,Array.append_assoc]⟩
 ·obtain⟨m,hn,hl⟩:=I.loc
  refine⟨m,ns m hn,λi x v e1 e2 e3=>?_⟩
  obtain⟨u,r,l⟩:=hl i x v e1 e2 e3
  refine⟨u,r,?_⟩
  rcases l with l | ⟨k,c,e,z⟩
  ·exact .inl l
  ·exact .inr ⟨k,c,e,cellK x c e _ z⟩
 ·obtain⟨v,z⟩:=I.cell x c e
  exact⟨v,cellK x c e v z⟩
 ·obtain⟨m,⟨o,_,_,ho,_⟩,_⟩:=I.loc
  exact free _ o (λz=>(hch _ z).2.1 rfl) ho I.free
 ·obtain⟨v,o,ho,hd⟩:=I.cell x c e
  exact free c o (λz=>(hch c z).2.2.1 x c e rfl) ho (I.freeC x c e)
 ·obtain⟨e,n,ne,nf,d⟩:=I.pin p hp
  have nch:p.1∉ch:=λz=>(hch p.1 z).2.2.2 p hp rfl
  exact⟨keep p.1 p.2 ne nf nch e n,free p.1 p.2 nch e n,ne,nf,d⟩
theorem Inv.un(I:Inv X pins σ H s)(u:Un X.fs [] H H' s.heap h')(hok:HOk X.prog X.w H' h'):Inv X pins σ H' {s with heap:=h',toks:=t'}:=by
 obtain⟨m,⟨o,es,ep,ho,r⟩,_⟩:=id I.loc
 obtain⟨sl,hL⟩:=u.any ho I.free (by simp)
 exact I.step (g':=s.gens) (d':=s.drawn) (ch:=[]) (λ_ z=>nomatch z) (λb o _ hb _ e n=>u.keep b o e n hb (by simp)) (λb o _ hb _ e n=>u.slot b o e n hb (by simp)) (λb o _ e n=>u.free b o e n (by simp)) (λb o _ e=>u.there b o e (by simp)) u.tups u.frzs u.tbls (λm' hm=>by
  obtain⟨o',es',ep',ho',r'⟩:=hm
  rw[ho] at ho';cases ho'
  exact⟨_,es',ep',hL,r'⟩) hok I.bare
theorem Inv.call(I:Inv X pins σ H s)(u:Un (frs X.stack) ch H H' s.heap h')(hok:HOk X.prog X.w H' h')(hg:AllBare g')(hch:∀ b∈ch,(b∈X.ex\/X.s₀.heap.objs.size<=b)/\b≠X.env.locals/\(∀ x c,X.env.cells.lookup x=some c->c≠b)/\∀ p∈X.pn++pins,p.1≠b):
  Inv X pins σ H' {s with heap:=h',gens:=g',drawn:=d',toks:=t'}:=by
 obtain⟨m,⟨o,es,ep,ho,r⟩,_⟩:=id I.loc
 obtain⟨sl,hL⟩:=u.any ho I.free λz=>(hch _ z).2.1 rfl
 exact I.step (ch:=ch) hch (λb o hL hb hc e n=>u.keep b o e n (λz=>(List.mem_cons.mp (I.stkSub b z)).elim hL hb) hc) (λb o _ _ hc e n=>u.any e n hc) (λb o hc e n=>u.free b o e n hc) (λb o hc e=>u.there b o e hc) u.tups u.frzs u.tbls (λm' hm=>by
  obtain⟨o',es',ep',ho',r'⟩:=hm
  rw[ho] at ho';cases ho'
  exact⟨_,es',ep',hL,r'⟩) hok hg
theorem Inv.turned(I:Inv X pins σ H s)(k:∀ b o,b≠it->s.heap.get? b=some o->h'.get? b=some o)(hn:H it=none)(hL:it≠X.env.locals)(h1:it∈X.ex\/X.s₀.heap.objs.size<=it)(h2:∀ x c,X.env.cells.lookup x=some c->c≠it)(h3:∀ p∈X.pn++pins,p.1≠it):Inv X pins σ H {s with heap:=h',toks:=t'}:=by
 have nit:∀ b u,H b=some u->b≠it:=λb u e z=>by rw[z,hn] at e;cases e
 refine I.step (g':=s.gens) (d':=s.drawn) (ch:=[it]) (λb hb=>?_) (λb o _ _ hc e _=>k b o (λz=>hc (by simp[z])) e) (λb o _ _ hc e _=>⟨o.slots,k b o (λz=>hc (by simp[z])) e⟩) (λ_ _ _ _ n=>n)
  (λb o hc e=>⟨o,k b o (λz=>hc (by simp[z])) e⟩) (λ_ _ e=>e) (λ_ _ _ e=>e) (λb ps e=>⟨#[],by rw[e];simp⟩) (λm hm=>?_) (λb u e=>?_) I.bare
 ·have e:b=it:=by simpa using hb
  subst e
  exact⟨h1,hL,h2,h3⟩
 ·obtain⟨o,es,ep,ho,r⟩:=hm
  exact⟨o,es,ep,k _ o (Ne.symm hL) ho,r⟩
 ·refine (I.hok b u e).stay (λc v hc q=>k c v ?_ q) (λ_ q=>q) λ_ _ q=>q
  rcases hc with z | z
  ·rw[z];exact nit b u e
  ·exact nit c _ z
theorem Inv.tok (I:Inv X pins σ H s)(t:Nat):Inv X pins σ H {s with toks:=t}:=I.un (h':=s.heap) (t':=t) Un.refl I.hok
theorem Inv.kept(I:Inv X pins σ H s)(k:∀ b u,s.heap.get? b=some u->h'.get? b=some u):Inv X pins σ H {s with heap:=h',toks:=t'}:=I.un (Un.kept k) (I.hok.kept k)
theorem Inv.laid(I:Inv X pins σ H s)(k:∀ b u,s.heap.get? b=some u->h'.get? b=some u)(hp:s.heap.objs.size<=a)(new:zbI X.prog X.w (upd H a o) h' a o):
  Inv X pins σ (upd H a o) {s with heap:=h',toks:=t'}:=I.un (Un.laid k hp (I.hok.fresh hp)) (I.hok.laid k hp new)
theorem Inv.write{x e:Addr}(I:Inv X pins σ H s)(mu:Mut (H x))(he:e=x\/H e=some (.own x))(k:∀ b u,b≠e->s.heap.get? b=some u->h'.get? b=some u)(heo:∃ u,h'.get? e=some u)(new:zbI X.prog X.w (upd H x o) h' x o):Inv X pins σ (upd H x o) {s with heap:=h',toks:=t'}:=I.un (Un.write mu he k heo) (I.hok.write mu he k heo new)
theorem Inv.pins_of {pins':List (Addr × Obj)}(I:Inv X pins σ H s)(h:∀ p∈pins',s.heap.get? p.1=some p.2/\H p.1=none/\p.1≠X.env.locals/\p.1∉X.fs/\∀ v,p.2.data≠.cell v):Inv X pins' σ H s:=
 ⟨I.ok,I.os,I.bare,I.base,I.loc,I.cell,I.free,I.freeC,λp hp=>(zma.mp hp).elim (λz=>I.pin p (List.mem_append_left _ z)) (h p),I.hok,I.len⟩
theorem zii(hN:N.Nodup)(a:N[i]?=some x)(b:N[j]?=some x):i=j:=by
 obtain⟨h1,e1⟩:=zge.mp a
 obtain⟨h2,e2⟩:=zge.mp b
 exact (List.getElem_inj hN).mp (e1.trans e2.symm)
variable {Q:Unit->Shared->Prop}
theorem ziW(I:Inv X pins σ H s)(hN:X.N.Nodup)(hi:X.N[i]?=some x)(hx:Loc X.env.scope x)(r:RelV v u)(h:∀ s',Inv X pins (σ.set i (some v)) H s'->(∃ a,Heap.SameBut a s.heap s'.heap/\(a=X.env.locals\/X.env.cells.lookup x=some a))->Q () s')(hf:X.fn x=true\/X.env.scope.names.lookup x=some .local:=by first | exact .inl rfl | exact .inr rfl | assumption):wpAny M A (storeName X.env x u) Q E s:=by
 obtain⟨m,hn,hl⟩:=id I.loc
 have hcls:(X.env.scope.kind == .class || (X.env.scope.kind == .module && X.env.locals != X.env.globals))=false:=by rw[I.ok.kind];rfl
 have hiσ:i<σ.length:=by rw[I.len];exact (zge.mp hi).1
 have cne:=I.cne
 have tracked:∀ {a:Addr}{h':Heap},(∃ o,s.heap.get? a=some o/\H a=none)->Heap.SameBut a s.heap h'->HOk X.prog X.w H h':=λ{a h'} ha hs b ob e=>by
  obtain⟨_,_,hfree⟩:=ha
  refine (I.hok b ob e).stay (λc w' hc q=>(hs.2 c ?_).trans q) (λ_ q=>q) λ_ _ q=>q
  rintro rfl
  rcases hc with rfl | hc
  ·rw[hfree] at e;cases e
  ·rw[hfree] at hc;cases hc
 rcases hx with hk | hk
 ·refine wpAny_storeName_local hk hn (λh' hn' hs=>?_) hcls
  obtain⟨oL,_,_,hoL,_⟩:=id hn
  refine h _ ⟨I.ok,I.os,I.bare,⟨λb o e n hb hx=>?_,λb o e n hb hx=>?_,I.base.free,λb o e hx=>?_,I.base.tups,I.base.frzs,I.base.tbls⟩,⟨_,hn',λj y v' e1 e2 e3=>?_⟩,λy c e=>?_,I.free,I.freeC,λp hp=>?_,tracked ⟨oL,hoL,I.free⟩ hs,by simpa using I.len⟩ ⟨_,hs,.inl rfl⟩
  ·exact (hs.2 b (Nat.ne_of_lt (Nat.lt_of_lt_of_le (Heap.lt_size e) I.ok.above))).trans (I.base.keep b o e n hb hx)
  ·obtain⟨sl,e1⟩:=I.base.slot b o e n hb hx
   exact⟨sl,(hs.2 b (Nat.ne_of_lt (Nat.lt_of_lt_of_le (Heap.lt_size e) I.ok.above))).trans e1⟩
  ·obtain⟨o',e1⟩:=I.base.there b o e hx
   exact⟨o',(hs.2 b (Nat.ne_of_lt (Nat.lt_of_lt_of_le (Heap.lt_size e) I.ok.above))).trans e1⟩
  ·by_cases hj:j=i
   ·subst hj
    rw[hi] at e1;cases e1
    rw[List.getElem?_set_self hiσ] at e2
    cases e2
    exact⟨u,r,.inl ⟨hk,by simp⟩⟩
   ·rw[List.getElem?_set_ne (Ne.symm hj)] at e2
    obtain⟨u',r',q⟩:=hl j y v' e1 e2 e3
    refine⟨u',r',?_⟩
    rcases q with ⟨k,e⟩ | ⟨k,c,e,z⟩
    ·refine .inl ⟨k,?_⟩
     have:y≠x:=λe=>hj (zii hN e1 (e ▸ hi))
     simp[this,e]
    ·exact .inr ⟨k,c,e,z.sameBut hs (cne y c e)⟩
  ·obtain⟨w',z⟩:=I.cell y c e
   exact⟨w',z.sameBut hs (cne y c e)⟩
  ·obtain⟨e,n,ne,nf,d⟩:=I.pin p hp
   exact⟨(hs.2 p.1 ne).trans e,n,ne,nf,d⟩
 ·have hfn:X.fn x=true:=by
   rcases hf with z | z
   ·exact z
   ·rw[z] at hk;cases hk
  obtain⟨c,hc⟩:=I.ok.has x (.inl hk)
  obtain⟨w',z⟩:=I.cell x c hc
  refine wpAny_storeName_cell I.ok.kind hk hc z (λh' hc' hs=>?_)
  obtain⟨oc,hoc,hocd⟩:=id z
  refine h {s with heap:=h'} ⟨I.ok,I.os,I.bare,⟨λb o e n hb hx=>?_,λb o e n hb hx=>?_,I.base.free,λb o e hx=>?_,I.base.tups,I.base.frzs,I.base.tbls⟩,⟨m,hn.sameBut hs (Ne.symm (cne x c hc)),λj y v' e1 e2 e3=>?_⟩,λy c' e=>?_,I.free,I.freeC,λp hp=>?_,tracked ⟨oc,hoc,I.freeC x c hc⟩ hs,by simpa using I.len⟩ ⟨c,hs,.inr hc⟩
  ·exact (hs.2 b (Nat.ne_of_lt (Nat.lt_of_lt_of_le (Heap.lt_size e) (I.ok.cab x c hfn hc)))).trans (I.base.keep b o e n hb hx)
  ·obtain⟨sl,e1⟩:=I.base.slot b o e n hb hx
   exact⟨sl,(hs.2 b (Nat.ne_of_lt (Nat.lt_of_lt_of_le (Heap.lt_size e) (I.ok.cab x c hfn hc)))).trans e1⟩
  ·obtain⟨o',e1⟩:=I.base.there b o e hx
   exact⟨o',(hs.2 b (Nat.ne_of_lt (Nat.lt_of_lt_of_le (Heap.lt_size e) (I.ok.cab x c hfn hc)))).trans e1⟩
  ·by_cases hj:j=i
   ·subst hj
    rw[hi] at e1;cases e1
    rw[List.getElem?_set_self hiσ] at e2
    cases e2
    exact⟨u,r,.inr ⟨.inl hk,c,hc,hc'⟩⟩
   ·rw[List.getElem?_set_ne (Ne.symm hj)] at e2
    obtain⟨u',r',q⟩:=hl j y v' e1 e2 e3
    refine⟨u',r',?_⟩
    rcases q with q | ⟨k,c',e,z'⟩
    ·exact .inl q
    ·refine .inr ⟨k,c',e,z'.sameBut hs ?_⟩
     rintro rfl
     exact hj (zii hN e1 (I.ok.inj _ _ _ e hc ▸ hi))
  ·by_cases hcc:c'=c
   ·subst hcc;exact⟨_,hc'⟩
   ·obtain⟨w2,z2⟩:=I.cell y c' e
    exact⟨w2,z2.sameBut hs hcc⟩
  ·obtain⟨e,n,ne,nf,d⟩:=I.pin p hp
   refine⟨(hs.2 p.1 ?_).trans e,n,ne,nf,d⟩
   intro q
   rw[q,hoc] at e
   have q':oc=p.2:=Option.some.inj e
   exact d w' (by rw[<-q'];exact hocd)
theorem zgo(I:Inv X pins σ H s)(hN:X.N.Nodup)(hi:X.N[i]?=some x)(hx:Loc X.env.scope x)(r:RelV v u)(h:∀ s',Inv X pins (σ.set i (some v)) H s'->Q () s')(hf:X.fn x=true\/X.env.scope.names.lookup x=some .local:=by first | exact .inl rfl | exact .inr rfl | assumption):wpAny M A (storeName X.env x u) Q E s:=
 ziW I hN hi hx r (λs' I' _=>h s' I') hf
theorem Inv.call'(I:Inv X pins σ H s)(ho:s'.os=s.os)(u:Un (frs X.stack) ch H H' s.heap s'.heap)(hok:HOk X.prog X.w H' s'.heap)(hg:AllBare s'.gens)(hch:∀ b∈ch,(b∈X.ex\/X.s₀.heap.objs.size<=b)/\b≠X.env.locals/\(∀ x c,X.env.cells.lookup x=some c->c≠b)/\∀ p∈X.pn++pins,p.1≠b):Inv X pins σ H' s':=by
 obtain⟨h',g',d',t',o'⟩:=s'
 have e:o'=s.os:=ho
 subst e
 exact I.call (g':=g') (t':=t') (d':=d') u hok hg hch
end

abbrev XK:=Value->Option Addr->Hp->Prop
abbrev St:=List (Option V)
abbrev VK:=V->Hp->Prop
abbrev TE:=St->Hp->VK->Prop
abbrev TT:=St->Hp->(Bool->Hp->Prop)->Prop
abbrev TA:=St->Hp->(List V->Hp->Prop)->Prop
structure Ends where
 nx:St->Hp->Prop
 rt:VK
 bk:St->Hp->Prop:=λ_ _=>False
 ct:St->Hp->Prop:=λ_ _=>False
abbrev TS:=Ends->St->Hp->Prop
def EP (X:Cx)(pins:List (Addr × Obj))(σ:St)(Q:VK)(u:Value)(s':Shared):Prop:=∃ v H',Inv X pins σ H' s'/\RelV v u/\Q v H'
def TP (X:Cx)(pins:List (Addr × Obj))(σ:St)(Q:Bool->Hp->Prop)(b:Bool)(s':Shared):Prop:=∃ H',Inv X pins σ H' s'/\Q b H'
def AP (X:Cx)(pins:List (Addr × Obj))(σ:St)(Q:List V->Hp->Prop)(us:List Value)(s':Shared):Prop:=∃ vs H',Inv X pins σ H' s'/\Vals vs us/\Q vs H'
def SP (X:Cx)(pins:List (Addr × Obj))(D:Ends)(f:Flow)(s':Shared):Prop:=
 match f with
 | .next=>∃ σ' H',Inv X pins σ' H' s'/\D.nx σ' H'
 | .brk=>∃ σ' H',Inv X pins σ' H' s'/\D.bk σ' H'
 | .cont=>∃ σ' H',Inv X pins σ' H' s'/\D.ct σ' H'
 | .ret u=>∃ v σ' H',Inv X pins σ' H' s'/\RelV v u/\D.rt v H'
def PE (X:Cx)(e:Expr)(t:TE):Prop:=
 ∀ (pins:List (Addr × Obj)) (s:Shared) (σ:St) (H:Hp) (Q:VK),Inv X pins σ H s->t σ H Q->wpAny (model X.prog X.w) X.A (eval e X.env) (EP X pins σ Q) X.xe s
def PT (X:Cx)(e:Expr)(t:TT):Prop:=
 ∀ (pins:List (Addr × Obj)) (s:Shared) (σ:St) (H:Hp) (Q:Bool->Hp->Prop),Inv X pins σ H s->t σ H Q->wpAny (model X.prog X.w) X.A (isTrue e X.env (eval e X.env)) (TP X pins σ Q) X.xe s
def PW (X:Cx)(e:Expr)(t:TT):Prop:=
 ∀ (whole:Sem Value) (pins:List (Addr × Obj)) (s:Shared) (σ:St) (H:Hp) (Q:Bool->Hp->Prop),Inv X pins σ H s->t σ H Q->wpAny (model X.prog X.w) X.A (isTrue e X.env whole) (TP X pins σ Q) X.xe s
variable {e:Expr}{X:Cx}
theorem PW.pt{t:TT}(h:PW X e t):PT X e t:=h _
def PA (X:Cx)(es:List Expr)(t:TA):Prop:=
 ∀ (pos:Pos) (pins:List (Addr × Obj)) (s:Shared) (σ:St) (H:Hp) (Q:List V->Hp->Prop),Inv X pins σ H s->t σ H Q->wpAny (model X.prog X.w) X.A (spliced (backTo pos (starEach es X.env))) (AP X pins σ Q) X.xe s
def PS (X:Cx)(st:Stmt)(t:TS):Prop:=
 ∀ (pins:List (Addr × Obj)) (s:Shared) (σ:St) (H:Hp) (D:Ends),Inv X pins σ H s->t D σ H->wpAny (model X.prog X.w) X.A (exec st X.env) (SP X pins D) X.xe s
def PSs (X:Cx)(st:List Stmt)(t:TS):Prop:=
 ∀ (pins:List (Addr × Obj)) (s:Shared) (σ:St) (H:Hp) (D:Ends),Inv X pins σ H s->t D σ H->wpAny (model X.prog X.w) X.A (execs st X.env) (SP X pins D) X.xe s
variable {s:Shared}
theorem thn{t:Sem α}{Q Q':α->Shared->Prop}(h:wpAny M A t Q E s)(hQ:∀ a s,Q a s->Q' a s):wpAny M A t Q' E s:=wpAny_mono h hQ λ_ _ x=>x
variable {Q:Value->Shared->Prop}{pins:List (Addr × Obj)}{σ:St}{R:V->V->Hp->Prop}{pos:Pos}{op:CmpOp}{c:Expr}
section
variable {X:Cx}

theorem bin{a b:Expr}{ta tb:TE}(ha:PE X a ta)(hb:PE X b tb)(I:Inv X pins σ H s)(h:ta σ H λx H1=>tb σ H1 λy H2=>R x y H2){Q:α->Shared->Prop}{f:Value->Value->Sem α}(hf:∀ v u s2 x y H2,Inv X pins σ H2 s2->RelV x v->RelV y u->R x y H2->wpAny (model X.prog X.w) X.A (f v u) Q X.xe s2):
  wpAny (model X.prog X.w) X.A (eval a X.env) (λv s₁=>wpAny (model X.prog X.w) X.A (eval b X.env) (λu s₂=>wpAny (model X.prog X.w) X.A (f v u) Q X.xe s₂) X.xe s₁) X.xe s:=by
 refine thn (ha pins s σ H _ I h) λv s1 ⟨x,H1,I1,r1,q1⟩=>?_
 refine thn (hb pins s1 σ H1 _ I1 q1) λu s2 ⟨y,H2,I2,r2,q2⟩=>?_
 exact hf v u s2 x y H2 I2 r1 r2 q2
def tVar (i:Nat):TE:=λσ H Q=>∃ v,σ[i]?=some (some v)/\Q v H
def tC (v:V):TE:=λ_ H Q=>Q v H
theorem zqu(hN:X.N[i]?=some x)(hv:Vis X.env.scope x)(hd:(x == ("__debug__" : Str))=false:=by decide)(hcd:(x == ("__classdict__" : Str))=false:=by decide):PE X (.Name x pos) (tVar i):=by
 intro pins s σ H Q I h
 obtain⟨v,e,h⟩:=h
 obtain⟨m,hn,hl⟩:=I.loc
 obtain⟨u,r,l⟩:=hl i x v hN e hv
 have fin:EP X pins σ Q u s:=⟨v,H,I,r,h⟩
 rcases l with ⟨hk,hm⟩ | ⟨hk,c,hc,hcell⟩
 ·exact wpAny_Name (wpAny_loadName_local I.ok.kind hk hn hm fin) hd
 ·rcases hk with hk | hk
  ·exact wpAny_Name (wpAny_loadName_cell I.ok.kind hk hc hcell fin) hd
  ·exact wpAny_Name (wpAny_loadName_free I.ok.kind hk hc hcell fin hcd) hd
theorem zae {i j pos} : PE X (.Constant (.int i) j pos) (tC (.int i)):=λ_ _ _ H _ I h=>wpAny_Constant_int ⟨.int i,H,I.tok _,⟨_,rfl⟩,h⟩
theorem zf9 {b j pos} : PE X (.Constant (.bool b) j pos) (tC (.bl b)):=λ_ _ _ H _ I h=>Constant_bool ⟨.bl b,H,I,rfl,h⟩
theorem zdl {j pos} : PE X (.Constant .none j pos) (tC .non):=λ_ _ _ H _ I h=>Constant_none ⟨.non,H,I,rfl,h⟩
theorem zbh {x j pos} : PE X (.Constant (.str x) j pos) (tC (.str x)):=λ_ _ _ H _ I h=>Calls.Constant_str ⟨.str x,H,I.tok _,⟨_,rfl⟩,h⟩
def Gl (X:Cx)(x:Str):Prop:=X.env.kindOf x=some .globalImplicit
theorem zdY(I:Inv X pins σ H s)(hg:Gl X x)(hm:X.mg x=some u)(h:Q u s)(hd:(x == ("__debug__" : Str))=false:=by decide):wpAny (model X.prog X.w) X.A (eval (.Name x pos) X.env) Q E s:=
 Calls.Name_function_global I.ok.kind hg (Calls.loadGlobal_global (by rw[I.ok.glob];exact I.mod.glob.keeps I.bk) hm h) hd
theorem zhR(I:Inv X pins σ H s)(hg:Gl X x)(hm:X.mg x=none)(hv:bootBuiltins x=some u)(h:Q u s)(hn:x≠ "__name__":=by decide)(hd:(x == ("__debug__" : Str))=false:=by decide):wpAny (model X.prog X.w) X.A (eval (.Name x pos) X.env) Q E s:=by
 obtain⟨mb,h1,h2⟩:=I.mod.blt
 exact Calls.Name_function_global I.ok.kind hg (Calls.loadGlobal_builtin (by rw[I.ok.glob];exact I.mod.glob.keeps I.bk) hm (by rw[I.ok.blt];exact h1.keeps I.bk) ((h2 x hn).trans hv) h) hd
theorem zl3(hg:Gl X x)(hm:X.mg x=some u)(r:RelV v u)(hd:(x == ("__debug__" : Str))=false:=by decide):PE X (.Name x pos) (tC v):=
 λ_ _ _ H _ I h=>zdY I hg hm ⟨v,H,I,r,h⟩ hd
theorem zl4(hg:Gl X x)(hm:X.mg x=none)(hv:bootBuiltins x=some u)(r:RelV v u)(hn:x≠ "__name__":=by decide)(hd:(x == ("__debug__" : Str))=false:=by decide):PE X (.Name x pos) (tC v):=
 λ_ _ _ H _ I h=>zhR I hg hm hv ⟨v,H,I,r,h⟩ hn hd
variable {a b:Expr}{ta tb:TE}{pos:Pos}
def PC (X:Cx)(op:CmpOp)(a b:Expr)(t:TE):Prop:=
 ∀ (pins:List (Addr × Obj)) (s:Shared) (σ:St) (H:Hp) (Q:VK),Inv X pins σ H s->t σ H Q->
  wpAny (model X.prog X.w) X.A (eval a X.env) (λv s₁=>wpAny (model X.prog X.w) X.A (eval b X.env) (λu s₂=>wpAny (model X.prog X.w) X.A (compareOp op v u) (EP X pins σ Q) X.xe s₂) X.xe s₁) X.xe s
def tB (t:TE):TT:=λσ H Q=>t σ H λx H1=>∃ c,x=.bl c/\Q c H1
theorem zqv{t:TE}(h:PC X op a b t)(h1:behindInMarks op b=false:=by first | exact nobehind _ (by decide) (by decide) | rfl):PE X (.Compare a [op] [b] pos) t:=λpins s σ H Q I hw=>wpAny_Compare1 (h pins s σ H Q I hw) h1
theorem zhS{t:TE}(h:PC X op a b t)(h1:behindInMarks op b=false:=by first | exact nobehind _ (by decide) (by decide) | rfl):PT X (.Compare a [op] [b] pos) (tB t):=by
 intro pins s σ H Q I hw
 refine wpAny_isTrue_Compare1 (thn (h pins s σ H _ I hw) λv s1 h1=>thn h1 λu s2 h2=>thn h2 λc s3 ⟨x,H1,I1,r1,q1⟩=>?_) h1
 obtain⟨d,rfl,q⟩:=q1
 cases r1
 exact wpAny_truthy_bool ⟨H1,I1,q⟩
theorem zcJ{t:TE}(h:PE X e t)(he:∀ whole,isTrue e X.env whole=(do let v <-whole;standAt e.pos;holding [v] (truthy v)):=by intro _;rfl):PT X e (tB t):=by
 intro pins s σ H Q I hw
 refine isTrue_plain (thn (h pins s σ H _ I hw) λv s1 ⟨x,H1,I1,r1,q1⟩=>?_) (he _)
 obtain⟨d,rfl,q⟩:=q1
 cases r1
 exact wpAny_truthy_bool ⟨H1,I1,q⟩
variable {tA tB':TT}{rest:List Expr}
def tAnd (t u:TT):TT:=λσ H Q=>t σ H λc H1=>if c=true then u σ H1 Q else Q false H1
def tOr (t u:TT):TT:=λσ H Q=>t σ H λc H1=>if c=true then Q true H1 else u σ H1 Q
def tNot (t:TT):TT:=λσ H Q=>t σ H λc H1=>Q (!c) H1
theorem zj2 (ha:PT X a tA):PW X (.BoolOp .And [a] pos) tA:=by
 intro wh pins s σ H Q I h
 refine isTrue_and (thn (ha pins s σ H Q I h) λc s1 e=>?_)
 cases c with
 | true=>exact isTrue_and_nil e
 | false=>exact e
theorem zkQ (ha:PT X a tA):PW X (.BoolOp .Or [a] pos) tA:=by
 intro wh pins s σ H Q I h
 refine isTrue_or (thn (ha pins s σ H Q I h) λc s1 e=>?_)
 cases c with
 | false=>exact isTrue_or_nil e
 | true=>exact e
theorem zl5 (ha:PT X a tA)(hb:PW X (.BoolOp .And (b::rest) pos) tB'):PW X (.BoolOp .And (a::b::rest) pos) (tAnd tA tB'):=by
 intro wh pins s σ H Q I h
 refine isTrue_and (thn (ha pins s σ H _ I h) λc s1 ⟨H1,I1,q1⟩=>?_)
 cases c with
 | true=>exact hb wh pins s1 σ H1 Q I1 q1
 | false=>exact⟨H1,I1,q1⟩
theorem zj3 (ha:PT X a tA)(hb:PW X (.BoolOp .Or (b::rest) pos) tB'):PW X (.BoolOp .Or (a::b::rest) pos) (tOr tA tB'):=by
 intro wh pins s σ H Q I h
 refine isTrue_or (thn (ha pins s σ H _ I h) λc s1 ⟨H1,I1,q1⟩=>?_)
 cases c with
 | true=>exact⟨H1,I1,q1⟩
 | false=>exact hb wh pins s1 σ H1 Q I1 q1
theorem zgD (ha:PT X a tA):PT X (.UnaryOp .Not a pos) (tNot tA):=by
 intro pins s σ H Q I h
 exact isTrue_not (ha pins s σ H (λc H1=>Q (!c) H1) I h)
def zqw (ta tb:TE):TE:=λσ H Q=>ta σ H λx H1=>∃ c,x=.bl c/\if c=true then tb σ H1 Q else Q (.bl false) H1
theorem zcq {op}{t:TE}(h:PE X a t):PE X (.BoolOp op [a] pos) t:=λpins s σ H Q I hw=>BoolOp_one (h pins s σ H Q I hw)
theorem zbO (ha:PE X a ta)(hb:PE X (.BoolOp .And (b::rest) pos) tb):PE X (.BoolOp .And (a::b::rest) pos) (zqw ta tb):=by
 intro pins s σ H Q I h
 refine BoolOp_and (thn (ha pins s σ H _ I h) λv s1 ⟨x,H1,I1,r1,q1⟩=>?_)
 obtain⟨c,rfl,q1⟩:=q1
 cases r1
 refine wpAny_truthy_bool ?_
 cases c with
 | true=>exact hb pins s1 σ H1 Q I1 q1
 | false=>exact⟨.bl false,H1,I1,rfl,q1⟩
def tIf (t:TT)(ta tb:TE):TE:=λσ H Q=>t σ H λc H1=>if c=true then ta σ H1 Q else tb σ H1 Q
theorem zij(hc:PT X c tA)(ha:PE X a ta)(hb:PE X b tb):PE X (.IfExp c a b pos) (tIf tA ta tb):=by
 intro pins s σ H Q I h
 refine wpAny_IfExp (thn (hc pins s σ H _ I h) λd s1 ⟨H1,I1,q1⟩=>?_)
 cases d with
 | true=>exact ha pins s1 σ H1 Q I1 q1
 | false=>exact hb pins s1 σ H1 Q I1 q1
end

def SqL (K:Fg)(H:Hp)(a:Addr)(xs:List V):Prop:=
 Rd H a (.lst xs)\/
  ∃ (o:Obj) (its:Array Value) (n:Nat),K.lookup a=some o/\o.cls=.type "list" /\o.dict=none/\o.data=.seq its n/\its.size<=sizeLine/\Vals xs its.toList
def SqT (K:Fg)(H:Hp)(a:Addr)(xs:List V):Prop:=
 Rd H a (.tup xs)\/
  ∃ (o:Obj) (its:Array Value) (n:Nat),K.lookup a=some o/\o.cls=.type "tuple" /\o.data=.seq its n/\its.size<=sizeLine/\Vals xs its.toList
def absV:Value->Option V
 | .none=>some .non
 | .bool b=>some (.bl b)
 | .int i _=>some (.int i)
 | .str x _=>some (.str x)
 | .bytes b _=>some (.byt b)
 | .float b _=>some (.flt b)
 | .ref a=>some (.ref a)
 | .type n=>some (.ty n)
 | _=>none
theorem RelV.abs{x:V}(r:RelV x u):absV u=some x:=by
 cases x with
 | non=>cases r;rfl
 | bl _=>cases r;rfl
 | int _=>obtain⟨t,rfl⟩:=r;rfl
 | str _=>obtain⟨t,rfl⟩:=r;rfl
 | byt _=>obtain⟨t,rfl⟩:=r;rfl
 | flt _=>obtain⟨t,rfl⟩:=r;rfl
 | ref _=>cases r;rfl
 | ty _=>cases r;rfl
variable {y:V}
theorem RelV.inj{x:V}(r:RelV x u)(q:RelV y u):x=y:=Option.some.inj (r.abs.symm.trans q.abs)
theorem Vals.inj:∀ {xs ys:List V}{us:List Value},Vals xs us->Vals ys us->xs=ys
 | _,_,_,.nil,.nil=>rfl
 | _,_,_,.cons r t,.cons r' t'=>by rw[r.inj r',Vals.inj t t']
variable {K:Fg}
section
variable {X:Cx}{pins:List (Addr × Obj)}{σ:St}{H:Hp}{s:Shared}{a:Addr}{xs ys:List V}
theorem SqL.of(h:H a=some (.lst xs)):SqL K H a xs:=.inl (.inl h)
theorem SqT.of(h:H a=some (.tup xs)):SqT K H a xs:=.inl (.inl h)
theorem Inv.list (I:Inv X pins σ H s)(h:SqL X.K H a xs):∃ its:List Value,Vals xs its/\PlainL s.heap a its.toArray/\xs.length<=sizeLine:=by
 rcases h with h | ⟨o,its,n,hk,hc,hd,hs,hz,r⟩
 ·obtain⟨z,its,n,r,e⟩:=h.ok I.hok
  exact⟨its,r,⟨_,n,e,rfl,rfl,rfl⟩,z⟩
 ·refine⟨its.toList,r,⟨o,n,I.kIn a o hk,hc,hd,by simpa using hs⟩,?_⟩
  have e:=r.length
  simp only[Array.length_toList] at e
  omega
theorem Inv.tuple (I:Inv X pins σ H s)(h:SqT X.K H a xs):∃ its:List Value,Vals xs its/\IsTup s.heap a its.toArray/\xs.length<=sizeLine:=by
 rcases h with h | ⟨o,its,n,hk,hc,hs,hz,r⟩
 ·obtain⟨z,its,r,p⟩:=h.ok I.hok
  exact⟨its,r,p,z⟩
 ·refine⟨its.toList,r,⟨o,I.kIn a o hk,hc,n,by simpa using hs⟩,?_⟩
  have e:=r.length
  simp only[Array.length_toList] at e
  omega
theorem Inv.list_inj (I:Inv X pins σ H s)(h:SqL X.K H a xs)(h':SqL X.K H a ys):xs=ys:=by
 obtain⟨its,r,⟨o,n,e,_,_,d⟩,_⟩:=I.list h
 obtain⟨its',r',⟨o',n',e',_,_,d'⟩,_⟩:=I.list h'
 rw[e] at e';cases e'
 rw[d] at d'
 injection d' with d1 _
 have:its=its':=by simpa using congrArg Array.toList d1
 subst this
 exact r.inj r'
theorem Inv.tuple_inj (I:Inv X pins σ H s)(h:SqT X.K H a xs)(h':SqT X.K H a ys):xs=ys:=by
 obtain⟨its,r,⟨o,e,_,n,d⟩,_⟩:=I.tuple h
 obtain⟨its',r',⟨o',e',_,n',d'⟩,_⟩:=I.tuple h'
 rw[e] at e';cases e'
 rw[d] at d'
 injection d' with d1 _
 have:its=its':=by simpa using congrArg Array.toList d1
 subst this
 exact r.inj r'
end

abbrev Cx.wish (X:Cx)(E:Value->Shared->Prop):Cx:={X with xe:=E}
abbrev Cx.nox (X:Cx):Cx:=X.wish λ_ _=>False
theorem Cx.Ok.wish(ok:X.Ok)(E:Value->Shared->Prop):(X.wish E).Ok:=
 ⟨ok.mod,ok.kind,ok.glob,ok.blt,ok.above,ok.inj,ok.has,ok.cab,ok.hd,ok.frames,ok.stk,ok.exf,ok.bs,ok.bsz,ok.noex,ok.exfs,ok.funs,ok.frf⟩
theorem Cx.Ok.unwish(ok:(X.wish E).Ok):X.Ok:=
 ⟨ok.mod,ok.kind,ok.glob,ok.blt,ok.above,ok.inj,ok.has,ok.cab,ok.hd,ok.frames,ok.stk,ok.exf,ok.bs,ok.bsz,ok.noex,ok.exfs,ok.funs,ok.frf⟩
section
variable {X:Cx}{pins:List (Addr × Obj)}{σ:St}{H:Hp}{s:Shared}{E:Value->Shared->Prop}
theorem Inv.wish (I:Inv X pins σ H s)(E:Value->Shared->Prop):Inv (X.wish E) pins σ H s:=⟨I.ok.wish E,I.os,I.bare,I.base,I.loc,I.cell,I.free,I.freeC,I.pin,I.hok,I.len⟩
theorem Inv.unwish (I:Inv (X.wish E) pins σ H s):Inv X pins σ H s:=⟨I.ok.unwish,I.os,I.bare,I.base,I.loc,I.cell,I.free,I.freeC,I.pin,I.hok,I.len⟩
theorem SP.unwish{D:Ends}{f:Flow}(h:SP (X.wish E) pins D f s'):SP X pins D f s':=by
 cases f with
 | next=>obtain⟨σ',H',I,q⟩:=h;exact⟨σ',H',I.unwish,q⟩
 | brk=>obtain⟨σ',H',I,q⟩:=h;exact⟨σ',H',I.unwish,q⟩
 | cont=>obtain⟨σ',H',I,q⟩:=h;exact⟨σ',H',I.unwish,q⟩
 | ret u=>obtain⟨v,σ',H',I,r,q⟩:=h;exact⟨v,σ',H',I.unwish,r,q⟩
theorem PSs.nox {st:List Stmt}{t:TS}(h:PSs X.nox st t):PSs X st t:=λpins s σ H D I hw=>
 wpAny_mono (h pins s σ H D (I.wish _) hw) (λ_ _ q=>q.unwish) λ_ _ z=>False.elim z
end

variable {tc:TT}
section
variable {X:Cx}{st:Stmt}{rest:List Stmt}{t u:TS}{e:Expr}{te:TE}{pos:Pos}
def zpf:TS:=λD σ H=>D.nx σ H
def tSeq (t u:TS):TS:=λD σ H=>t {D with nx:=u D} σ H
theorem zaE:PSs X [] zpf:=λ_ _ σ H _ I h=>wpAny_execs_nil ⟨σ,H,I,h⟩
theorem zag (h1:PS X st t)(h2:PSs X rest u):PSs X (st::rest) (tSeq t u):=by
 intro pins s σ H D I h
 refine wpAny_execs_cons (thn (h1 pins s σ H {D with nx:=u D} I h) λf s1 q=>?_)
 cases f with
 | next=>
  obtain⟨σ',H',I',q⟩:=q
  exact h2 pins s1 σ' H' D I' q
 | ret v=>exact q
 | brk=>exact q
 | cont=>exact q
theorem zah (h1:PS X st t):PSs X [st] t:=by
 intro pins s σ H D I h
 refine wpAny_execs_cons (thn (h1 pins s σ H D I h) λf s1 q=>?_)
 cases f with
 | next=>exact wpAny_execs_nil q
 | ret v=>exact q
 | brk=>exact q
 | cont=>exact q
theorem Inv.quiet(I:Inv X pins σ H s):interactive X.env=false:=by simp[interactive,I.ok.kind]
def zl6 (te:TE):TS:=λD σ H=>te σ H λ_ H1=>D.nx σ H1
theorem za3 (he:PE X e te)(hs:swapsWith e none pos.line X.env=pure false:=by rfl):PS X (.Expr e pos) (zl6 te):=by
 intro pins s σ H D I h
 exact wpAny_Expr_any (thn (he pins s σ H _ I h) λv s1 ⟨x,H1,I1,r1,q1⟩=>⟨σ,H1,I1,q1⟩) I.quiet hs
def tRet (te:TE):TS:=λD σ H=>te σ H D.rt
theorem zaq (he:PE X e te):PS X (.Return (some e) pos) (tRet te):=by
 intro pins s σ H D I h
 exact wpAny_Return_some (thn (he pins s σ H _ I h) λv s1 ⟨x,H1,I1,r1,q1⟩=>⟨x,σ,H1,I1,r1,q1⟩)
def tRetN:TS:=λD _ H=>D.rt .non H
theorem zl7:PS X (.Return none pos) tRetN:=λ_ _ σ H _ I h=>wpAny_Return_none ⟨.non,σ,H,I,rfl,h⟩
def tIfS (c:TT)(t u:TS):TS:=λD σ H=>c σ H λb H1=>if b=true then t D σ H1 else u D σ H1
theorem zbd{a b:List Stmt}(hc:PT X c tc)(ha:PSs X a t)(hb:PSs X b u):PS X (.If c a b pos) (tIfS tc t u):=by
 intro pins s σ H D I h
 refine wpAny_If (thn (hc pins s σ H _ I h) λd s1 ⟨H1,I1,q1⟩=>?_)
 cases d with
 | true=>exact ha pins s1 σ H1 D I1 q1
 | false=>exact hb pins s1 σ H1 D I1 q1
def zqx:TS:=λ_ _ _=>False
end

abbrev TG:=V->St->Hp->(St->Hp->Prop)->Prop
abbrev TGs:=List V->St->Hp->(St->Hp->Prop)->Prop
def PG (X:Cx)(target:Expr)(t:TG):Prop:=
 ∀ (pins:List (Addr × Obj)) (s:Shared) (σ:St) (H:Hp) (v:V) (u:Value) (Q:St->Hp->Prop),Inv X pins σ H s->RelV v u->t v σ H Q->
  wpAny (model X.prog X.w) X.A (assign target X.env u) (λ_ s'=>∃ σ' H',Inv X pins σ' H' s'/\Q σ' H') X.xe s
def PGs (X:Cx)(ts:List Expr)(t:TGs):Prop:=
 ∀ (pins:List (Addr × Obj)) (s:Shared) (σ:St) (H:Hp) (vs:List V) (us:List Value) (Q:St->Hp->Prop),Inv X pins σ H s->Vals vs us->t vs σ H Q->
  wpAny (model X.prog X.w) X.A (assignInOrder ((assignEach ts X.env).map (·.2)) us) (λ_ s'=>∃ σ' H',Inv X pins σ' H' s'/\Q σ' H') X.xe s
abbrev TSet:=V->V->V->Hp->(Hp->Prop)->Prop
def PSet (X:Cx)(t:TSet):Prop:=
 ∀ (pins:List (Addr × Obj)) (s:Shared) (σ:St) (H:Hp) (o i v:V) (ov iv u:Value) (Q:Hp->Prop),Inv X pins σ H s->RelV o ov->RelV i iv->RelV v u->t o i v H Q->
  wpAny (model X.prog X.w) X.A (setItem ov iv u) (λ_ s'=>∃ H',Inv X pins σ H' s'/\Q H') X.xe s
variable {es:List Expr}{n:Nat}{tg:Expr}{te:TE}{g:TG}
section
variable {X:Cx}{pos:Pos}
def znH (i:Nat):TG:=λv σ H Q=>Q (σ.set i (some v)) H
theorem zay(hN:X.N.Nodup)(hi:X.N[i]?=some x)(hx:Loc X.env.scope x)(hf:X.fn x=true\/X.env.scope.names.lookup x=some .local:=by first | exact .inl rfl | exact .inr rfl | assumption):PG X (.Name x pos) (znH i):=by
 intro pins s σ H v u Q I r h
 exact wpAny_assign_Name (zgo I hN hi hx r (λs' I'=>⟨_,H,I',h⟩) hf)
def gNil:TGs:=λvs σ H Q=>vs=[]/\Q σ H
inductive ConsI (vs:List V)(P:V->List V->Prop):Prop
 | mk (v:V) (r:List V) (e:vs=v::r) (q:P v r):ConsI vs P
def gCons (t:TG)(u:TGs):TGs:=λvs σ H Q=>ConsI vs λv r=>t v σ H λσ' H'=>u r σ' H' Q
theorem zfH:PGs X [] gNil:=by
 intro pins s σ H vs us Q I r h
 obtain⟨e,h⟩:=h
 subst e
 cases r
 exact assignInOrder_nil ⟨σ,H,I,h⟩
theorem zbJ{t:TG}{u:TGs}(h1:PG X e t)(h2:PGs X es u)(hs:(assignEach (e::es) X.env).map (·.2)=assign e X.env::(assignEach es X.env).map (·.2):=by rfl):PGs X (e::es) (gCons t u):=by
 intro pins s σ H vs us Q I r h
 obtain⟨v,vr,e1,h⟩:=h
 subst e1
 cases r with
 | cons r rr=>
  rw[hs]
  refine assignInOrder_cons (thn (h1 pins s σ H _ _ _ I r h) λ_ s1 ⟨σ1,H1,I1,q1⟩=>?_)
  exact h2 pins s1 σ1 H1 _ _ Q I1 rr q1
inductive TupI (K:Fg)(n:Nat)(v:V)(H:Hp)(P:List V->Prop):Prop
 | mk (a:Addr) (xs:List V) (e:v=.ref a) (h:SqT K H a xs) (l:xs.length=n) (q:P xs):TupI K n v H P
def gTup (K:Fg)(n:Nat)(t:TGs):TG:=λv σ H Q=>TupI K n v H λxs=>t xs σ H Q
theorem zqy{k:Nat}{t:TGs}(hc:X.calm=true)(h:PGs X es t)(hn:(assignEach es X.env).length=n:=by rfl)(hst:(assignEach es X.env).findIdx? (·.1)=none:=by rfl):PG X (.Tuple es k pos) (gTup X.K n t):=by
 intro pins s σ H v u Q I r hw
 obtain⟨a,xs,e1,hq,hl,hw⟩:=hw
 subst e1
 cases r
 obtain⟨its,rv,ht,hz⟩:=I.tuple hq
 refine assign_Tuple_tuple (I.ok.hd hc) ht (by simp[hn,<-hl,rv.length]) hst λh' hx=>?_
 have I1:Inv X pins σ H {s with heap:=h'}:=I.kept (t':=s.toks) λb o e=>hx b o (Nat.ne_of_lt (Heap.lt_size e)) e
 exact h pins _ σ H xs _ Q I1 (by simpa using rv) hw
def gSub (to ti:TE)(t:TSet):TG:=λv σ H Q=>to σ H λo H1=>ti σ H1 λi H2=>t o i v H2 λH3=>Q σ H3
theorem zkR {o i:Expr}{to ti:TE}{t:TSet}(ho:PE X o to)(hi:PE X i ti)(hs:PSet X t)
  (ha:∀ v,assign (.Subscript o i pos) X.env v=(do
   let ov <-holding [v] (eval o X.env)
   let iv <-holding [v,ov] (eval i X.env)
   standAt pos
   holding [v,ov,iv] (setItem ov iv v)
   release [v,ov,iv] []):=by intro _;rfl):PG X (.Subscript o i pos) (gSub to ti t):=by
 intro pins s σ H v u Q I r h
 rw[ha]
 refine wpAny_bind (wpAny_holding (thn (ho pins s σ H _ I h) λov s1 ⟨x,H1,I1,r1,q1⟩=>?_))
 refine wpAny_bind (wpAny_holding (thn (hi pins s1 σ H1 _ I1 q1) λiv s2 ⟨y,H2,I2,r2,q2⟩=>?_))
 refine wpAny_bind (wpAny_standAt (wpAny_bind (wpAny_holding (thn (hs pins s2 σ H2 x y v ov iv u _ I2 r1 r2 r q2) λ_ s3 ⟨H3,I3,q3⟩=>?_))))
 exact wpAny_release ⟨σ,H3,I3,q3⟩
def tAsg (te:TE)(g:TG):TS:=λD σ H=>te σ H λx H1=>g x σ H1 D.nx
theorem ziX(he:PE X e te)(hg:PG X tg g)(hs:swapsWithSole [tg] e pos.line X.env=pure false:=by rfl)(hw:swappedStores [tg] e X.env=pure none:=by rfl)(h1:(assignEach [tg] X.env).map (·.2)=[assign tg X.env]:=by rfl):PS X (.Assign [tg] e pos) (tAsg te g):=by
 intro pins s σ H D I h
 refine wpAny_Assign_stores (thn (he pins s σ H _ I h) λv s1 ⟨x,H1,I1,r1,q1⟩=>?_) hs hw
 rw[h1]
 exact thn (hg pins s1 σ H1 x v _ I1 r1 q1) λ_ s2 q=>q
theorem zat{pos':Pos}(hN:X.N.Nodup)(hi:X.N[i]?=some x)(hx:Loc X.env.scope x)(he:PE X e te)(hs:swapsWith e (some (.Name x pos')) pos.line X.env=pure false:=by rfl)(hf:X.fn x=true\/X.env.scope.names.lookup x=some .local:=by first | exact .inl rfl | exact .inr rfl | assumption):
  PS X (.Assign [.Name x pos'] e pos) (tAsg te (znH i)):=by
 intro pins s σ H D I h
 refine wpAny_Assign_Name (thn (he pins s σ H _ I h) λv s1 ⟨y,H1,I1,r1,q1⟩=>?_) hs
 exact zgo I1 hN hi hx r1 (λs2 I2=>⟨_,H1,I2,q1⟩) hf
end

variable {tb:TS}{body:List Stmt}
section
variable {X:Cx}{pos:Pos}
def zqz (c:TT)(tb:TS):TS:=λD σ H=>∃ W:Nat->St->Hp->Prop,(∃ m,W m σ H)/\∀ m σ H,W m σ H->
 c σ H λb H1=>if b=true then ∃ N:St->Hp->Prop,(∀ σ' H',N σ' H'->∃ m',m'<m/\W m' σ' H')/\tb {D with nx:=N,ct:=N,bk:=D.nx} σ H1 else D.nx σ H1
theorem zkS(hp:PassesOwn (model X.prog X.w) X.A X.env X.xe)(hc:PT X c tc)(hb:PSs X body tb):PS X (.While c body [] pos) (zqz tc tb):=by
 intro pins s σ H D I h
 obtain⟨W,⟨m0,w0⟩,turn⟩:=h
 refine wpAny_While (codeAny_whileLoop (λn s'=>∃ σ' H',Inv X pins σ' H' s'/\W n σ' H') ?_ m0 ⟨σ,H,I,w0⟩)
 rintro n s1 ⟨σ1,H1,I1,w1⟩
 refine wpAny_passesOwn hp (thn (hc pins s1 σ1 H1 _ I1 (turn n σ1 H1 w1)) λb s2 ⟨H2,I2,q2⟩=>?_)
 cases b with
 | true=>
  obtain⟨N,hN,q2⟩:=q2
  rw[if_pos rfl]
  refine wpAny_passesOwn hp (thn (hb pins s2 σ1 H2 _ I2 q2) λf s3 q3=>?_)
  cases f with
  | next=>
   obtain⟨σ3,H3,I3,n3⟩:=q3
   obtain⟨m',hm,w3⟩:=hN σ3 H3 n3
   exact⟨m',hm,σ3,H3,I3,w3⟩
  | cont=>
   obtain⟨σ3,H3,I3,n3⟩:=q3
   obtain⟨m',hm,w3⟩:=hN σ3 H3 n3
   exact⟨m',hm,σ3,H3,I3,w3⟩
  | brk=>exact q3
  | ret v=>exact q3
 | false=>
  rw[if_neg Bool.false_ne_true]
  exact wpAny_execs_nil ⟨σ1,H2,I2,q2⟩
end

structure It where
 go:Nat->Hp->Prop
 yld:Nat->Hp->V->Hp->Prop
 stop:Nat->Hp->Prop
def FpOk (X:Cx)(pins:List (Addr × Obj))(H:Hp)(b:Addr):Prop:=
 H b=none/\b≠X.env.locals/\b∉X.fs/\(b∈X.ex\/X.s₀.heap.objs.size<=b)/\(∀ x c,X.env.cells.lookup x=some c->c≠b)/\∀ p∈X.pn++pins,p.1≠b
theorem Inv.fpOk{H':Hp}(I:Inv X pins σ H s)(hb:s.heap.objs.size<=b)(hn:H' b=none):FpOk X pins H' b:=by
 refine⟨hn,Nat.ne_of_gt (Nat.lt_of_lt_of_le I.lt hb),I.nofs hb,.inr (Nat.le_trans I.sz hb),λx c e z=>?_,λp hp z=>?_⟩
 ·obtain⟨v,q⟩:=I.cell x c e
  exact absurd (Nat.lt_of_lt_of_le q.lt (by rw[z];exact hb)) (Nat.lt_irrefl _)
 ·exact absurd (Nat.lt_of_lt_of_le (Heap.lt_size (I.pin p hp).1) (by rw[z];exact hb)) (Nat.lt_irrefl _)
structure Turn (P:Program)(w:World)(K:Fg)(tg:Expr)(J:It)(fp:List Addr)(it:Addr)(tn:Nat->Heap->Prop):Prop where
 mem:it∈fp
 obj:∀ i h,tn i h->∀ b∈fp,∃ o,h.get? b=some o/\∀ v,o.data≠.cell v
 keep:∀ i h h',tn i h->(∀ b∈fp,∀ o,h.get? b=some o->h'.get? b=some o)->tn i h'
 item:∀ (X:Cx),X.prog=P->X.w=w->X.K=K->X.calm=true->∀ (i:Nat) (pins:List (Addr × Obj)) (s:Shared) (σ:St) (H:Hp) (E:Value->Shared->Prop),Inv X pins σ H s->(∀ b∈fp,FpOk X pins H b)->tn i s.heap->J.go i H->
  wpAny (model P w) X.A (pyNext (.ref it)) (λr s1=>∃ u,r=some u/\
   wpAny (model P w) X.A (letOwnedTupleGo tg (.ref it) u) (λ_ s2=>∃ x H',Inv X pins σ H' s2/\RelV x u/\J.yld i H x H'/\tn (i+1) s2.heap/\∀ b∈fp,H' b=none) E s1) E s
 done:∀ (X:Cx),X.prog=P->X.w=w->X.K=K->X.calm=true->∀ (i:Nat) (pins:List (Addr × Obj)) (s:Shared) (σ:St) (H:Hp) (E:Value->Shared->Prop),Inv X pins σ H s->(∀ b∈fp,FpOk X pins H b)->tn i s.heap->J.stop i H->
  wpAny (model P w) X.A (pyNext (.ref it)) (λr s1=>r=none/\Inv X pins σ H s1) E s
 self:∀ (A:Around) (i:Nat) (s:Shared) (Q:Value->Shared->Prop) (E:Value->Shared->Prop),tn i s.heap->Q (.ref it) s->wpAny (model P w) A (pyIter (.ref it)) Q E s
abbrev TI:=St->Hp->(It->Hp->Prop)->Prop
def PIE (X:Cx)(pins:List (Addr × Obj))(σ:St)(tg:Expr)(R:It->Hp->Prop)(itv:Value)(s2:Shared):Prop:=
 ∃ (it:Addr) (fp:List Addr) (tn:Nat->Heap->Prop) (J:It) (H':Hp),itv=.ref it/\Inv X pins σ H' s2/\Turn X.prog X.w X.K tg J fp it tn/\tn 0 s2.heap/\(∀ b∈fp,FpOk X pins H' b)/\R J H'
def PI (X:Cx)(tg iter:Expr)(wi:TI):Prop:=
 ∀ (pins:List (Addr × Obj)) (s:Shared) (σ:St) (H:Hp) (R:It->Hp->Prop),Inv X pins σ H s->wi σ H R->
  wpAny (model X.prog X.w) X.A (eval iter X.env) (λv s1=>wpAny (model X.prog X.w) X.A (pyIter v) (PIE X pins σ tg R) X.xe s1) X.xe s
theorem zpg{o:Obj}{n:String}{vs:Array Value}{Q:Unit->Shared->Prop}(ho:s.heap.get? it=some o)(hc:o.cls=.type n)(hd:o.data=.fields vs)(hn:["enumerate","zip","dict_itemiterator","dict_reverseitemiterator","odict_iterator","itertools.zip_longest","itertools.pairwise"].contains n=false)(hQ:Q () s):wpAny M A (letOwnedTupleGo tg (.ref it) u) Q E s:=by
  unfold letOwnedTupleGo
  cases tg <;> first
    | exact wpAny_pure hQ
    | (cases u <;> first
        | exact wpAny_pure hQ
        | (refine wpAny_bind (wpAny_load ho ?_)
           rw[hc,hd]
           show wpAny M A (if (["enumerate","zip","dict_itemiterator","dict_reverseitemiterator","odict_iterator","itertools.zip_longest","itertools.pairwise"].contains n && vs[0]? == some (rawInt _))=true then _ else _) Q E s
           rw[if_neg (by intro h;rw[hn,Bool.false_and] at h;cases h)]
           exact wpAny_pure hQ))
def Itl (K:Fg)(a:Addr):It:=
 ⟨λi H=>∃ xs x,SqL K H a xs/\xs[i]?=some x,λi H x H'=>H'=H/\∀ xs,SqL K H a xs->xs[i]?=some x,λi H=>∃ xs,SqL K H a xs/\xs.length<=i⟩
def Itt (K:Fg)(a:Addr):It:=
 ⟨λi H=>∃ xs x,SqT K H a xs/\xs[i]?=some x,λi H x H'=>H'=H/\∀ xs,SqT K H a xs->xs[i]?=some x,λi H=>∃ xs,SqT K H a xs/\xs.length<=i⟩
def Itr (lo:Int)(n:Nat):It:=⟨λi _=>i<n,λi H x H'=>H'=H/\x=.int (lo+i),λi _=>n<=i⟩
theorem zl8(a it:Addr):Turn P w K tg (Itl K a) [it] it (λi h=>h.IsListIter it a i) where
 mem:=by simp
 obj:=λi h st b hb=>by
  have e:b=it:=by simpa using hb
  subst e
  obtain⟨o,e,c,d⟩:=st
  exact⟨o,e,λv z=>by rw[d] at z;cases z⟩
 keep:=λi h h' st k=>st.at λo e=>k it (by simp) o e
 item:=by
  intro X hP hw hK hc i pins s σ H E I hf st hg
  subst hP hw hK
  obtain⟨xs,x,hq,hx⟩:=hg
  obtain⟨its,rv,p,hz⟩:=I.list hq
  obtain⟨u,hu,ru⟩:=rv.get hx
  obtain⟨f0,f1,f2,f3,f4,f5⟩:=hf it (by simp)
  refine wpAny_pyNext_list_item st p.isList (x:=u) (by simpa using hu) λh' st' sb=>?_
  have I1:Inv X pins σ H {s with heap:=h'}:=I.turned (t':=s.toks) (λb o hb e=>(sb.2 b hb).trans e) f0 f1 f3 f4 f5
  obtain⟨o,e,c,d⟩:=id st'
  exact⟨u,rfl,zpg (s:={s with heap:=h'}) e c d (by decide) ⟨x,H,I1,ru,⟨rfl,λys hy=>by rw[I.list_inj hy hq];exact hx⟩,st',λb hb=>(hf b hb).1⟩⟩
 done:=by
  intro X hP hw hK hc i pins s σ H E I hf st hg
  subst hP hw hK
  obtain⟨xs,hq,hx⟩:=hg
  obtain⟨its,rv,p,hz⟩:=I.list hq
  obtain⟨f0,f1,f2,f3,f4,f5⟩:=hf it (by simp)
  have hl:=rv.length
  exact wpAny_pyNext_list_end (I.ok.hd hc) st p.isList (by simp;omega) λh' eb=>⟨rfl,I.turned (t':=s.toks) (λb o hb e=>eb b o hb e) f0 f1 f3 f4 f5⟩
 self:=λ_ _ _ _ _ st h=>wpAny_pyIter_listiter st h
theorem zls(a it:Addr):Turn P w K tg (Itt K a) [it] it (λi h=>h.IsTupleIter it a i) where
 mem:=by simp
 obj:=λi h st b hb=>by
  have e:b=it:=by simpa using hb
  subst e
  obtain⟨o,e,c,d⟩:=st
  exact⟨o,e,λv z=>by rw[d] at z;cases z⟩
 keep:=λi h h' st k=>st.at λo e=>k it (by simp) o e
 item:=by
  intro X hP hw hK hc i pins s σ H E I hf st hg
  subst hP hw hK
  obtain⟨xs,x,hq,hx⟩:=hg
  obtain⟨its,rv,p,hz⟩:=I.tuple hq
  obtain⟨u,hu,ru⟩:=rv.get hx
  obtain⟨f0,f1,f2,f3,f4,f5⟩:=hf it (by simp)
  refine wpAny_pyNext_tuple_item st (show s.heap.IsTuple a its.toArray from p) (x:=u) (by simpa using hu) λh' st' sb=>?_
  have I1:Inv X pins σ H {s with heap:=h'}:=I.turned (t':=s.toks) (λb o hb e=>(sb.2 b hb).trans e) f0 f1 f3 f4 f5
  obtain⟨o,e,c,d⟩:=id st'
  exact⟨u,rfl,zpg (s:={s with heap:=h'}) e c d (by decide) ⟨x,H,I1,ru,⟨rfl,λys hy=>by rw[I.tuple_inj hy hq];exact hx⟩,st',λb hb=>(hf b hb).1⟩⟩
 done:=by
  intro X hP hw hK hc i pins s σ H E I hf st hg
  subst hP hw hK
  obtain⟨xs,hq,hx⟩:=hg
  obtain⟨its,rv,p,hz⟩:=I.tuple hq
  obtain⟨f0,f1,f2,f3,f4,f5⟩:=hf it (by simp)
  have hl:=rv.length
  exact wpAny_pyNext_tuple_end (I.ok.hd hc) st (show s.heap.IsTuple a its.toArray from p) (by simp;omega) λh' eb=>⟨rfl,I.turned (t':=s.toks) (λb o hb e=>eb b o hb e) f0 f1 f3 f4 f5⟩
 self:=λ_ _ _ _ _ st h=>wpAny_pyIter_tupleiter st h
theorem zlt(it:Addr)(lo:Int)(n:Nat):Turn P w K tg (Itr lo n) [it] it (λi h=>IsRangeIter h it (lo+(i:Nat) * 1) ((n:Int) - (i:Nat)) 1) where
 mem:=by simp
 obj:=λi h st b hb=>by
  have e:b=it:=by simpa using hb
  subst e
  exact⟨_,st,λv z=>by
   have z':Data.fields _=Data.cell v:=z
   cases z'⟩
 keep:=λi h h' st k=>k it (by simp) _ st
 item:=by
  intro X hP hw hK hc i pins s σ H E I hf st hg
  subst hP hw hK
  obtain⟨f0,f1,f2,f3,f4,f5⟩:=hf it (by simp)
  have W:=Walks.range (prog:=X.prog) (w:=X.w) (I.ok.hd hc) it lo 1 n
  refine W.item i s _ _ hg st λv h' tk hv st' kk=>?_
  obtain⟨t,rfl⟩:=hv
  have I1:Inv X pins σ H {s with heap:=h',toks:=tk}:=I.turned (λb o hb e=>kk b o (by simpa using hb) e) f0 f1 f3 f4 f5
  refine⟨_,rfl,zpg (s:={s with heap:=h',toks:=tk}) (n:="range_iterator") st' rfl rfl (by decide) ⟨.int (lo+i),H,I1,⟨t,?_⟩,⟨rfl,rfl⟩,st',λb hb=>(hf b hb).1⟩⟩
  rw[Int.mul_one]
 done:=by
  intro X hP hw hK hc i pins s σ H E I hf st hg
  subst hP hw hK
  obtain⟨f0,f1,f2,f3,f4,f5⟩:=hf it (by simp)
  exact wpAny_pyNext_range_end (I.ok.hd hc) st (by have:n<=i:=hg;omega) λh' eb=>⟨rfl,I.turned (t':=s.toks) (λb o hb e=>eb b o hb e) f0 f1 f3 f4 f5⟩
 self:=λ_ _ _ _ _ st h=>wpAny_pyIter_rangeiter st h
variable {l:Expr}{tl:TE}{lo:Int}{fp:List Addr}
section
variable {X:Cx}{tg:Expr}
def zph (K:Fg)(tl:TE):TI:=λσ H R=>tl σ H λx H1=>∃ a,x=.ref a/\(∃ xs,SqL K H1 a xs)/\R (Itl K a) H1
def iTup (K:Fg)(tl:TE):TI:=λσ H R=>tl σ H λx H1=>∃ a,x=.ref a/\(∃ xs,SqT K H1 a xs)/\R (Itt K a) H1
theorem zpi(hl:PE X l tl):PI X tg l (zph X.K tl):=by
 intro pins s σ H R I h
 refine thn (hl pins s σ H _ I h) λv s1 ⟨x,H1,I1,r1,q1⟩=>?_
 obtain⟨a,e,⟨xs,hq⟩,q⟩:=q1
 subst e
 cases r1
 obtain⟨its,rv,p,hz⟩:=I1.list hq
 refine wpAny_pyIter_list p.isList ?_
 refine⟨s1.heap.objs.size,[s1.heap.objs.size],_,_,H1,rfl,I1.kept (t':=s1.toks) λb o e=>Heap.get?_push_of_some _ e,zl8 a _,⟨_,Heap.get?_push_size _ rfl,rfl,rfl⟩,λb hb=>?_,q⟩
 have e:b=s1.heap.objs.size:=by simpa using hb
 subst e
 exact I1.fpOk (Nat.le_refl _) (I1.hok.fresh (Nat.le_refl _))
theorem zqA(hl:PE X l tl):PI X tg l (iTup X.K tl):=by
 intro pins s σ H R I h
 refine thn (hl pins s σ H _ I h) λv s1 ⟨x,H1,I1,r1,q1⟩=>?_
 obtain⟨a,e,⟨xs,hq⟩,q⟩:=q1
 subst e
 cases r1
 obtain⟨its,rv,p,hz⟩:=I1.tuple hq
 refine wpAny_pyIter_tuple (show s1.heap.IsTuple a its.toArray from p) ?_
 refine⟨s1.heap.objs.size,[s1.heap.objs.size],_,_,H1,rfl,I1.kept (t':=s1.toks) λb o e=>Heap.get?_push_of_some _ e,zls a _,⟨_,Heap.get?_push_size _ rfl,rfl,rfl⟩,λb hb=>?_,q⟩
 have e:b=s1.heap.objs.size:=by simpa using hb
 subst e
 exact I1.fpOk (Nat.le_refl _) (I1.hok.fresh (Nat.le_refl _))
theorem znI{R:It->Hp->Prop}{hi:Int}{t u v:Tok}{tk:Nat}(I:Inv X pins σ H s)(h1:-(2 ^ 62)<=lo)(h2:lo<2 ^ 62)(h3:-(2 ^ 62)<=hi)(h4:hi<2 ^ 62)(q:R (Itr lo (hi - lo).toNat) H):wpAny (model X.prog X.w) X.A (pyIter (.ref s.heap.objs.size)) (PIE X pins σ tg R) E {s with heap:=s.heap.push {cls:=.type "range",data:=.fields #[.int lo t,.int hi u,.int 1 v]},toks:=tk}:=by
 refine wpAny_pyIter_range (IsRange.new ..) (small_one h1 h2 h3 h4) ?_
 have I1:Inv X pins σ H {s with heap:=s.heap.push {cls:=.type "range",data:=.fields #[.int lo t,.int hi u,.int 1 v]},toks:=tk}:=I.kept λb o e=>Heap.get?_push_of_some _ e
 refine⟨(s.heap.push {cls:=.type "range",data:=.fields #[.int lo t,.int hi u,.int 1 v]}).objs.size,[(s.heap.push {cls:=.type "range",data:=.fields #[.int lo t,.int hi u,.int 1 v]}).objs.size],_,_,H,rfl,
  I1.kept (t':=tk) λb o e=>Heap.get?_push_of_some _ e,zlt _ lo (hi - lo).toNat,?_,λb hb=>?_,q⟩
 ·have e1:lo+((0:Nat):Int) * 1=lo:=by simp
  have e2:(((hi - lo).toNat:Nat):Int) - ((0:Nat):Int)=Builtin.Range.rangeSize lo hi 1:=by rw[rangeSize_one];split <;> omega
  show IsRangeIter _ _ (lo+((0:Nat):Int) * 1) ((((hi - lo).toNat:Nat):Int) - ((0:Nat):Int)) 1
  rw[e1,e2]
  exact Heap.get?_push_size _ rfl
 ·have e:b=(s.heap.push {cls:=.type "range",data:=.fields #[.int lo t,.int hi u,.int 1 v]}).objs.size:=by simpa using hb
  subst e
  exact I1.fpOk (Nat.le_refl _) (I1.hok.fresh (Nat.le_refl _))
def zqB (ta:TA):TI:=λσ H R=>ta σ H λvs H1=>∃ j:Int,vs=[.int j]/\-(2 ^ 62)<=j/\j<2 ^ 62/\R (Itr 0 j.toNat) H1
theorem zej{a:Expr}{ta:TA}{p:Pos}(hg:Gl X "range")(hm:X.mg "range"=none)(ha:PA X [a] ta)(hs:starEach [a] X.env=[(false,eval a X.env)]:=by rfl):PI X tg (.Call (.Name "range" p) [a] [] pos) (zqB ta):=by
 intro pins s σ H R I h
 refine Call_ (zhR I hg hm boot_range (PyProof.Rows.callWith_type1 (thn (ha pos pins s σ H _ I h) λus s1 ⟨vs,H1,I1,r1,q1⟩=>?_) hs rfl))
 obtain⟨j,e,q1,q2,q⟩:=q1
 subst e
 cases r1 with
 | cons r rr=>
  cases rr
  obtain⟨t,rfl⟩:=r
  exact call_range_1 (znI I1 (by omega) (by omega) q1 q2 (by simpa using q))
def tFor (wi:TI)(g:TG)(tb:TS):TS:=λD σ H=>wi σ H λJ H1=>∃ W:Nat->Nat->St->Hp->Prop,(∃ m,W 0 m σ H1)/\∀ i m σ H,W i m σ H->
 (J.stop i H/\D.nx σ H)\/(J.go i H/\∃ N:St->Hp->Prop,(∀ σ' H',N σ' H'->∃ m',m'<m/\W (i+1) m' σ' H')/\∀ x H',J.yld i H x H'->g x σ H' λσ2 H2=>tb {D with nx:=N,ct:=N,bk:=D.nx} σ2 H2)
def ziY (fp:List Addr)(h:Heap):List (Addr × Obj):=fp.filterMap λb=>(h.get? b).map λo=>(b,o)
theorem zeI{h:Heap}{o:Obj}(hb:b∈fp)(e:h.get? b=some o):(b,o)∈ziY fp h:=List.mem_filterMap.mpr ⟨b,hb,by rw[e];rfl⟩
theorem zl9{h:Heap}{p:Addr × Obj}(hp:p∈ziY fp h):p.1∈fp/\h.get? p.1=some p.2:=by
 obtain⟨b,hb,e⟩:=List.mem_filterMap.mp hp
 cases q:h.get? b with
 | none=>rw[q] at e;cases e
 | some o=>
  rw[q] at e
  have e':(b,o)=p:=Option.some.inj e
  subst e'
  exact⟨hb,q⟩
theorem Inv.pinned(I:Inv X pins σ H s)(hf:∀ b∈fp,FpOk X pins H b)(ho:∀ b∈fp,∃ o,s.heap.get? b=some o/\∀ v,o.data≠.cell v):Inv X (pins++ziY fp s.heap) σ H s:=
 I.pins_of λp hp=>(zma.mp hp).elim (λz=>I.pin p (List.mem_append_right _ z)) λz=>by
  obtain⟨hb,e⟩:=zl9 z
  obtain⟨f0,f1,f2,_⟩:=hf p.1 hb
  obtain⟨o,e',d⟩:=ho p.1 hb
  rw[e] at e';cases e'
  exact⟨e,f0,f1,f2,d⟩
theorem Inv.unpinned{pl:List (Addr × Obj)}(I:Inv X (pins++pl) σ H s):Inv X pins σ H s:=I.pins_of λp hp=>I.pin p (List.mem_append_right _ (List.mem_append_left _ hp))
theorem zek{iter:Expr}{wi:TI}(hp:PassesOwn (model X.prog X.w) X.A X.env X.xe)(hc:X.calm=true)(hi:PI X tg iter wi)(hg:PG X tg g)(hb:PSs X body tb)(hs:∀ x,foldedSetIterable iter X.env x=pure x:=by intro _;rfl):PS X (.For tg iter body [] pos) (tFor wi g tb):=by
 intro pins s σ H D I h
 refine wpAny_For (thn (hi pins s σ H _ I h) λv s1 h1=>thn h1 λitv s2 h2=>?_) hs
 obtain⟨it,fp,tn,J,H2,e,I2,T,st2,f2,W,⟨m0,w0⟩,turn⟩:=h2
 subst e
 -- what stays true of the iterator's objects through the loop
 have stat:∀ {H':Hp},(∀ b∈fp,H' b=none)->∀ b∈fp,FpOk X pins H' b:=λhn b hb=>⟨hn b hb,(f2 b hb).2⟩
 refine codeAny_forLoop_any (λn s'=>∃ i σ' H',Inv X pins σ' H' s'/\tn i s'.heap/\(∀ b∈fp,H' b=none)/\W i n σ' H') ?_ m0 ⟨0,σ,H2,I2,st2,λb hb=>(f2 b hb).1,w0⟩
 rintro n s3 ⟨i,σ3,H3,I3,st3,fr3,w3⟩
 rcases turn i n σ3 H3 w3 with ⟨stop,qn⟩ | ⟨go,N,hN,step⟩
 ·refine wpAny_passesOwn hp (thn (T.done X rfl rfl rfl hc i pins s3 σ3 H3 X.xe I3 (stat fr3) st3 stop) λr s4 ⟨hr,I4⟩=>?_)
  subst hr
  exact wpAny_execs_nil ⟨σ3,H3,I4,qn⟩
 ·refine wpAny_passesOwn hp (thn (T.item X rfl rfl rfl hc i pins s3 σ3 H3 X.xe I3 (stat fr3) st3 go) λr s4 ⟨u,hr,h4⟩=>?_)
  subst hr
  refine wpAny_passesOwn hp (thn h4 λ_ s5 ⟨x,H5,I5,r5,y5,st5,fr5⟩=>?_)
  have I5':=I5.pinned (stat fr5) (T.obj _ _ st5)
  refine wpAny_passesOwn hp (thn (hg _ s5 σ3 H5 x u _ I5' r5 (step x H5 y5)) λ_ s6 ⟨σ6,H6,I6,q6⟩=>?_)
  refine wpAny_passesOwn hp (thn (hb _ s6 σ6 H6 _ I6 q6) λf s7 q7=>?_)
  have again:∀ {σ7:St}{H7:Hp},Inv X (pins++ziY fp s5.heap) σ7 H7 s7->N σ7 H7->∃ m,m<n/\∃ i σ' H',Inv X pins σ' H' s7/\tn i s7.heap/\(∀ b∈fp,H' b=none)/\W i m σ' H':=λ{σ7 H7} I7 n7=>by
   obtain⟨m',hm,w7⟩:=hN σ7 H7 n7
   refine⟨m',hm,i+1,σ7,H7,I7.unpinned,T.keep _ _ _ st5 λb hb o e=>(I7.pin (b,o) (List.mem_append_right _ (List.mem_append_right _ (zeI hb e)))).1,λb hb=>?_,w7⟩
   obtain⟨o,e,d⟩:=T.obj _ _ st5 b hb
   exact (I7.pin (b,o) (List.mem_append_right _ (List.mem_append_right _ (zeI hb e)))).2.1
  cases f with
  | next=>obtain⟨σ7,H7,I7,n7⟩:=q7;exact again I7 n7
  | cont=>obtain⟨σ7,H7,I7,n7⟩:=q7;exact again I7 n7
  | brk=>obtain⟨σ7,H7,I7,q7⟩:=q7;exact⟨σ7,H7,I7.unpinned,q7⟩
  | ret v=>obtain⟨x7,σ7,H7,I7,r7,q7⟩:=q7;exact⟨x7,σ7,H7,I7.unpinned,r7,q7⟩
end

theorem znJ{D:Ends}(Pv:Nat->St->Hp->Prop)(h0:Pv 0 σ H)(hl:∀ i σ H,i<=xs.length->Pv i σ H->SqL K H a xs)(hs:∀ i x σ H,xs[i]?=some x->Pv i σ H->g x σ H λσ2 H2=>tb {D with nx:=Pv (i+1),ct:=Pv (i+1),bk:=D.nx} σ2 H2)(hd:∀ σ H,Pv xs.length σ H->D.nx σ H):
  ∃ W:Nat->Nat->St->Hp->Prop,(∃ m,W 0 m σ H)/\∀ i m σ H,W i m σ H->
   ((Itl K a).stop i H/\D.nx σ H)\/((Itl K a).go i H/\∃ N:St->Hp->Prop,(∀ σ' H',N σ' H'->∃ m',m'<m/\W (i+1) m' σ' H')/\∀ x H',(Itl K a).yld i H x H'->g x σ H' λσ2 H2=>tb {D with nx:=N,ct:=N,bk:=D.nx} σ2 H2):=by
 refine⟨λi m σ H=>m=xs.length - i/\i<=xs.length/\Pv i σ H,⟨xs.length,by simp,Nat.zero_le _,h0⟩,?_⟩
 rintro i m σ H ⟨rfl,hi,p⟩
 have q:=hl i σ H hi p
 by_cases hlt:i<xs.length
 ·refine .inr ⟨⟨xs,xs[i],q,by simp[hlt]⟩,Pv (i+1),λσ' H' p'=>⟨xs.length - (i+1),by omega,rfl,hlt,p'⟩,λx H' y=>?_⟩
  obtain⟨e,y⟩:=y
  subst e
  exact hs i x σ _ (y xs q) p
 ·have e:i=xs.length:=by omega
  subst e
  exact .inl ⟨⟨xs,q,Nat.le_refl _⟩,hd σ H p⟩
theorem zmb{D:Ends}(Pv:Nat->St->Hp->Prop)(h0:Pv 0 σ H)(hs:∀ i σ H,i<n->Pv i σ H->g (.int (lo+i)) σ H λσ2 H2=>tb {D with nx:=Pv (i+1),ct:=Pv (i+1),bk:=D.nx} σ2 H2)(hd:∀ σ H,Pv n σ H->D.nx σ H):
  ∃ W:Nat->Nat->St->Hp->Prop,(∃ m,W 0 m σ H)/\∀ i m σ H,W i m σ H->
   ((Itr lo n).stop i H/\D.nx σ H)\/((Itr lo n).go i H/\∃ N:St->Hp->Prop,(∀ σ' H',N σ' H'->∃ m',m'<m/\W (i+1) m' σ' H')/\∀ x H',(Itr lo n).yld i H x H'->g x σ H' λσ2 H2=>tb {D with nx:=N,ct:=N,bk:=D.nx} σ2 H2):=by
 refine⟨λi m σ H=>m=n - i/\i<=n/\Pv i σ H,⟨n,by simp,Nat.zero_le _,h0⟩,?_⟩
 rintro i m σ H ⟨rfl,hi,p⟩
 by_cases hlt:i<n
 ·refine .inr ⟨hlt,Pv (i+1),λσ' H' p'=>⟨n - (i+1),by omega,rfl,hlt,p'⟩,λx H' y=>?_⟩
  obtain⟨e,y⟩:=y
  subst e y
  exact hs i σ _ hlt p
 ·have e:i=n:=by omega
  subst e
  exact .inl ⟨Nat.le_refl _,hd σ H p⟩

abbrev R2:=V->V->Hp->VK->Prop
def OpR (X:Cx)(f:Value->Value->Sem Value)(r:R2):Prop:=
 ∀ (pins:List (Addr × Obj)) (s:Shared) (σ:St) (H:Hp) (x y:V) (v u:Value) (Q:VK),Inv X pins σ H s->RelV x v->RelV y u->r x y H Q->
  wpAny (model X.prog X.w) X.A (f v u) (EP X pins σ Q) X.xe s
def UnR (X:Cx)(f:Value->Sem Value)(r:V->Hp->VK->Prop):Prop:=
 ∀ (pins:List (Addr × Obj)) (s:Shared) (σ:St) (H:Hp) (x:V) (v:Value) (Q:VK),Inv X pins σ H s->RelV x v->r x H Q->
  wpAny (model X.prog X.w) X.A (f v) (EP X pins σ Q) X.xe s
def zcd (X:Cx)(f:Value)(r:List V->Hp->VK->Prop):Prop:=
 ∀ (pins:List (Addr × Obj)) (s:Shared) (σ:St) (H:Hp) (xs:List V) (us:List Value) (Q:VK),Inv X pins σ H s->Vals xs us->r xs H Q->
  wpAny (model X.prog X.w) X.A (call f us) (EP X pins σ Q) X.xe s
def TruR (X:Cx)(r:V->Hp->(Bool->Hp->Prop)->Prop):Prop:=
 ∀ (pins:List (Addr × Obj)) (s:Shared) (σ:St) (H:Hp) (x:V) (v:Value) (Q:Bool->Hp->Prop),Inv X pins σ H s->RelV x v->r x H Q->
  wpAny (model X.prog X.w) X.A (truthy v) (TP X pins σ Q) X.xe s
def tOp (r:R2)(ta tb:TE):TE:=λσ H Q=>ta σ H λx H1=>tb σ H1 λy H2=>r x y H2 Q
def tUn (r:V->Hp->VK->Prop)(ta:TE):TE:=λσ H Q=>ta σ H λx H1=>r x H1 Q
def rI (C:Int->Int->Prop)(g:Int->Int->V):R2:=λx y H Q=>∃ i j,x=.int i/\y=.int j/\C i j/\Q (g i j) H
def rI0 (g:Int->Int->V):R2:=λx y H Q=>∃ i j,x=.int i/\y=.int j/\Q (g i j) H
def rU (g:Int->V):V->Hp->VK->Prop:=λx H Q=>∃ i,x=.int i/\Q (g i) H
variable {f:Value->Value->Sem Value}{r:R2}
section
variable {X:Cx}{a b c:Expr}{ta tb tc:TE}{pos:Pos}

theorem binT(ha:PE X a ta)(hb:PE X b tb)(I:Inv X pins σ H s)(h:ta σ H λx H1=>tb σ H1 λy H2=>R x y H2)(hf:∀ v u s2 x y H2,Inv X pins σ H2 s2->RelV x v->RelV y u->R x y H2->wpAny (model X.prog X.w) X.A (f v u) Q X.xe s2):
  wpAny (model X.prog X.w) X.A (eval a X.env) (λv s₁=>wpAny (model X.prog X.w) X.A (eval b X.env) (λu s₂=>wpAny (model X.prog X.w) X.A (f v u) Q X.xe s₂) X.xe s₁) X.xe s:=by
 refine thn (ha pins s σ H _ I h) λv s1 ⟨x,H1,I1,r1,q1⟩=>?_
 refine thn (hb pins s1 σ H1 _ I1 q1) λu s2 ⟨y,H2,I2,r2,q2⟩=>?_
 exact hf v u s2 x y H2 I2 r1 r2 q2
theorem zaW{op:Operator}(ho:OpR X (binaryOp op) r)(ha:PE X a ta)(hb:PE X b tb):PE X (.BinOp a op b pos) (tOp r ta tb):=by
 intro pins s σ H Q I h
 exact wpAny_BinOp (binT ha hb I h λv u s2 x y H2 I2 rx ry q=>ho pins s2 σ H2 x y v u Q I2 rx ry q)
theorem zde {op:UnaryOp}{r:V->Hp->VK->Prop}(ho:UnR X (unaryOp op) r)(ha:PE X a ta):PE X (.UnaryOp op a pos) (tUn r ta):=by
 intro pins s σ H Q I h
 exact UnaryOp_ (thn (ha pins s σ H _ I h) λv s1 ⟨x,H1,I1,r1,q1⟩=>ho pins s1 σ H1 x v Q I1 r1 q1)
variable {g:Int->Int->Int}
theorem opI{C:Int->Int->Prop}(rule:∀ (i j:Int) (t u:Tok) (s:Shared) (Q:Value->Shared->Prop) (E:Value->Shared->Prop),C i j->Q (.int (g i j) s.toks) {s with toks:=s.toks+1}->wpAny (model X.prog X.w) X.A (f (.int i t) (.int j u)) Q E s):
  OpR X f (rI C λi j=>.int (g i j)):=by
 intro pins s σ H x y v u Q I rx ry h
 obtain⟨i,j,rfl,rfl,hc,q⟩:=h
 obtain⟨t,rfl⟩:=rx
 obtain⟨t',rfl⟩:=ry
 exact rule i j t t' s _ _ hc ⟨.int (g i j),H,I.tok _,⟨_,rfl⟩,q⟩
theorem opI0(rule:∀ (i j:Int) (t u:Tok) (s:Shared) (Q:Value->Shared->Prop) (E:Value->Shared->Prop),Q (.int (g i j) s.toks) {s with toks:=s.toks+1}->wpAny (model X.prog X.w) X.A (f (.int i t) (.int j u)) Q E s):
  OpR X f (rI0 λi j=>.int (g i j)):=by
 intro pins s σ H x y v u Q I rx ry h
 obtain⟨i,j,rfl,rfl,q⟩:=h
 obtain⟨t,rfl⟩:=rx
 obtain⟨t',rfl⟩:=ry
 exact rule i j t t' s _ _ ⟨.int (g i j),H,I.tok _,⟨_,rfl⟩,q⟩
theorem opB0{g:Int->Int->Bool}(rule:∀ (i j:Int) (t u:Tok) (s:Shared) (Q:Value->Shared->Prop) (E:Value->Shared->Prop),Q (.bool (g i j)) s->wpAny (model X.prog X.w) X.A (f (.int i t) (.int j u)) Q E s):
  OpR X f (rI0 λi j=>.bl (g i j)):=by
 intro pins s σ H x y v u Q I rx ry h
 obtain⟨i,j,rfl,rfl,q⟩:=h
 obtain⟨t,rfl⟩:=rx
 obtain⟨t',rfl⟩:=ry
 exact rule i j t t' s _ _ ⟨.bl (g i j),H,I,rfl,q⟩
def CDiv (i j:Int):Prop:=0<j/\j<1073741824
def CPow (i j:Int):Prop:=0<=j/\j<=1000000/\i.natAbs<2 ^ 64
def CMul (i j:Int):Prop:=(-(2 ^ 64)<i/\i<2 ^ 64)\/(-(2 ^ 64)<j/\j<2 ^ 64)
theorem CMul.ok {i j:Int}(h:CMul i j):IntMulOk i j:=by
 rcases h with ⟨h1,h2⟩ | ⟨h1,h2⟩
 ·exact .of_left (intBits_le_64 h1 h2)
 ·exact .of_right (intBits_le_64 h1 h2)
theorem zqC:OpR X (binaryOp .Add) (rI0 λi j=>.int (i+j)):=opI0 λ_ _ _ _ _ _ _ q=>add_int q
theorem zkT:OpR X (binaryOp .Sub) (rI0 λi j=>.int (i - j)):=opI0 λ_ _ _ _ _ _ _ q=>sub_int q
theorem zqD:OpR X (binaryOp .Mult) (rI CMul λi j=>.int (i * j)):=opI λ_ _ _ _ _ _ _ hc q=>mul_int q hc.ok
theorem zpj:OpR X (binaryOp .FloorDiv) (rI CDiv λi j=>.int (i / j)):=opI λi j _ _ _ _ _ hc q=>by
 have h1:(0:Int)<j:=hc.1
 have h2:j<1073741824:=hc.2
 exact floordiv_int (by omega) (by rw[Int.fdiv_eq_ediv_of_nonneg i (by omega)];exact q) (.inl (PyProof.noPylong_small (by omega)))
theorem zfg:OpR X (binaryOp .Mod) (rI (λ_ j=>0<j) λi j=>.int (i % j)):=opI λi j _ _ _ _ _ hc q=>by
 have h1:(0:Int)<j:=hc
 exact mod_int' (by omega) (by rw[Int.fmod_eq_emod_of_nonneg i (by omega)];exact q)
theorem zoL:OpR X (binaryOp .Pow) (rI CPow λi j=>.int (i ^ j.toNat)):=opI λ_ _ _ _ _ _ _ hc q=>pow_int_small hc.1 hc.2.1 hc.2.2 q
theorem unI {f:Value->Sem Value}{g:Int->Int}
  (rule:∀ (i:Int) (t:Tok) (s:Shared) (Q:Value->Shared->Prop) (E:Value->Shared->Prop),Q (.int (g i) s.toks) {s with toks:=s.toks+1}->wpAny (model X.prog X.w) X.A (f (.int i t)) Q E s) :
  UnR X f (rU λi=>.int (g i)):=by
 intro pins s σ H x v Q I rx h
 obtain⟨i,rfl,q⟩:=h
 obtain⟨t,rfl⟩:=rx
 exact rule i t s _ _ ⟨.int (g i),H,I.tok _,⟨_,rfl⟩,q⟩
theorem zbP:UnR X (unaryOp .USub) (rU λi=>.int (-i)):=unI λ_ _ _ _ _ q=>neg_int q
end

def scal:V->V->Bool
 | .non,.non=>true | .non,.int _=>true | .int _,.non=>true | .non,.bl _=>true | .bl _,.non=>true | .non,.str _=>true | .str _,.non=>true
 | .int _,.int _=>true | .bl _,.bl _=>true | .str _,.str _=>true | .byt _,.byt _=>true
 | .int _,.str _=>true | .str _,.int _=>true | .bl _,.str _=>true | .str _,.bl _=>true
 | _,_=>false
def rEq:R2:=λx y H Q=>scal x y=true/\Q (.bl (decide (x=y))) H
def rNe:R2:=λx y H Q=>scal x y=true/\Q (.bl (!decide (x=y))) H
theorem zmd {i j:Int} : decide (V.int i=V.int j)=(i == j):=by
 rw[Bool.eq_iff_iff]
 simp
theorem zoM {i j:Bool} : decide (V.bl i=V.bl j)=(i == j):=by
 rw[Bool.eq_iff_iff]
 simp
theorem zmf {i j:Str} : decide (V.str i=V.str j)=(i == j):=by
 rw[Bool.eq_iff_iff]
 simp
theorem zmh {i j:Array UInt8} : decide (V.byt i=V.byt j)=(i.toList == j.toList):=by
 rw[Bool.eq_iff_iff]
 cases i
 cases j
 simp
variable {r':R2}{op':CmpOp}
section
variable {X:Cx}{a b c:Expr}{ta tb tc:TE}{pos:Pos}
theorem zbb{Q:VK}{k k':Bool}(I:Inv X pins σ H s)(q:Q (.bl k) H)(e:k=k'):EP X pins σ Q (.bool k') s:=by
 subst e
 exact⟨.bl k,H,I,rfl,q⟩
theorem op_eq:OpR X (compareOp .Eq) rEq:=by
 intro pins s σ H x y v u Q I rx ry h
 obtain⟨hs,q⟩:=h
 cases x with
 | non=>
  cases rx
  cases y with
  | non=>cases ry;exact PySem.EqNone.eq_none_none (zbb I q (by simp))
  | bl j=>cases ry;exact PySem.EqNone.eq_none_bool (zbb I q (by simp))
  | int j=>obtain⟨t',rfl⟩:=ry;exact PySem.EqNone.eq_none_int (zbb I q (by simp))
  | str j=>obtain⟨t',rfl⟩:=ry;exact PySem.EqNone.eq_none_str (zbb I q (by simp))
  | _=>exact absurd (show false=true from hs) Bool.false_ne_true
 | bl i=>
  cases rx
  cases y with
  | non=>cases ry;exact PySem.EqNone.eq_bool_none (zbb I q (by simp))
  | bl j=>cases ry;exact eq_bool (zbb I q zoM)
  | str j=>obtain⟨t',rfl⟩:=ry;exact PySem.EqMixed.eq_bool_str (zbb I q (by simp))
  | _=>exact absurd (show false=true from hs) Bool.false_ne_true
 | int i=>
  obtain⟨t,rfl⟩:=rx
  cases y with
  | non=>cases ry;exact PySem.EqNone.eq_int_none (zbb I q (by simp))
  | int j=>obtain⟨t',rfl⟩:=ry;exact eq_int (zbb I q zmd)
  | str j=>obtain⟨t',rfl⟩:=ry;exact PySem.EqMixed.eq_int_str (zbb I q (by simp))
  | _=>exact absurd (show false=true from hs) Bool.false_ne_true
 | str i=>
  obtain⟨t,rfl⟩:=rx
  cases y with
  | non=>cases ry;exact PySem.EqNone.eq_str_none (zbb I q (by simp))
  | bl j=>cases ry;exact PySem.EqMixed.eq_str_bool (zbb I q (by simp))
  | int j=>obtain⟨t',rfl⟩:=ry;exact PySem.EqMixed.eq_str_int (zbb I q (by simp))
  | str j=>obtain⟨t',rfl⟩:=ry;exact eq_str (zbb I q zmf)
  | _=>exact absurd (show false=true from hs) Bool.false_ne_true
 | byt i=>
  obtain⟨t,rfl⟩:=rx
  cases y with
  | byt j=>obtain⟨t',rfl⟩:=ry;exact PySem.W.eq_bytes (zbb I q zmh)
  | _=>exact absurd (show false=true from hs) Bool.false_ne_true
 | _=>cases y <;> exact absurd (show false=true from hs) Bool.false_ne_true
theorem zqE:OpR X (compareOp .NotEq) rNe:=by
 intro pins s σ H x y v u Q I rx ry h
 obtain⟨hs,q⟩:=h
 cases x with
 | non=>
  cases rx
  cases y with
  | non=>cases ry;exact PySem.EqNone.ne_none_none (zbb I q (by simp))
  | bl j=>cases ry;exact PySem.EqNone.ne_none_bool (zbb I q (by simp))
  | int j=>obtain⟨t',rfl⟩:=ry;exact PySem.EqNone.ne_none_int (zbb I q (by simp))
  | str j=>obtain⟨t',rfl⟩:=ry;exact PySem.EqNone.ne_none_str (zbb I q (by simp))
  | _=>exact absurd (show false=true from hs) Bool.false_ne_true
 | bl i=>
  cases rx
  cases y with
  | non=>cases ry;exact PySem.EqNone.ne_bool_none (zbb I q (by simp))
  | bl j=>cases ry;exact ne_bool (zbb I q (congrArg not zoM))
  | str j=>obtain⟨t',rfl⟩:=ry;exact PySem.EqMixed.ne_bool_str (zbb I q (by simp))
  | _=>exact absurd (show false=true from hs) Bool.false_ne_true
 | int i=>
  obtain⟨t,rfl⟩:=rx
  cases y with
  | non=>cases ry;exact PySem.EqNone.ne_int_none (zbb I q (by simp))
  | int j=>obtain⟨t',rfl⟩:=ry;exact ne_int (zbb I q (congrArg not zmd))
  | str j=>obtain⟨t',rfl⟩:=ry;exact PySem.EqMixed.ne_int_str (zbb I q (by simp))
  | _=>exact absurd (show false=true from hs) Bool.false_ne_true
 | str i=>
  obtain⟨t,rfl⟩:=rx
  cases y with
  | non=>cases ry;exact PySem.EqNone.ne_str_none (zbb I q (by simp))
  | bl j=>cases ry;exact PySem.EqMixed.ne_str_bool (zbb I q (by simp))
  | int j=>obtain⟨t',rfl⟩:=ry;exact PySem.EqMixed.ne_str_int (zbb I q (by simp))
  | str j=>obtain⟨t',rfl⟩:=ry;exact ne_str (zbb I q (congrArg not zmf))
  | _=>exact absurd (show false=true from hs) Bool.false_ne_true
 | byt i=>
  obtain⟨t,rfl⟩:=rx
  cases y with
  | byt j=>obtain⟨t',rfl⟩:=ry;exact PySem.W.ne_bytes (zbb I q (congrArg not zmh))
  | _=>exact absurd (show false=true from hs) Bool.false_ne_true
 | _=>cases y <;> exact absurd (show false=true from hs) Bool.false_ne_true
theorem zmi:OpR X (compareOp .Lt) (rI0 λi j=>.bl (decide (i<j))):=opB0 λ_ _ _ _ _ _ _ q=>lt_int q
theorem zlu:OpR X (compareOp .LtE) (rI0 λi j=>.bl (decide (i<=j))):=opB0 λ_ _ _ _ _ _ _ q=>le_int q
theorem zpk:OpR X (compareOp .Gt) (rI0 λi j=>.bl (decide (j<i))):=opB0 λ_ _ _ _ _ _ _ q=>gt_int q
theorem zqF:OpR X (compareOp .GtE) (rI0 λi j=>.bl (decide (j<=i))):=opB0 λ_ _ _ _ _ _ _ q=>ge_int q
theorem zgE:OpR X (compareOp .Is) (λx y H Q=>y=.non/\Q (.bl (decide (x=.non))) H):=by
 intro pins s σ H x y v u Q I rx ry h
 obtain⟨rfl,q⟩:=h
 cases ry
 refine is_none_gen (zbb I q ?_)
 cases x <;> first
  | (cases rx;rfl)
  | (obtain⟨t,rfl⟩:=rx;rfl)
theorem zj4:OpR X (compareOp .IsNot) (λx y H Q=>y=.non/\Q (.bl (!decide (x=.non))) H):=by
 intro pins s σ H x y v u Q I rx ry h
 obtain⟨rfl,q⟩:=h
 cases ry
 refine isnot_none_gen (zbb I q ?_)
 cases x <;> first
  | (cases rx;rfl)
  | (obtain⟨t,rfl⟩:=rx;rfl)
theorem OpR.or(h:OpR X f r)(h':OpR X f r'):OpR X f (λx y H Q=>r x y H Q\/r' x y H Q):=by
 intro pins s σ H x y v u Q I rx ry q
 rcases q with q | q
 ·exact h pins s σ H x y v u Q I rx ry q
 ·exact h' pins s σ H x y v u Q I rx ry q
theorem zaw(b:Expr)(h:op≠.In:=by decide)(h2:op≠.NotIn:=by decide):behindInMarks op b=false:=by
 have e1:(op == CmpOp.In)=false:=by cases op <;> first | rfl | exact absurd rfl h
 have e2:(op == CmpOp.NotIn)=false:=by cases op <;> first | rfl | exact absurd rfl h2
 cases b <;> simp[behindInMarks,e1,e2]
theorem zbt(ho:OpR X (compareOp op) r)(ha:PE X a ta)(hb:PE X b tb)(hm:behindInMarks op b=false):PE X (.Compare a [op] [b] pos) (tOp r ta tb):=by
 intro pins s σ H Q I h
 exact wpAny_Compare1 (binT ha hb I h λv u s2 x y H2 I2 rx ry q=>ho pins s2 σ H2 x y v u Q I2 rx ry q) hm
def zpl (t:TE):TT:=λσ H Q=>t σ H λx H'=>∃ k,x=.bl k/\Q k H'
theorem zaA(ho:OpR X (compareOp op) r)(ha:PE X a ta)(hb:PE X b tb)(hm:behindInMarks op b=false):PT X (.Compare a [op] [b] pos) (zpl (tOp r ta tb)):=by
 intro pins s σ H Q I h
 refine wpAny_isTrue_Compare1 (thn (ha pins s σ H _ I h) λv s1 ⟨x,H1,I1,r1,q1⟩=>thn (hb pins s1 σ H1 _ I1 q1) λu s2 ⟨y,H2,I2,r2,q2⟩=>
  thn (ho pins s2 σ H2 x y v u _ I2 r1 r2 q2) λc s3 ⟨z,H3,I3,r3,k,e,q3⟩=>?_) hm
 subst e
 cases r3
 exact wpAny_truthy_bool ⟨H3,I3,q3⟩
def zmj (r r':R2)(ta tb tc:TE):TE:=λσ H Q=>ta σ H λx H1=>tb σ H1 λy H2=>r x y H2 λz H3=>∃ k,z=.bl k/\
 (if k=true then tc σ H3 λw' H4=>r' y w' H4 Q else Q (.bl false) H3)
theorem znK(ho:OpR X (compareOp op) r)(ho':OpR X (compareOp op') r')(ha:PE X a ta)(hb:PE X b tb)(hc:PE X c tc)(hm:lastMarks [op,op'] [b,c]=false:=by with_unfolding_all rfl):PE X (.Compare a [op,op'] [b,c] pos) (zmj r r' ta tb tc):=by
 intro pins s σ H Q I h
 refine Compare_chain (thn (ha pins s σ H _ I h) λv s1 ⟨x,H1,I1,r1,q1⟩=>chain_link (thn (hb pins s1 σ H1 _ I1 q1) λu s2 ⟨y,H2,I2,r2,q2⟩=>
  thn (ho pins s2 σ H2 x y v u _ I2 r1 r2 q2) λd s3 ⟨z,H3,I3,r3,k,e,q3⟩=>?_)) hm
 subst e
 cases r3
 refine wpAny_truthy_bool ?_
 cases k with
 | false=>exact ite_ff ⟨.bl false,H3,I3,rfl,q3⟩
 | true=>exact ite_tt (chain_last (thn (hc pins s3 σ H3 _ I3 q3) λw' s4 ⟨z',H4,I4,r4,q4⟩=>ho' pins s4 σ H4 y z' u w' Q I4 r2 r4 q4))
theorem znL(ho:OpR X (compareOp op) r)(ho':OpR X (compareOp op') r')(ha:PE X a ta)(hb:PE X b tb)(hc:PE X c tc)(hm:lastMarks [op,op'] [b,c]=false:=by with_unfolding_all rfl):PT X (.Compare a [op,op'] [b,c] pos) (zpl (zmj r r' ta tb tc)):=by
 intro pins s σ H Q I h
 refine isTrue_chain (thn (ha pins s σ H _ I h) λv s1 ⟨x,H1,I1,r1,q1⟩=>test_link (thn (hb pins s1 σ H1 _ I1 q1) λu s2 ⟨y,H2,I2,r2,q2⟩=>
  thn (ho pins s2 σ H2 x y v u _ I2 r1 r2 q2) λd s3 ⟨z,H3,I3,r3,k,e,q3⟩=>?_)) hm
 subst e
 cases r3
 refine wpAny_truthy_bool ?_
 cases k with
 | false=>
  obtain⟨k',e',q'⟩:=q3
  cases e'
  exact ite_ff ⟨H3,I3,q'⟩
 | true=>
  refine ite_tt (test_last (thn (hc pins s3 σ H3 _ I3 q3) λw' s4 ⟨z',H4,I4,r4,q4⟩=>thn (ho' pins s4 σ H4 y z' u w' _ I4 r2 r4 q4) λd' s5 ⟨z2,H5,I5,r5,k2,e2,q5⟩=>?_))
  subst e2
  cases r5
  exact wpAny_truthy_bool ⟨H5,I5,q5⟩
def TruV (K:Fg)(x:V)(H:Hp)(k:Bool):Prop:=
 match x with
 | .non=>k=false
 | .bl b=>k=b
 | .int i=>k=(i != 0)
 | .str y=>y.length<=sizeLine/\k=((y.length:Int) != 0)
 | .byt y=>y.size<=sizeLine/\k=((y.size:Int) != 0)
 | .ref p=>(∃ xs,SqL K H p xs/\k=!xs.isEmpty)\/(∃ xs,SqT K H p xs/\k=!xs.isEmpty)\/∃ kvs,H p=some (.dK kvs)/\k=!kvs.isEmpty
 | _=>False
theorem zlv {κ:Type}{kvs:List (κ × V)}{vs:List (κ × Value)}(r:KV kvs vs):(!vs.isEmpty)=!kvs.isEmpty:=by
 cases r <;> rfl
theorem zhT{its:List Value}(r:Vals xs its):(!its.toArray.isEmpty)=!xs.isEmpty:=by
 cases r <;> simp
theorem zhU:(sizeLine:Nat)<2 ^ 63:=by rw[sizeLine_eq];decide
theorem zqG:TruR X (λx H Q=>∃ k,TruV X.K x H k/\Q k H):=by
 intro pins s σ H x v Q I rx h
 obtain⟨k,e,q⟩:=h
 have hl:=zhU
 have hs:sizeLine=16777216:=sizeLine_eq
 cases x with
 | non=>
  cases rx
  have e':k=false:=e
  subst e'
  exact truthy_none ⟨H,I,q⟩
 | bl b=>
  cases rx
  have e':k=b:=e
  subst e'
  exact wpAny_truthy_bool ⟨H,I,q⟩
 | int i=>
  obtain⟨t,rfl⟩:=rx
  have e':k=(i != 0):=e
  subst e'
  exact PySem.P.truthy_int ⟨H,I,q⟩
 | str y=>
  obtain⟨t,rfl⟩:=rx
  obtain⟨hy,e'⟩:y.length<=sizeLine/\k=((y.length:Int) != 0):=e
  subst e'
  exact PySem.P.truthy_str (by omega) ⟨H,I.tok _,q⟩
 | byt y=>
  obtain⟨t,rfl⟩:=rx
  obtain⟨hy,e'⟩:y.size<=sizeLine/\k=((y.size:Int) != 0):=e
  subst e'
  exact PySem.W.truthy_bytes (by omega) ⟨H,I.tok _,q⟩
 | ref p=>
  cases rx
  have e':(∃ xs,SqL X.K H p xs/\k=!xs.isEmpty)\/(∃ xs,SqT X.K H p xs/\k=!xs.isEmpty)\/∃ kvs,H p=some (.dK kvs)/\k=!kvs.isEmpty:=e
  rcases e' with ⟨xs,hx,e'⟩ | ⟨xs,hx,e'⟩ | ⟨kvs,hx,e'⟩
  ·subst e'
   obtain⟨its,r,pl,hz⟩:=I.list hx
   have hlen:=r.length
   exact wpAny_truthy_list pl.isList (by simp only[zst];omega) ⟨H,I.tok _,by rw[zhT r];exact q⟩
  ·subst e'
   obtain⟨its,r,pl,hz⟩:=I.tuple hx
   have hlen:=r.length
   exact truthy_tuple pl (by simp only[zst];omega) ⟨H,I.tok _,by rw[zhT r];exact q⟩
  ·subst e'
   obtain⟨hz,hS,vs,r,m⟩:kvs.length<=sizeLine/\(p == sysModules)=false/\∃ vs,KV kvs vs/\s.heap.DictOf (zbg X.prog X.w) p vs:=I.hok p _ hx
   have hlen:kvs.length=vs.length:=Paired.length r
   exact wpAny_truthy_dict hS m (by omega) ⟨H,I.tok _,by rw[zlv r];exact q⟩
 | _=>exact (show False from e).elim
theorem znM (ha:PE X a ta)(he:∀ whole,isTrue a X.env whole=(do let v <-whole;standAt a.pos;holding [v] (truthy v))) :
  PT X a (λσ H Q=>ta σ H λx H'=>∃ k,TruV X.K x H' k/\Q k H'):=by
 intro pins s σ H Q I h
 exact isTrue_plain (thn (ha pins s σ H _ I h) λv s1 ⟨x,H1,I1,r1,q1⟩=>zqG pins s1 σ H1 x v Q I1 r1 q1) (he _)
variable {x:V}
theorem zik(r:Vals [x] us):∃ u,us=[u]/\RelV x u:=by
 cases r with
 | cons r1 r2=>cases r2;exact⟨_,rfl,r1⟩
theorem znN(r:Vals [x,y] us):∃ u w',us=[u,w']/\RelV x u/\RelV y w':=by
 cases r with
 | cons r1 r2=>
  cases r2 with
  | cons r3 r4=>cases r4;exact⟨_,_,rfl,r1,r3⟩
theorem zmk (hc:X.calm=true):zcd X (.builtin "min") (λxs H Q=>∃ i j,xs=[.int i,.int j]/\Q (.int (if j<i then j else i)) H):=by
 intro pins s σ H xs us Q I r h
 obtain⟨i,j,rfl,q⟩:=h
 obtain⟨u,w',rfl,⟨t,rfl⟩,⟨t',rfl⟩⟩:=znN r
 refine min_two_ints (I.ok.hd hc) λh' tk k=>⟨_,H,I.kept k,?_,q⟩
 by_cases hj:j<i
 ·rw[if_pos hj,if_pos hj];exact⟨_,rfl⟩
 ·rw[if_neg hj,if_neg hj];exact⟨_,rfl⟩
end

structure ObjM (h:Heap)(x dx C:Addr)(mA:Str->Option Value):Prop where
 obj:h.get? x=some (PySem.W.instObj C dx)
 ns:h.Ns1 dx mA
 ne:dx≠x
variable {dx:Addr}{mA:Str->Option Value}
theorem zml{h:Heap}(n:h.Ns1 dx mA):∃ od,h.get? dx=some od/\∀ name,PySem.W.lookIn name od=some (mA name):=by
 obtain⟨o,es,ep,ho,hd,hk,_,hm⟩:=n
 refine⟨o,ho,λname=>?_⟩
 have e:=hm name
 unfold nsFind findBy at e
 rw[<-Array.find?_toList] at e
 unfold PySem.W.lookIn
 rw[hd]
 dsimp only
 split
 ·rename_i y q
  rw[q] at e
  exact congrArg some e
 ·rename_i q
  rw[q] at e
  have a:es.toList.any (·.refKey)=false:=by
   rw[List.any_eq_false]
   intro y hy
   obtain⟨z,t,hkey⟩:=hk y (Array.mem_toList_iff.mp hy)
   simp[DictEntry.refKey,hkey]
  have a':¬ es.toList.any (·.refKey)=true:=by rw[a];exact Bool.false_ne_true
  rw[if_neg a']
  exact congrArg some e
variable {C:Addr}
theorem ObjM.look{h:Heap}{x:Addr}(I:ObjM h x dx C mA):∃ od,PySem.W.InstAt h x (PySem.W.instObj C dx) C (some od)/\∀ name,PySem.W.lookIn name od=some (mA name):=
 let ⟨od,ho,hl⟩:=zml I.ns
 ⟨od,⟨I.obj,rfl,rfl,ho⟩,hl⟩
variable {pl:Sem Bool}{kw:List (Str × Value)}
section
variable {prog:Program}{w:World}{A:Around}{E:Value->Shared->Prop}{s:Shared}{K:Fg}{x dx C f:Addr}{mA:Str->Option Value}{name:Str}{v:Value}

theorem zpm{expr:Bool}(X:K.In s.heap)(I:ObjM s.heap x dx C mA)(hg:PySem.W.plainGet K C name=true)(hh:PySem.W.hasDictIn K C=true)(ha:PySem.W.findIn K (.ref C) name=some none)(hv:mA name=some v)(hv':PySem.W.handedIn v=true)(h:Q v {s with toks:=s.toks+1}):
  wpAny (model prog w) A (getAttr (.ref x) name expr) Q E s:=by
 obtain⟨od,J,hl⟩:=I.look
 exact PySem.W.get_value X J (PySem.W.plainGet_of hg).1 (PySem.W.findObj_own hh ha rfl (by rw[hl,hv])) hv' h
theorem znO{Q:Value × List Value->Shared->Prop}(X:K.In s.heap)(I:ObjM s.heap x dx C mA)(hg:PySem.W.plainGet K C name=true)(hf:PySem.W.findIn K (.ref C) name=some (some (.ref f)))(ht:PySem.W.isFn K (.ref f)=true)(hv:mA name=none)(h:Q (.ref f,[.ref x]) s):
  wpAny (model prog w) A (getMethod (.ref x) name pl) Q E s:=by
 obtain⟨od,J,hl⟩:=I.look
 exact PySem.W.method_fn X J (PySem.W.plainGet_of hg).1 (PySem.W.plainGet_of hg).2 hf (beq_iff_eq.mp ht) (by show (PySem.W.lookIn name od).map (·.isSome)=some false;rw[hl,hv];rfl) h
theorem zpn {ns:List Str}{Q:Unit->Shared->Prop}(X:K.In s.heap)(I:ObjM s.heap x dx C mA)
  (hs:PySem.W.findIn K (.ref C) "__setattr__"=some (some (.builtin "object.__setattr__"))) (hp:PySem.W.plainOver K C=true) (ht:PySem.W.takerIn K C name=some none) (hh:PySem.W.hasDictIn K C=true)
  (hw:PySem.Within mA ns) (hsz:ns.length<=sizeLine)
  (h:∀ h',ObjM h' x dx C (λy=>if y=name then some v else mA y)->Heap.SameBut dx s.heap h'->Q () {s with heap:=h',toks:=s.toks+2}) :
  wpAny (model prog w) A (setAttr (.ref x) name v) Q E s:=by
 obtain⟨od,J,hl⟩:=I.look
 refine PySem.W.set_plain X J hs (PySem.W.osa_open (s:={s with toks:=s.toks+1}) (r:=none) X J hp ht λb=>?_)
 obtain⟨cd,hc,hd'⟩:=PySem.W.any_some hh
 have hx:s.heap.get? x=some ⟨.ref C,some dx,.plain,#[]⟩:=I.obj
 refine wpAny_bind (wpAny_pure (wpAny_bind (wpAny_bind (wpAny_loadPart hx (wpAny_bind (PySem.W.Looks.here (s:={s with toks:=s.toks+1}) (PySem.W.looks_clsIn X hc) ?_))))))
 rw[hd']
 refine wpAny_pure (a:=some dx) (wpAny_bind (wpAny_pure (wpAny_bind ?_)))
 refine wpAny_nsSet1 (s:={s with toks:=s.toks+1}) I.ns λh' hn2 hs2=>?_
 obtain⟨oD,esD,epD,hoD,hdD,hcD⟩:=hn2.count (PySem.Within.cons name v hw)
 refine wpAny_bind (wpAny_lookBehind hoD (by rw[hdD];exact pastItsLine_dict (Nat.le_trans hcD (by rw[List.length_cons];omega))) ?_)
 exact wpAny_pure (h _ ⟨(hs2.2 _ (Ne.symm I.ne)).trans I.obj,hn2,I.ne⟩ hs2)
theorem zkU{R:Result->Shared->Prop}{vs:List Value}(X:K.In s.heap)(hm:PySem.W.makesIn K C=true)(hi:PySem.W.findIn K (.ref C) "__init__"=some (some (.ref f)))(hf:PySem.W.typeIn K (.ref f)=some (.type "function"))(h:codeAny (model prog w) (A.under (.builtin "type.__call__" ⟨.ref C::vs,kw⟩)) (.call (.ref f) ⟨.ref (s.heap.objs.size+1)::vs,kw⟩) (PySem.W.InitBack (s.heap.objs.size+1) R)
   {s with heap:=(s.heap.push PySem.W.emptyDict).push (PySem.W.instObj C s.heap.objs.size)}):
  codeAny (model prog w) A (.call (.ref C) ⟨vs,kw⟩) R s:=by
 obtain⟨hh,g,d,t,os⟩:=s
 exact PySem.W.make_core (PySem.W.makes_of X hm) (PySem.W.looks_findIn X hi) (λself=>PySem.W.bind_fn X self hf) (.inl rfl) h
end

def putF (f:Str)(v:V):List (Str × V)->List (Str × V)
 | []=>[(f,v)]
 | (g,x)::r=>if g=f then (g,v)::r else (g,x)::putF f v r
theorem zaL (f g:Str)(v:V):∀ fs:List (Str × V),(putF f v fs).lookup g=if g=f then some v else fs.lookup g
 | []=>by
  show List.lookup g [(f,v)]=_
  by_cases h:g=f
  ·have hb:(g == f)=true:=beq_iff_eq.mpr h
   simp only[List.lookup,hb,if_pos h]
  ·have hb:(g == f)=false:=beq_eq_false_iff_ne.mpr h
   simp only[List.lookup,hb,if_neg h]
 | (k,x)::r=>by
  have ih:=zaL f g v r
  rw[show putF f v ((k,x)::r)=(if k=f then (k,v)::r else (k,x)::putF f v r) from rfl]
  by_cases hk:k=f
  ·rw[if_pos hk]
   by_cases h:g=k
   ·have hb:(g == k)=true:=beq_iff_eq.mpr h
    simp only[List.lookup,hb,if_pos (h.trans hk)]
   ·have hb:(g == k)=false:=beq_eq_false_iff_ne.mpr h
    simp only[List.lookup,hb,if_neg (λe:g=f=>h (e.trans hk.symm))]
  ·rw[if_neg hk]
   by_cases h:g=k
   ·have hb:(g == k)=true:=beq_iff_eq.mpr h
    simp only[List.lookup,hb,if_neg (λe:g=f=>hk (h.symm.trans e))]
   ·have hb:(g == k)=false:=beq_eq_false_iff_ne.mpr h
    simp only[List.lookup,hb]
    exact ih
theorem zgF (f:Str)(v:V):∀ fs:List (Str × V),f∈(putF f v fs).map (·.1)/\∀ g,g∈fs.map (·.1)->g∈(putF f v fs).map (·.1)
 | []=>⟨by simp[putF],λg h=>by simp at h⟩
 | (k,x)::r=>by
  obtain⟨i1,i2⟩:=zgF f v r
  rw[show putF f v ((k,x)::r)=(if k=f then (k,v)::r else (k,x)::putF f v r) from rfl]
  by_cases hk:k=f
  ·rw[if_pos hk]
   subst hk
   exact⟨by simp,λg h=>by simpa using h⟩
  ·rw[if_neg hk]
   refine⟨?_,λg h=>?_⟩
   ·rw[zmc]
    exact List.mem_cons_of_mem _ i1
   ·rw[zmc] at h ⊢
    rcases List.mem_cons.mp h with e | e
    ·exact List.mem_cons.mpr (.inl e)
    ·exact List.mem_cons_of_mem _ (i2 g e)
theorem ze0 (f:Str)(v:V):∀ fs:List (Str × V),(putF f v fs).length<=fs.length+1
 | []=>by simp[putF]
 | (k,x)::r=>by
  have ih:=ze0 f v r
  rw[show putF f v ((k,x)::r)=(if k=f then (k,v)::r else (k,x)::putF f v r) from rfl]
  by_cases hk:k=f
  ·rw[if_pos hk,List.length_cons,List.length_cons];omega
  ·rw[if_neg hk,List.length_cons,List.length_cons];omega
theorem RelO.some_of{o:Option Value}(r:RelO (some v) o):∃ u,o=some u/\RelV v u:=by
 cases o with
 | none=>exact (show False from r).elim
 | some u=>exact⟨u,rfl,r⟩
theorem RelO.none_of {o:Option Value}(r:RelO none o):o=none:=by
 cases o with
 | none=>rfl
 | some u=>exact (show False from r).elim
theorem zmn(r:RelV v u):PySem.W.handedIn u=true:=by
 cases v with
 | non=>cases (show u=Value.none from r);rfl
 | bl b=>cases (show u=Value.bool b from r);rfl
 | int i=>obtain⟨t,e⟩:=(show ∃ t,u=Value.int i t from r);cases e;rfl
 | str x=>obtain⟨t,e⟩:=(show ∃ t,u=Value.str x t from r);cases e;rfl
 | byt b=>obtain⟨t,e⟩:=(show ∃ t,u=Value.bytes b t from r);cases e;rfl
 | flt b=>obtain⟨t,e⟩:=(show ∃ t,u=Value.float b t from r);cases e;rfl
 | ref a=>cases (show u=Value.ref a from r);rfl
 | ty n=>cases (show u=Value.type n from r);rfl
section
variable {P:Program}{w:World}{H H':Hp}{h h':Heap}{a C dx:Addr}{fs fs':List (Str × V)}
theorem zil (hok:HOk P w H h)(e:H a=some (.ins C dx fs)):∃ mA,ObjM h a dx C mA/\(∀ f,RelO (fs.lookup f) (mA f))/\PySem.Within mA (fs.map (·.1))/\fs.length<=1000/\H dx=some (.own a):=by
 obtain⟨d,z,ne,ob,mA,n,r,q⟩:=(show zbI P w H h a (.ins C dx fs) from hok a _ e)
 exact⟨mA,⟨ob,n,ne⟩,r,q,z,d⟩
end

structure Cls (K:Fg)(C:Addr):Prop where
 pg:PySem.W.plainGet K C Str.empty=true
 hd:PySem.W.hasDictIn K C=true
 po:PySem.W.plainOver K C=true
 sa:PySem.W.findIn K (.ref C) "__setattr__"=some (some (.builtin "object.__setattr__"))
theorem Cls.get(c:Cls K C)(f:Str):PySem.W.plainGet K C f=true:=c.pg
def zbU (K:Fg)(C:Addr)(f:Str):Prop:=PySem.W.findIn K (.ref C) f=some none
theorem zbU.taker{f:Str}(n:zbU K C f):PySem.W.takerIn K C f=some none:=by
 unfold PySem.W.takerIn
 rw[show PySem.W.findIn K (.ref C) f=some none from n]
 rfl
structure Meth (K:Fg)(C:Addr)(m:Str)(f:Addr):Prop where
 at_:PySem.W.findIn K (.ref C) m=some (some (.ref f))
 fn:PySem.W.isFn K (.ref f)=true
 kp:PySem.W.keepIn K (.ref f)=true
section
variable {X:Cx}{pins:List (Addr × Obj)}{σ:St}{H:Hp}{s:Shared}{a C dx:Addr}{fs:List (Str × V)}{f:Str}{v:V}{A:Around}{E:Value->Shared->Prop}

theorem zlw{b:Bool}(I:Inv X pins σ H s)(e:H a=some (.ins C dx fs))(c:Cls X.K C)(n:zbU X.K C f)(l:fs.lookup f=some v)(h:∀ u s',Inv X pins σ H s'->RelV v u->Q u s'):wpAny (model X.prog X.w) A (getAttr (.ref a) f b) Q E s:=by
 obtain⟨mA,O,r,_,_,_⟩:=zil I.hok e
 obtain⟨u,hu,ru⟩:=RelO.some_of (v:=v) (o:=mA f) (by rw[<-l];exact r f)
 exact zpm I.kIn O (c.get f) c.hd n hu (zmn ru) (h u _ (I.tok _) ru)
theorem zeJ{m:Str}{g:Addr}{Q:Value × List Value->Shared->Prop}(I:Inv X pins σ H s)(e:H a=some (.ins C dx fs))(c:Cls X.K C)(k:Meth X.K C m g)(l:fs.lookup m=none)(h:Q (.ref g,[.ref a]) s):wpAny (model X.prog X.w) A (getMethod (.ref a) m pl) Q E s:=by
 obtain⟨mA,O,r,_,_,_⟩:=zil I.hok e
 have hn:mA m=none:=RelO.none_of (by rw[<-l];exact r m)
 exact znO I.kIn O (c.get m) k.at_ k.fn hn h
theorem zlx{Q:Unit->Shared->Prop}(I:Inv X pins σ H s)(e:H a=some (.ins C dx fs))(c:Cls X.K C)(n:zbU X.K C f)(hl:fs.length<1000)(ry:RelV y u)(h:∀ s',Inv X pins σ (upd H a (.ins C dx (putF f y fs))) s'->Q () s'):wpAny (model X.prog X.w) A (setAttr (.ref a) f u) Q E s:=by
 obtain⟨mA,O,r,wi,_,ho⟩:=zil I.hok e
 have hz:(fs.map (·.1)).length<=sizeLine:=by rw[zlm,sizeLine_eq];omega
 refine zpn I.kIn O c.sa c.po n.taker c.hd wi hz λh' O' sb=>h _ ?_
 have hd:∃ o,h'.get? dx=some o:=let ⟨o,_,_,e',_⟩:=O'.ns;⟨o,e'⟩
 refine I.write (x:=a) (e:=dx) (by rw[e];exact True.intro) (.inr ho) (λb q hb z=>(sb.2 b hb).trans z) hd ?_
 refine⟨by rw[zai O.ne];exact ho,?_,O.ne,O'.obj,_,O'.ns,λg=>?_,λg hg=>?_⟩
 ·have:=ze0 f y fs;omega
 ·show RelO ((putF f y fs).lookup g) (if g=f then some u else mA g)
  rw[zaL]
  by_cases q:g=f
  ·rw[if_pos q,if_pos q];exact ry
  ·rw[if_neg q,if_neg q];exact r g
 ·by_cases q:g=f
  ·rw[q];exact (zgF f y fs).1
  ·refine (zgF f y fs).2 g (wi g λz=>hg ?_)
   show (if g=f then some u else mA g)=none
   rw[if_neg q];exact z
theorem Inv.made (I:Inv X pins σ H s):Inv X pins σ (upd (upd H s.heap.objs.size (.own (s.heap.objs.size+1))) (s.heap.objs.size+1) (.ins C s.heap.objs.size []))
  {s with heap:=(s.heap.push PySem.W.emptyDict).push (PySem.W.instObj C s.heap.objs.size)}:=by
 have e1:(s.heap.push PySem.W.emptyDict).get? s.heap.objs.size=some PySem.W.emptyDict:=Heap.get?_push_size s.heap rfl
 have e2:((s.heap.push PySem.W.emptyDict).push (PySem.W.instObj C s.heap.objs.size)).get? (s.heap.objs.size+1)=some (PySem.W.instObj C s.heap.objs.size):=by
  have:=Heap.get?_push_size (s.heap.push PySem.W.emptyDict) (o:=PySem.W.instObj C s.heap.objs.size) rfl
  rwa [Heap.size_push] at this
 have e3:(s.heap.push PySem.W.emptyDict).Ns s.heap.objs.size (λ_=>none):=⟨PySem.W.emptyDict,#[],_,e1,rfl,(λe he=>absurd he (by simp)),λ_=>rfl⟩
 have I1:=I.laid (a:=s.heap.objs.size) (o:=.own (s.heap.objs.size+1)) (h':=s.heap.push PySem.W.emptyDict) (t':=s.toks) (λb u q=>Heap.get?_push_of_some _ q) (Nat.le_refl _) ⟨_,e1⟩
 refine I1.laid (a:=s.heap.objs.size+1) (o:=.ins C s.heap.objs.size []) (t':=s.toks) (λb u q=>Heap.get?_push_of_some _ q) (Nat.le_of_eq (Heap.size_push _ _)) ?_
 have ne:s.heap.objs.size≠s.heap.objs.size+1:=Nat.ne_of_lt (Nat.lt_succ_self _)
 refine⟨by rw[zai ne,zaa],Nat.zero_le _,ne,e2,λ_=>none,(Heap.Ns1.of_empty e3).at λo q=>Heap.get?_push_of_some _ q,λ_=>True.intro,λy hy=>absurd rfl hy⟩
theorem zpo{prog:Program}{env:Env}(hb:attributeBase e f env (eval e env)=eval e env)(h:wpAny (model prog w) A (eval e env) (λo s₁=>wpAny (model prog w) A (getAttr o f true) Q E s₁) E s):wpAny (model prog w) A (eval (.Attribute e f pos) env) Q E s:=
 Attribute_any_ h (by rw[arm_eval_Attribute,hb])
end

inductive FldI (K:Fg)(f:Str)(x:V)(H:Hp)(Q:VK):Prop
 | mk (a C dx:Addr) (fs:List (Str × V)) (v:V) (e:x=.ref a) (ea:H a=some (.ins C dx fs)) (c:Cls K C) (n:zbU K C f) (l:fs.lookup f=some v) (q:Q v H):FldI K f x H Q
inductive FldS (K:Fg)(f:Str)(y x:V)(H:Hp)(P:Hp->Prop):Prop
 | mk (a C dx:Addr) (fs:List (Str × V)) (e:x=.ref a) (ea:H a=some (.ins C dx fs)) (c:Cls K C) (n:zbU K C f) (l:fs.length<1000) (q:P (upd H a (.ins C dx (putF f y fs)))):FldS K f y x H P
def tFld (K:Fg)(ta:TE)(f:Str):TE:=λσ H Q=>ta σ H λx H1=>FldI K f x H1 Q
def sFld (K:Fg)(ta tv:TE)(f:Str):TS:=λD σ H=>tv σ H λy H1=>ta σ H1 λx H2=>FldS K f y x H2 (D.nx σ)
section
variable {X:Cx}{o e value:Expr}{f:Str}{pos pos' tpos:Pos}{ta tv:TE}
theorem zqH (he:PE X e ta)(hb:attributeBase e f X.env (eval e X.env)=eval e X.env):PE X (.Attribute e f pos) (tFld X.K ta f):=by
 intro pins s σ H Q I h
 refine zpo hb (thn (he pins s σ H _ I h) λu s1 ⟨x,H1,I1,rx,a,C,dx,fs,v,ex,ea,c,n,l,q⟩=>?_)
 subst ex
 obtain rfl:u=Value.ref a:=rx
 exact zlw I1 ea c n l λu' s2 I2 ru=>⟨v,H1,I2,ru,q⟩
theorem zbB (ha:PE X o ta)(hv:PE X value tv)(hs:swapsWith value (some (.Attribute o f pos')) pos.line X.env=pure false):PS X (.Assign [.Attribute o f pos'] value pos) (sFld X.K ta tv f):=by
 intro pins s σ H D I h
 refine plainObj_wpAny_Assign_Attribute (thn (hv pins s σ H _ I h) λu s1 ⟨y,H1,I1,ry,q⟩=>thn (ha pins s1 σ H1 _ I1 q) λov s2 ⟨x,H2,I2,rx,a,C,dx,fs,ex,ea,c,n,l,q2⟩=>?_) hs
 subst ex
 obtain rfl:ov=Value.ref a:=rx
 exact zlx I2 ea c n l ry λs3 I3=>⟨σ,_,I3,q2⟩
theorem zpp{m:Str}{apos:Pos}{args:List Expr}(he:PE X e te)(I:Inv X pins σ H s)(h:te σ H λx H1=>∃ a C dx fs g,x=.ref a/\H1 a=some (.ins C dx fs)/\Cls X.K C/\Meth X.K C m g/\fs.lookup m=none/\
   ∀ s1,Inv X pins σ H1 s1->wpAny (model X.prog X.w) X.A (callWith pos (.ref g) [.ref a] (backTo pos (starEach args X.env)) (backToKw pos (keywordEach [] X.env))) Q X.xe s1)(ht:eval (.Call (.Attribute e m apos) args [] pos) X.env=(do
   let ov <-eval e X.env
   standAt apos.atName
   let (f,first) <-holding [ov] (getMethod ov m pl)
   callWith pos f first (backTo pos (starEach args X.env)) (backToKw pos (keywordEach [] X.env)))):
  wpAny (model X.prog X.w) X.A (eval (.Call (.Attribute e m apos) args [] pos) X.env) Q X.xe s:=by
 refine PySem.W.methodCall_KW (pl:=pl) (thn (he pins s σ H _ I h) λu s1 ⟨x,H1,I1,rx,a,C,dx,fs,g,ex,ea,c,k,l,q⟩=>?_) ht
 subst ex
 obtain rfl:u=Value.ref a:=rx
 exact zeJ I1 ea c k l (q s1 I1)
end

section
variable {X:Cx}{pins:List (Addr × Obj)}{σ:St}{H:Hp}{s:Shared}{A:Around}{E:Value->Shared->Prop}{Q:Value->Shared->Prop}{c:Value}{b:Bool}
inductive TyOf (K:Fg)(H:Hp):V->Value->Prop where
 | non:TyOf K H .non (.type "NoneType")
 | bl (x:Bool):TyOf K H (.bl x) (.type "bool")
 | int (i:Int):TyOf K H (.int i) (.type "int")
 | str (x:Str):TyOf K H (.str x) (.type "str")
 | flt (x:UInt64):TyOf K H (.flt x) (.type "float")
 | lst {a:Addr}{xs:List V}(e:H a=some (.lst xs)):TyOf K H (.ref a) (.type "list")
 | frz {a:Addr}{o:Obj}{xs:List V}(e:H a=some (.frz o (.lst xs))):TyOf K H (.ref a) (.type "list")
 | tup {a:Addr}{xs:List V}(e:H a=some (.tup xs)):TyOf K H (.ref a) (.type "tuple")
 | dK {a:Addr}{kvs:List (Key × V)}(e:H a=some (.dK kvs)):TyOf K H (.ref a) (.type "dict")
 | dT {a:Addr}{kvs:List (List Key × V)}(e:H a=some (.dT kvs)):TyOf K H (.ref a) (.type "dict")
 | ins {a C dx:Addr}{fs:List (Str × V)}(e:H a=some (.ins C dx fs)) (cl:Cls K C) (ha:PySem.W.findIn K (.ref C) "__class__"=some (some (.builtin "object.__class__")))
   (hn:PySem.W.specialIn K (.builtin "object.__class__") "__get__"=some (some (.builtin "getset_descriptor.__get__"))) (htk:PySem.W.takesIn K (.builtin "object.__class__")=some true)
   (hm:PySem.W.mroIn K C (.type "object")=some true):TyOf K H (.ref a) (.ref C)
theorem zmo{x:V}{t:Value}(I:Inv X pins σ H s)(rx:RelV x u)(ty:TyOf X.K H x t)(e:PySem.W.kitOne X.K t c=some b)(h:∀ tk,Q (.bool b) {s with toks:=tk}):
  wpAny (model X.prog X.w) A (call (.builtin "isinstance") [u,c]) Q E s:=by
 cases ty with
 | non=>cases (show u=Value.none from rx);exact PySem.W.kia_one PySem.W.kitx_none I.kIn True.intro e (λz=>nomatch z) h
 | bl y=>cases (show u=Value.bool y from rx);exact PySem.W.kia_one PySem.W.kitx_bool I.kIn True.intro e (λz=>nomatch z) h
 | int i=>obtain⟨t,q⟩:=(show ∃ t,u=Value.int i t from rx);cases q;exact PySem.W.kia_one PySem.W.kitx_int I.kIn True.intro e (λz=>nomatch z) h
 | str y=>obtain⟨t,q⟩:=(show ∃ t,u=Value.str y t from rx);cases q;exact PySem.W.kia_one PySem.W.kitx_str I.kIn True.intro e (λz=>nomatch z) h
 | flt y=>obtain⟨t,q⟩:=(show ∃ t,u=Value.float y t from rx);cases q;exact PySem.W.kia_one PySem.W.kitx_float I.kIn True.intro e (λz=>nomatch z) h
 | @lst a xs ea=>
  cases (show u=Value.ref a from rx)
  obtain⟨_,_,n,_,h1⟩:=(show zbI X.prog X.w H s.heap a (.lst xs) from I.hok a _ ea)
  exact PySem.W.kia_one PySem.W.kitx_list I.kIn ⟨_,h1,rfl⟩ e (λz=>nomatch z) h
 | @frz a ob xs ea=>
  cases (show u=Value.ref a from rx)
  obtain⟨_,_,_,n,_,h1⟩:=(show zbI X.prog X.w H s.heap a (.frz ob (.lst xs)) from I.hok a _ ea)
  exact PySem.W.kia_one PySem.W.kitx_list I.kIn ⟨_,h1,rfl⟩ e (λz=>nomatch z) h
 | @tup a xs ea=>
  cases (show u=Value.ref a from rx)
  obtain⟨_,_,_,p⟩:=(show zbI X.prog X.w H s.heap a (.tup xs) from I.hok a _ ea)
  obtain⟨o,h1,h2,_⟩:=p
  exact PySem.W.kia_one PySem.W.kitx_tuple I.kIn ⟨o,h1,h2⟩ e (λz=>nomatch z) h
 | @dK a kvs ea=>
  cases (show u=Value.ref a from rx)
  obtain⟨_,_,vs,_,p⟩:=(show zbI X.prog X.w H s.heap a (.dK kvs) from I.hok a _ ea)
  obtain⟨o,es,ep,h1,h2,_⟩:=p
  exact PySem.W.kia_one PySem.W.kitx_dict I.kIn ⟨o,h1,h2.1⟩ e (λz=>nomatch z) h
 | @dT a kvs ea=>
  cases (show u=Value.ref a from rx)
  obtain⟨_,_,xs,_,o,es,ep,h1,h2,_⟩:=(show zbI X.prog X.w H s.heap a (.dT kvs) from I.hok a _ ea)
  exact PySem.W.kia_one PySem.W.kitx_dict I.kIn ⟨o,h1,h2.1⟩ e (λz=>nomatch z) h
 | @ins a C dx fs ea cl ha hn htk hm=>
  cases (show u=Value.ref a from rx)
  obtain⟨mA,O,_⟩:=zil I.hok ea
  obtain⟨od,J,_⟩:=O.look
  exact PySem.W.kia_one (PySem.W.kitx_own (cl.get _) cl.hd ha hn htk hm) I.kIn J e (λz=>nomatch z) h
end

structure Room (k:Nat)(A:Around):Prop where
 hd:A.handled=none
 dp:A.depth+3 * k+5<recursionLimit
 un:A.units+16 * k+200<cLine
 gd:A.guards=some []
theorem Room.mono{k:Nat}(r:Room k A)(h:j<=k):Room j A:=⟨r.hd,by have:=r.dp;omega,by have:=r.un;omega,r.gd⟩
theorem Room.deeper{k:Nat}(r:Room (k+1) A)(env:Env):Room k (A.deeper env):=
 ⟨r.hd,by have:=r.dp;show A.depth+1+3 * k+5<_;omega,by have:=r.un;show A.units+3+16 * k+200<_;omega,r.gd⟩
theorem zly: (A.under (.builtin "type.__call__" ⟨.ref C::us,kw⟩)).depth=A.depth+1:=by
 first | rfl | simp[Around.under,Code.weight,Code.isCreation,Code.isGuard,Code.isCaller,Code.frames,Code.isFrame,guardIds]
theorem zlz: (A.under (.builtin "type.__call__" ⟨.ref C::us,kw⟩)).units=A.units+1:=by
 first | rfl | simp[Around.under,Code.cUnits,Code.frames,Code.isFrame]
theorem zj5(h:A.guards=some []):(A.under (.builtin "type.__call__" ⟨.ref C::us,kw⟩)).guards=some []:=by
 simp[Around.under,Code.guards,Code.isGuard,guardIds,pushGuards,h]
theorem Room.make{k:Nat}(r:Room (k+1) A)(C:Addr)(us:List Value)(kw:List (Str × Value)):Room k (A.under (.builtin "type.__call__" ⟨.ref C::us,kw⟩)):=
 ⟨r.hd,by have:=r.dp;rw[zly];omega,by have:=r.un;rw[zlz];omega,zj5 r.gd⟩
theorem Room.depth{k:Nat}(r:Room k A):A.depth<recursionLimit:=by have:=r.dp;omega
theorem Room.units{k:Nat}(r:Room k A):A.units+64<cLine:=by have:=r.un;omega
def tNil:TA:=λ_ H Q=>Q [] H
def zc2 (ta:TE)(tr:TA):TA:=λσ H Q=>ta σ H λx H1=>tr σ H1 λxs H2=>Q (x::xs) H2
section
variable {X:Cx}{e:Expr}{es:List Expr}{te:TE}{t:TA}{pos:Pos}
theorem zab:PA X [] tNil:=λ_ _ _ _ H Q I h=>Calls.spliced_nil ⟨[],H,I,.nil,h⟩
theorem zaQ (ha:PE X e te)(hr:PA X es t)(hs:starEach (e::es) X.env=(false,eval e X.env)::starEach es X.env:=by rfl):PA X (e::es) (zc2 te t):=by
 intro pos pins s σ H Q I h
 rw[hs]
 show wpAny _ _ (spliced ((false,eval e X.env)::backTo pos (starEach es X.env))) _ _ s
 refine Calls.spliced_cons (thn (ha pins s σ H _ I h) λu s1 ⟨x,H1,I1,r1,q1⟩=>?_)
 exact thn (hr pos pins s1 σ H1 _ I1 q1) λus s2 ⟨xs,H2,I2,r2,q2⟩=>⟨x::xs,H2,I2,.cons r1 r2,q2⟩
def tTup (t:TA):TE:=λσ H Q=>t σ H λxs H1=>xs.length<=sizeLine/\∀ p,H1 p=none->Q (.ref p) (upd H1 p (.tup xs))
def tLst (t:TA):TE:=λσ H Q=>t σ H λxs H1=>xs.length<=sizeLine/\∀ p,H1 p=none->Q (.ref p) (upd H1 p (.lst xs))
theorem zdm {x1}(h:PA X es t):PE X (.Tuple es x1 pos) (tTup t):=by
 intro pins s σ H Q I hq
 refine wpAny_Tuple_spliced (thn (h pos pins s σ H _ I hq) λus s1 ⟨xs,H1,I1,r,z,q⟩=>⟨by rw[<-r.length];exact z,?_⟩)
 have hf:H1 s1.heap.objs.size=none:=I1.hok.fresh (Nat.le_refl _)
 refine⟨.ref s1.heap.objs.size,upd H1 s1.heap.objs.size (.tup xs),I1.laid (t':=s1.toks) (λb u e=>Heap.get?_push_of_some _ e) (Nat.le_refl _) ?_,rfl,q _ hf⟩
 exact⟨z,us,r,⟨_,Heap.get?_push_size _ rfl,rfl,_,rfl⟩⟩
theorem zaO (h:PA X es t):PE X (.List es pos) (tLst t):=by
 intro pins s σ H Q I hq
 refine wpAny_List_spliced (thn (h pos pins s σ H _ I hq) λus s1 ⟨xs,H1,I1,r,z,q⟩=>⟨by rw[<-r.length];exact z,?_⟩)
 have hf:H1 s1.heap.objs.size=none:=I1.hok.fresh (Nat.le_refl _)
 refine⟨.ref s1.heap.objs.size,upd H1 s1.heap.objs.size (.lst xs),I1.laid (t':=s1.toks) (λb u e=>Heap.get?_push_of_some _ e) (Nat.le_refl _) ?_,rfl,q _ hf⟩
 exact⟨z,us,0,r,Heap.get?_push_size _ rfl⟩
end

abbrev Sp:=List V->Hp->VK->XK->Prop
abbrev CXT:=List Env->Hp->Shared->XK->Value->Shared->Prop
structure Env0 (P:Program)(w:World)(K:Fg)(mg:Str->Option Value)(base:Heap)(A:Around)(outer:List Env)(s:Shared)(H:Hp):Prop where
 frames:A.frames=some outer
 mod:Mod K mg base
 bs:∀ b o,base.get? b=some o->s.heap.get? b=some o/\H b=none
 bsz:base.objs.size<=s.heap.objs.size
 funs:s.heap.FunFrames base outer
 frf:∀ b∈frs outer,H b=none
 hok:HOk P w H s.heap
 bare:AllBare s.gens
def CE (outer:List Env)(P:Program)(w:World)(H:Hp)(s:Shared)(Q:VK)(u:Value)(s':Shared):Prop:=
 ∃ v H',s'.os=s.os/\AllBare s'.gens/\Un (frs outer) [] H H' s.heap s'.heap/\HOk P w H' s'.heap/\RelV v u/\Q v H'
def CR (CX:CXT)(outer:List Env)(P:Program)(w:World)(H:Hp)(s:Shared)(Q:VK)(E:XK)(r:Result)(s':Shared):Prop:=
 match r with
 | .ok (.ret u)=>CE outer P w H s Q u s'
 | .ok _=>False
 | .error e=>CX outer H s E e s'
structure FnOk (P:Program)(w:World)(K:Fg)(mg:Str->Option Value)(base:Heap)(CX:CXT)(k:Nat)(f:Addr)(fd:FuncData)(ps:List Str)(sp:Sp):Prop where
 len:∀ vs H Q E,sp vs H Q E->vs.length=ps.length
 run:∀ (A:Around) (outer:List Env) (s:Shared) (H:Hp) (args:Args) (us:List Value) (vs:List V) (Q:VK) (E:XK),Room k A->Env0 P w K mg base A outer s H->BindsTo s fd args (ps.zip us)->Vals vs us->sp vs H Q E->
  codeAny (model P w) A (.call (.ref f) args) (CR CX outer P w H s Q E) s
variable {mg:Str->Option Value}{base:Heap}{CX:CXT}{fd:FuncData}{ps:List Str}{sp:Sp}
theorem FnOk.mono{k:Nat}{f:Addr}(F:FnOk P w K mg base CX j f fd ps sp)(h:j<=k):
  FnOk P w K mg base CX k f fd ps sp:=⟨F.len,λA outer s H args us vs Q E hr=>F.run A outer s H args us vs Q E (hr.mono h)⟩
variable {outer:List Env}
theorem Env0.make(e:Env0 P w K mg base A outer s H)(C:Addr)(us:List Value)(kw:List (Str × Value)):
  Env0 P w K mg base (A.under (.builtin "type.__call__" ⟨.ref C::us,kw⟩)) outer s H:=⟨by first | exact e.frames | (simpa [Around.under,Code.envs,Code.isFrame,pushEnvs] using e.frames),e.mod,e.bs,e.bsz,e.funs,e.frf,e.hok,e.bare⟩
section
variable {X:Cx}{pins:List (Addr × Obj)}{σ:St}{H:Hp}{s s':Shared}
theorem Inv.env0 (I:Inv X pins σ H s):Env0 X.prog X.w X.K X.mg X.base X.A X.stack s H:=
 ⟨I.ok.frames,I.ok.mod,I.bs,Nat.le_trans I.ok.bsz I.sz,I.stack,I.stkFree,I.hok,I.bare⟩
theorem Inv.after{Q:VK}(I:Inv X pins σ H s)(h:CE X.stack X.prog X.w H s Q u s'):EP X pins σ Q u s':=by
 obtain⟨v,H',os,bare,un,hok,r,q⟩:=h
 obtain⟨hh,g,d,t,os'⟩:=s'
 obtain rfl:os'=s.os:=os
 exact⟨v,H',I.call (h':=hh) (g':=g) (d':=d) (t':=t) (ch:=[]) un hok bare (λb z=>absurd z (by simp)),r,q⟩
end

def zhr (sp:Sp)(dvs:List V)(E:XK)(t:TA):TE:=λσ H Q=>t σ H λvs H1=>sp (vs++dvs) H1 Q E
inductive MethI (C:Addr)(m:Str)(x:V)(H:Hp)(P:Prop):Prop
 | mk (a dx:Addr) (fs:List (Str × V)) (e:x=.ref a) (ea:H a=some (.ins C dx fs)) (l:fs.lookup m=none) (q:P):MethI C m x H P
def ziZ (C:Addr)(m:Str)(sp:Sp)(dvs:List V)(E:XK)(ta:TE)(t:TA):TE:=λσ H Q=>ta σ H λx H1=>MethI C m x H1 (t σ H1 λvs H2=>sp (x::(vs++dvs)) H2 Q E)
def zhs (C:Addr)(sp:Sp)(dvs:List V)(E:XK)(t:TA):TE:=λσ H Q=>t σ H λvs H1=>∀ x dx,H1 x=none->H1 dx=none->dx≠x->
 sp (.ref x::(vs++dvs)) (upd (upd H1 dx (.own x)) x (.ins C dx [])) (λv H2=>v=.non/\Q (.ref x) H2) E
def zef (K:Fg)(fd:FuncData)(ps:List Str)(ds:List Value):Prop:=
 ∀ (s:Shared) (us:List Value),K.In s.heap->(us++ds).length=ps.length->BindsTo s fd ⟨us,[]⟩ (ps.zip (us++ds))
theorem zef.all(h:∀ us:List Value,us.length=ps.length->bindArgs fd ⟨us,[]⟩=pure (ps.zip us)):zef K fd ps []:=λs us _ hl=>by
 rw[List.append_nil] at hl ⊢
 exact .of_eq (h us hl)
def zcK (CX:CXT)(X:Cx)(E:XK):Prop:=∀ (pins:List (Addr × Obj)) (σ:St) (H:Hp) (s:Shared) (e:Value) (s':Shared),Inv X pins σ H s->CX X.stack H s E e s'->X.xe e s'
variable {vs:List V}
section
variable {X:Cx}{CX:CXT}{k:Nat}{f C:Addr}{fd:FuncData}{ps:List Str}{sp:Sp}{dvs:List V}{ds:List Value}{E:XK}{x m:Str}{p pos apos:Pos}{e o:Expr}{es:List Expr}{ta:TE}{t:TA}

variable {Q:VK}
theorem zmp(F:FnOk X.prog X.w X.K X.mg X.base CX k f fd ps sp)(hr:Room k X.A)(hb:zef X.K fd ps ds)(hd:Vals dvs ds)(hx:zcK CX X E)(I:Inv X pins σ H s)(r:Vals vs us)(h:sp (vs++dvs) H Q E):wpAny (model X.prog X.w) X.A (call (.ref f) us) (EP X pins σ Q) X.xe s:=by
 have r2:Vals (vs++dvs) (us++ds):=r.append hd
 have hl:(us++ds).length=ps.length:=by rw[<-r2.length];exact F.len _ _ _ _ h
 refine wpAny_call (codeAny_mono (F.run X.A X.stack s H ⟨us,[]⟩ (us++ds) (vs++dvs) Q E hr I.env0 (hb s us I.kIn hl) r2 h) λr s' hq=>?_)
 cases r with
 | error e=>exact hx pins σ H s e s' I hq
 | ok fl=>
  cases fl with
  | ret u=>exact I.after hq
  | next=>exact False.elim hq
  | brk=>exact False.elim hq
  | cont=>exact False.elim hq
theorem zmq (F:FnOk X.prog X.w X.K X.mg X.base CX k f fd ps sp)(hr:Room k X.A)(hg:Gl X x)(hm:X.mg x=some (.ref f))(hk:PySem.W.keepIn X.K (.ref f)=true)(hb:zef X.K fd ps ds)(hd:Vals dvs ds)(hx:zcK CX X E)
  (ha:PA X (e::es) t) (hdb:(x == ("__debug__" : Str))=false:=by decide) (he:starEach (e::es) X.env=(false,eval e X.env)::starEach es X.env:=by rfl) (hpl:(backTo pos (starEach es X.env)).any (·.1)=false:=by rfl) :
  PE X (.Call (.Name x p) (e::es) [] pos) (zhr sp dvs E t):=by
 intro pins s σ H Q I h
 refine wpAny_Call_Name_kw (zdY I hg hm ?_ hdb)
 refine PySem.W.callWith_K (h₀:=X.base) I.ok.mod.kin hk (thn (ha pos pins s σ H _ I h) λus s1 ⟨vs,H1,I1,r,q⟩=>⟨I1.kIn,?_⟩) he hpl
 exact zmp F hr hb hd hx I1 r q
theorem zpq(he:PE X o ta)(c:Cls X.K C)(hm:Meth X.K C m f)(F:FnOk X.prog X.w X.K X.mg X.base CX k f fd ps sp)(hr:Room k X.A)(hb:zef X.K fd ps ds)(hd:Vals dvs ds)(hx:zcK CX X E)(ha:PA X (e::es) t)(hst:starEach (e::es) X.env=(false,eval e X.env)::starEach es X.env:=by rfl)(hpl:(backTo pos (starEach es X.env)).any (·.1)=false:=by rfl)(ht:eval (.Call (.Attribute o m apos) (e::es) [] pos) X.env=(do
   let ov <-eval o X.env
   standAt apos.atName
   let (f,first) <-holding [ov] (getMethod ov m pl)
   callWith pos f first (backTo pos (starEach (e::es) X.env)) (backToKw pos (keywordEach [] X.env))):=by rfl):
  PE X (.Call (.Attribute o m apos) (e::es) [] pos) (ziZ C m sp dvs E ta t):=by
 intro pins s σ H Q I h
 refine PySem.W.methodCall_KW (pl:=pl) (thn (he pins s σ H _ I h) λu s1 ⟨x,H1,I1,rx,a,dx,fs,ex,ea,l,q⟩=>?_) ht
 subst ex
 obtain rfl:u=Value.ref a:=rx
 refine zeJ I1 ea c hm l ?_
 refine PySem.W.callWith_K (first:=[.ref a]) (h₀:=X.base) I.ok.mod.kin hm.kp (thn (ha pos pins s1 σ H1 _ I1 q) λus s2 ⟨vs,H2,I2,r,q2⟩=>⟨I2.kIn,?_⟩) hst hpl
 exact zmp (us:=.ref a::us) (vs:=.ref a::vs) F hr hb hd hx I2 (.cons rfl r) q2
theorem znP(he:PE X o ta)(c:Cls X.K C)(hm:Meth X.K C m f)(F:FnOk X.prog X.w X.K X.mg X.base CX k f fd ps sp)(hr:Room k X.A)(hb:zef X.K fd ps ds)(hd:Vals dvs ds)(hx:zcK CX X E)(ht:eval (.Call (.Attribute o m apos) [] [] pos) X.env=(do
   let ov <-eval o X.env
   standAt apos.atName
   let (f,first) <-holding [ov] (getMethod ov m pl)
   callWith pos f first (backTo pos (starEach [] X.env)) (backToKw pos (keywordEach [] X.env))):=by rfl):
  PE X (.Call (.Attribute o m apos) [] [] pos) (ziZ C m sp dvs E ta tNil):=by
 intro pins s σ H Q I h
 refine PySem.W.methodCall_KW (pl:=pl) (thn (he pins s σ H _ I h) λu s1 ⟨x,H1,I1,rx,a,dx,fs,ex,ea,l,q⟩=>?_) ht
 subst ex
 obtain rfl:u=Value.ref a:=rx
 refine zeJ I1 ea c hm l ?_
 exact PySem.W.callWith_K0 (first:=[.ref a]) I1.kIn hm.kp (zmp (us:=[.ref a]) (vs:=[.ref a]) F hr hb hd hx I1 (.cons rfl .nil) q)
structure Mk (K:Fg)(C f:Addr):Prop where
 makes:PySem.W.makesIn K C=true
 init:PySem.W.findIn K (.ref C) "__init__"=some (some (.ref f))
 fn:PySem.W.isFn K (.ref f)=true
 kp:PySem.W.keepIn K (.ref C)=true
theorem zkV(M:Mk X.K C f)(F:FnOk X.prog X.w X.K X.mg X.base CX k f fd ps sp)(hr:Room (k+1) X.A)(hb:zef X.K fd ps ds)(hd:Vals dvs ds)(hx:zcK CX X E)(I:Inv X pins σ H s)(r:Vals vs us)(h:∀ x dx,H x=none->H dx=none->dx≠x->sp (.ref x::(vs++dvs)) (upd (upd H dx (.own x)) x (.ins C dx [])) (λv H2=>v=.non/\Q (.ref x) H2) E):
  wpAny (model X.prog X.w) X.A (call (.ref C) us) (EP X pins σ Q) X.xe s:=by
 have hq:=h (s.heap.objs.size+1) s.heap.objs.size (I.hok.fresh (Nat.le_succ _)) (I.hok.fresh (Nat.le_refl _)) (Nat.ne_of_lt (Nat.lt_succ_self _))
 have I2:=Inv.made (C:=C) I
 have r2:Vals (V.ref (s.heap.objs.size+1)::(vs++dvs)) (Value.ref (s.heap.objs.size+1)::(us++ds)):=.cons rfl (r.append hd)
 have hl:(Value.ref (s.heap.objs.size+1)::us++ds).length=ps.length:=by
  have e:=r2.length
  rw[F.len _ _ _ _ hq] at e
  exact e.symm
 refine wpAny_call (zkU (f:=f) I.kIn M.makes M.init (beq_iff_eq.mp M.fn) (codeAny_mono (F.run _ X.stack _ _ ⟨Value.ref (s.heap.objs.size+1)::us,[]⟩ (Value.ref (s.heap.objs.size+1)::(us++ds)) _ _ E (hr.make C us [])
  (I2.env0.make C us []) (hb _ (Value.ref (s.heap.objs.size+1)::us) I2.kIn hl) r2 hq) λr s' hq'=>?_))
 cases r with
 | error e=>exact hx pins σ _ _ e s' I2 hq'
 | ok fl=>
  cases fl with
  | ret u=>
   obtain⟨v,H',I3,rv,ev,q3⟩:=I2.after hq'
   subst ev
   exact⟨rv,⟨V.ref (s.heap.objs.size+1),H',I3,rfl,q3⟩⟩
  | next=>exact False.elim hq'
  | brk=>exact False.elim hq'
  | cont=>exact False.elim hq'
theorem zmr (M:Mk X.K C f)(F:FnOk X.prog X.w X.K X.mg X.base CX k f fd ps sp)(hr:Room (k+1) X.A)(hg:Gl X x)(hm:X.mg x=some (.ref C))(hb:zef X.K fd ps ds)(hd:Vals dvs ds)(hx:zcK CX X E)
  (ha:PA X (e::es) t) (hdb:(x == ("__debug__" : Str))=false:=by decide) (he:starEach (e::es) X.env=(false,eval e X.env)::starEach es X.env:=by rfl) (hpl:(backTo pos (starEach es X.env)).any (·.1)=false:=by rfl) :
  PE X (.Call (.Name x p) (e::es) [] pos) (zhs C sp dvs E t):=by
 intro pins s σ H Q I h
 refine wpAny_Call_Name_kw (zdY I hg hm ?_ hdb)
 refine PySem.W.callWith_K (h₀:=X.base) I.ok.mod.kin M.kp (thn (ha pos pins s σ H _ I h) λus s1 ⟨vs,H1,I1,r,q⟩=>⟨I1.kIn,?_⟩) he hpl
 exact zkV M F hr hb hd hx I1 r q
theorem znQ (M:Mk X.K C f)(F:FnOk X.prog X.w X.K X.mg X.base CX k f fd ps sp)(hr:Room (k+1) X.A)(hg:Gl X x)(hm:X.mg x=some (.ref C))(hb:zef X.K fd ps ds)(hd:Vals dvs ds)(hx:zcK CX X E)
  (hdb:(x == ("__debug__" : Str))=false:=by decide):PE X (.Call (.Name x p) [] [] pos) (zhs C sp dvs E tNil):=by
 intro pins s σ H Q I h
 refine wpAny_Call_Name_kw (zdY I hg hm ?_ hdb)
 exact PySem.W.callWith_K0 I.kIn M.kp (zkV (us:=[]) M F hr hb hd hx I .nil h)
end

section
variable {X:Cx}{CX:CXT}{k:Nat}{f C:Addr}{fd:FuncData}{ps ks:List Str}{sp:Sp}{E:XK}{x m:Str}{p pos apos kpos:Pos}{e o:Expr}{es:List Expr}{kws:List Keyword}{te ta:TE}{t tk:TA}{nm:Option Str}
variable {g:List Value->List Value->List Value}{gV:List V->List V->List V}
end

structure FSc (N P:List Str)(sc:Scope):Prop where
 kind:sc.kind=.function
 co:sc.isCoroutine=false
 gen:sc.isGenerator=false
 nd:N.Nodup
 pre:N.take P.length=P
 par:∀ x∈P,sc.names.lookup x=some .local\/sc.names.lookup x=some .cell
 nofree:∀ y∈sc.names,y.2≠.free
variable {kindOf:Str->Option NameKind}
theorem zi0: ∀ {binds:List (Str × Value)}{m:Str->Option Value},(∀ v,(x,v)∉binds)->bindL kindOf binds m x=m x
 | [],_,_=>rfl
 | (n,v)::r,m,h=>by
  unfold bindL
  rw[zi0 λw hw=>h w (List.mem_cons_of_mem _ hw)]
  split
  ·have:x≠n:=by rintro rfl;exact h v List.mem_cons_self
   simp[this]
  ·rfl
theorem zi1: ∀ {binds:List (Str × Value)}{m:Str->Option Value},(∀ v,(x,v)∉binds)->bindC kindOf binds m x=m x
 | [],_,_=>rfl
 | (n,v)::r,m,h=>by
  unfold bindC
  rw[zi1 λw hw=>h w (List.mem_cons_of_mem _ hw)]
  split
  ·rfl
  ·have:x≠n:=by rintro rfl;exact h v List.mem_cons_self
   simp[this]
theorem zgG{v:Value}: ∀ {P:List Str}{vs:List Value}{i:Nat}{m:Str->Option Value},P.Nodup->P[i]?=some x->vs[i]?=some v->kindOf x=some .local->
  bindL kindOf (P.zip vs) m x=some v
 | [],_,_,_,_,h,_,_=>by simp at h
 | _::_,[],_,_,_,_,h,_=>by simp at h
 | p::P,w::vs,0,m,nd,h1,h2,hk=>by
  simp at h1 h2;subst h1;subst h2
  show bindL kindOf ((p,w)::P.zip vs) m p=_
  unfold bindL
  rw[zi0 λv hv=>(List.nodup_cons.mp nd).1 (List.of_mem_zip hv).1,if_pos hk]
  simp
 | p::P,w::vs,i+1,m,nd,h1,h2,hk=>by
  show bindL kindOf ((p,w)::P.zip vs) m x=_
  unfold bindL
  exact zgG (i:=i) (List.nodup_cons.mp nd).2 (by simpa using h1) (by simpa using h2) hk
theorem zgH{v:Value}: ∀ {P:List Str}{vs:List Value}{i:Nat}{m:Str->Option Value},P.Nodup->P[i]?=some x->vs[i]?=some v->kindOf x≠some .local->
  bindC kindOf (P.zip vs) m x=some v
 | [],_,_,_,_,h,_,_=>by simp at h
 | _::_,[],_,_,_,_,h,_=>by simp at h
 | p::P,w::vs,0,m,nd,h1,h2,hk=>by
  simp at h1 h2;subst h1;subst h2
  show bindC kindOf ((p,w)::P.zip vs) m p=_
  unfold bindC
  rw[zi1 λv hv=>(List.nodup_cons.mp nd).1 (List.of_mem_zip hv).1,if_neg hk]
  simp
 | p::P,w::vs,i+1,m,nd,h1,h2,hk=>by
  show bindC kindOf ((p,w)::P.zip vs) m x=_
  unfold bindC
  exact zgH (i:=i) (List.nodup_cons.mp nd).2 (by simpa using h1) (by simpa using h2) hk
def start (N:List Str)(vs:List V):St:=vs.map some++List.replicate (N.length - vs.length) none
def cxOf (CX:CXT)(P:Program)(w:World)(K:Fg)(mg:Str->Option Value)(base:Heap)(N:List Str)(qual:Str)(scope:Scope)(f:Addr)(cd:Value)(A:Around)(outer:List Env)(s:Shared)(H:Hp)(E:XK):Cx where
 prog:=P
 w:=w
 K:=K
 mg:=mg
 base:=base
 A:=A.deeper (envOfC qual scope s.heap.objs.size f cd)
 N:=N
 s₀:=s
 H₀:=H
 env:=envOfC qual scope s.heap.objs.size f cd
 outer:=outer
 stack:=envOfC qual scope s.heap.objs.size f cd::outer
 ex:=[]
 calm:=true
 fn:=λ_=>true
 pn:=[]
 xe:=λe s'=>wpAny (model P w) (A.deeper (envOfC qual scope s.heap.objs.size f cd)) (leaving (envOfC qual scope s.heap.objs.size f cd) e) (λ_ s''=>CX outer H s E e s'') (λe' s''=>CX outer H s E e' s'') s'
theorem zgp{sc:Scope}(h:sc.names.lookup x=some .cell):∃ c,(cellsFrom n sc.names []).lookup x=some c:=by
 have q:=PySem.W.cellsFrom_some sc.names n [] (.inl h)
 exact Option.isSome_iff_exists.mp q
variable {qual:Str}{scope:Scope}
theorem zmt{f:Addr}{cd:Value}{s1:Shared}{E:XK}(S:FSc N ps scope)(hd:A.handled=none)(e0:Env0 P w K mg base A outer s H)(hl:vs.length=ps.length)(r:Vals vs us)(x:InCallC s s.heap.objs.size (bindL (envOfC qual scope s.heap.objs.size f cd).kindOf (ps.zip us) λ_=>none) (cellsFrom (s.heap.objs.size+1) scope.names []) (bindC (envOfC qual scope s.heap.objs.size f cd).kindOf (ps.zip us) λ_=>none) s1):
  Inv (cxOf CX P w K mg base N qual scope f cd A outer s H E) [] (start N vs) H s1:=by
 have hpl:ps.length<=N.length:=by have:=congrArg List.length S.pre;rw[List.length_take] at this;omega
 obtain⟨h1,tk,rfl,hk⟩:=x.done
 have noA:∀ b:Addr,b∉(cxOf CX P w K mg base N qual scope f cd A outer s H E).ex:=λb z=>absurd (show b∈([]:List Addr) from z) (by simp)
 refine⟨⟨e0.mod,S.kind,rfl,rfl,Nat.le_refl _,λy z c h1 h2=>?_,λy hy=>?_,λy c _ h=>?_,λ_=>hd,Around.frames_deeper e0.frames,.inr ⟨rfl,rfl⟩,λb z=>absurd z (noA b),e0.bs,e0.bsz,λb _ _=>noA b,λb z=>absurd z (noA b),e0.funs,e0.frf⟩,
  rfl,e0.bare,Un.kept hk,⟨_,x.toInCall.ns,λi y v h1 h2 h3=>?_⟩,λy c h=>⟨_,x.cell y c h⟩,e0.hok.fresh (Nat.le_refl _),λy c h=>?_,λp hp=>absurd (show p∈([]:List (Addr × Obj)) from hp) (by simp),e0.hok.kept hk,?_⟩
 ·exact name_of_addr x.apart (PySem.mem_of_lookup h1) (PySem.mem_of_lookup h2)
 ·have hy:scope.names.lookup y=some .cell\/scope.names.lookup y=some .free:=hy
  rcases hy with hy | hy
  ·exact zgp hy
  ·exact absurd rfl (S.nofree _ (PySem.mem_of_lookup hy))
 ·exact Nat.le_of_lt (x.above y c (PySem.mem_of_lookup h))
 ·have hi:i<vs.length:=by
   unfold start at h2
   by_cases hi:i<vs.length
   ·exact hi
   ·rw[List.getElem?_append_right (by simpa using hi)] at h2
    rw[List.getElem?_replicate] at h2
    split at h2 <;> cases h2
  have ha:vs[i]?=some v:=by
   unfold start at h2
   rw[List.getElem?_append_left (by simpa using hi),zgm] at h2
   cases e:vs[i]? with
   | none=>rw[e] at h2;cases h2
   | some a=>rw[e] at h2;cases h2;rfl
  obtain⟨u,hu,rv⟩:=r.get ha
  have hp:ps[i]?=some y:=by
   rw[<-S.pre,List.getElem?_take_of_lt (by omega)];exact h1
  have ndP:ps.Nodup:=by rw[<-S.pre];exact S.nd.sublist (List.take_sublist _ _)
  refine⟨u,rv,?_⟩
  rcases S.par y (zmg hp) with k | k
  ·exact .inl ⟨k,zgG ndP hp hu k⟩
  ·obtain⟨c,e⟩:=zgp (n:=s.heap.objs.size+1) k
   refine .inr ⟨.inl k,c,e,?_⟩
   have q:=x.cell y c e
   rw[zgH ndP hp hu (by show scope.names.lookup y≠_;rw[k];decide)] at q
   exact q
 ·exact e0.hok.fresh (Nat.le_of_lt (x.above y c (PySem.mem_of_lookup h)))
 ·unfold start
  show _=N.length
  rw[List.length_append,zlm,List.length_replicate]
  omega
theorem zqI{k:Nat}{f:Addr}{name:Str}{params:Arguments}{dV kV doc pm cdv ct oc:Value}{an od:Option Addr}{osl:Array (Option Value)}(lk:K.lookup f=some ⟨oc,od,.func (PySem.W.fnOf name qual params body scope dV kV doc pm an cdv ct),osl⟩)(hcd:PySem.W.codeIn K cdv qual=true)(S:FSc N ps scope)(len:∀ vs H Q E,sp vs H Q E->vs.length=ps.length)(hbody:∀ (A:Around) (outer:List Env) (s:Shared) (H:Hp) (vs:List V) (Q:VK) (E:XK),Room k (A.deeper (envOfC qual scope s.heap.objs.size f cdv))->sp vs H Q E->
   ∃ t,PSs (cxOf CX P w K mg base N qual scope f cdv A outer s H E) body t/\t {nx:=λ_ H'=>Q .non H',rt:=Q} (start N vs) H):
  FnOk P w K mg base CX (k+1) f (PySem.W.fnOf name qual params body scope dV kV doc pm an cdv ct) ps sp:=by
 refine⟨len,λA outer s H args us vs Q E hr e0 hb r hsp=>?_⟩
 have hl:=len _ _ _ _ hsp
 have KX:K.In s.heap:=e0.mod.kin.keeps λb o e=>(e0.bs b o e).1
 have lim:s.heap.NoLimit:=e0.mod.nolimit.keeps λb o e=>(e0.bs b o e).1
 have hkind:∀ y∈ps.zip us,scope.names.lookup y.1=some .local\/(scope.names.lookup y.1=some .cell/\((cellsFrom (s.heap.objs.size+1) scope.names []).lookup y.1).isSome=true):=λ⟨n,v⟩ hy=>by
  rcases S.par n (List.of_mem_zip hy).1 with q | q
  ·exact .inl q
  ·exact .inr ⟨q,PySem.W.cellsFrom_some _ _ _ (.inl q)⟩
 refine codeAny_call_function hr.depth (KX _ _ lk) rfl S.co S.gen rfl (PySem.W.codeRec_of KX hcd) (hb _ _ _ _ ?_)
 refine wpAny_newFunctionEnv_cells S.kind hkind λenv he s1 x=>?_
 subst he
 refine⟨lim.keeps x.toInCall.keep,codeAny_func ?_⟩
 obtain⟨t,ht,hq⟩:=hbody A outer s H vs Q E (hr.deeper _) hsp
 have I:Inv (cxOf CX P w K mg base N qual scope f cdv A outer s H E) [] (start N vs) H s1:=zmt S hr.hd e0 hl r x
 refine wpAny_mono (ht [] s1 (start N vs) H _ I hq) (λfl s' hs=>?_) λe s' hs=>hs
 have fin:∀ {σ':St}{H':Hp}{v:V}{u:Value},Inv (cxOf CX P w K mg base N qual scope f cdv A outer s H E) [] σ' H' s'->RelV v u->Q v H'->CE outer P w H s Q u s':=
  λ{σ' H' v u} J rv q=>⟨v,H',J.os,J.bare,J.base,J.hok,rv,q⟩
 cases fl with
 | ret u=>
  obtain⟨v,σ',H',J,rv,q⟩:=hs
  exact fin J rv q
 | next=>
  obtain⟨σ',H',J,q⟩:=hs
  exact fin (v:=V.non) (u:=Value.none) J rfl q
 | brk=>
  obtain⟨_,_,_,q⟩:=hs
  exact False.elim q
 | cont=>
  obtain⟨_,_,_,q⟩:=hs
  exact False.elim q
section
variable {X:Cx}{x:Str}{p pos:Pos}{e:Expr}{es:List Expr}{t:TA}{id T:String}{r:List V->Hp->VK->Prop}

def tCB (r:List V->Hp->VK->Prop)(t:TA):TE:=λσ H Q=>t σ H λvs H1=>r vs H1 Q
theorem zav (hc:zcd X (.builtin id) r)(hg:Gl X x)(hm:X.mg x=none)(hv:bootBuiltins x=some (.builtin id))(ha:PA X (e::es) t)(hn:x≠ "__name__":=by decide)(hdb:(x == ("__debug__" : Str))=false:=by decide)
  (he:starEach (e::es) X.env=(false,eval e X.env)::starEach es X.env:=by rfl) (hpl:(backTo pos (starEach es X.env)).any (·.1)=false:=by rfl):PE X (.Call (.Name x p) (e::es) [] pos) (tCB r t):=by
 intro pins s σ H Q I h
 refine wpAny_Call_Name_kw (zhR I hg hm hv ?_ hn hdb)
 exact PyProof.Rows.callWith_builtin1 (thn (ha pos pins s σ H _ I h) λus s1 ⟨vs,H1,I1,r1,q1⟩=>hc pins s1 σ H1 vs us Q I1 r1 q1) he hpl
theorem zdH (hc:zcd X (.type T) r)(hg:Gl X x)(hm:X.mg x=none)(hv:bootBuiltins x=some (.type T))(ha:PA X (e::es) t)(hn:x≠ "__name__":=by decide)(hdb:(x == ("__debug__" : Str))=false:=by decide)
  (he:starEach (e::es) X.env=(false,eval e X.env)::starEach es X.env:=by rfl) (hpl:(backTo pos (starEach es X.env)).any (·.1)=false:=by rfl):PE X (.Call (.Name x p) (e::es) [] pos) (tCB r t):=by
 intro pins s σ H Q I h
 refine wpAny_Call_Name_kw (zhR I hg hm hv ?_ hn hdb)
 exact PyProof.Rows.callWith_type1 (thn (ha pos pins s σ H _ I h) λus s1 ⟨vs,H1,I1,r1,q1⟩=>hc pins s1 σ H1 vs us Q I1 r1 q1) he hpl
end
end L2

namespace HT
open PySem PyProof.Rows

section
open PySem.SeqAt
open PySem.AutoSeq1 (wpAny_loadPart')
open PySem.MeetsSeq PySem.MeetsSeq2 PySem.MeetsSeq3

end

variable {Q:Value->Shared->Prop}{vl vu:Value}{lo hi:Option Int}
section
variable {prog:Program}{w:World}{A:Around}{E:Value->Shared->Prop}{s:Shared}

theorem cat_tup{t b:Addr}{vs ws:List Value}(ht:IsTup s.heap t vs.toArray)(hb:IsTup s.heap b ws.toArray)(hv:vs≠[])(h1:ws=[]->Q (.ref t) s)(h2:ws≠[]->Q (.ref s.heap.objs.size) {s with heap:=s.heap.push {cls:=.type "tuple",data:=.seq (vs++ws).toArray}})(hsz:vs.length+ws.length<=sizeLine):wpAny (model prog w) A (binaryOp .Add (.ref t) (.ref b)) Q E s:=by
 obtain⟨⟨cls,dd,data,sl⟩,ho,hc,n,hd⟩:=id ht
 obtain⟨⟨cls2,dd2,data2,sl2⟩,ho2,hc2,n2,hd2⟩:=id hb
 simp only at hc hd hc2 hd2
 subst hc hd hc2 hd2
 have e:vs.toArray++ws.toArray=(vs++ws).toArray:=by simp
 by_cases hw:ws=[]
 ·exact concat_meets ⟨_,ho,rfl⟩ ⟨_,ho2,rfl⟩ noFill_tuple_add seq_tuple_add PySem.F.slot_tuple_add PySem.F.entry_tuple_add (PySem.F.args_tuple_add_2 _ _)
   (tuple_addW1 t b vs.toArray ws.toArray n n2 dd dd2 sl sl2 (by simpa using hv) (by simp[hw])) ⟨ho,ho2,h1 hw⟩
 ·refine concat_meets ⟨_,ho,rfl⟩ ⟨_,ho2,rfl⟩ noFill_tuple_add seq_tuple_add PySem.F.slot_tuple_add PySem.F.entry_tuple_add (PySem.F.args_tuple_add_2 _ _)
   (tuple_addW2 t b vs.toArray ws.toArray n n2 dd dd2 sl sl2 (by simpa using hv) (by simpa using hw) (by rw[zst,zst];exact hsz)) ⟨ho,ho2,?_⟩
  rw[e]
  exact h2 hw
def sIx (n d:Nat):Option Int->Nat
 | none=>d
 | some v=>if v<0 then (v+(n:Int)).toNat else min v.toNat n
theorem sIx_none (n d:Nat):sIx n d none=d:=rfl
theorem sIx_nat (n d k:Nat):sIx n d (some (k:Int))=min k n:=by
 show (if (k:Int)<0 then ((k:Int)+(n:Int)).toNat else min (k:Int).toNat n)=min k n
 rw[if_neg (by omega),Int.toNat_natCast]
theorem zqJ (n d:Nat)(hd:d<=n)(o:Option Int):sIx n d o<=n:=by
 cases o with
 | none=>exact hd
 | some v=>
  show (if v<0 then (v+(n:Int)).toNat else min v.toNat n)<=n
  by_cases hv:v<0
  ·rw[if_pos hv];omega
  ·rw[if_neg hv];exact Nat.min_le_right _ _
theorem zmu (v:Int)(n d:Nat):(if v<0 then max (v+(n:Int)) 0 else min v (n:Int))=((sIx n d (some v):Nat):Int):=by
 show (if v<0 then max (v+(n:Int)) 0 else min v (n:Int))=(((if v<0 then (v+(n:Int)).toNat else min v.toNat n):Nat):Int)
 by_cases hv:v<0
 ·simp only[if_pos hv];omega
 ·simp only[if_neg hv];omega
theorem zlA (lo hi:Option Int)(n:Nat):Builtin.Slice.sliceAdjust lo hi 1 (n:Int)=(((sIx n 0 lo:Nat):Int),((sIx n n hi:Nat):Int)):=by
 have h1:¬ ((1:Int)<0):=by omega
 unfold Builtin.Slice.sliceAdjust
 simp only[h1,if_false]
 refine Prod.ext ?_ ?_
 ·cases lo with
  | none=>rfl
  | some v=>exact zmu v n 0
 ·cases hi with
  | none=>rfl
  | some v=>exact zmu v n n
theorem zlB (i j:Nat):Builtin.Slice.slicePlaces (i:Int) (j:Int) 1=j - i:=by
 unfold Builtin.Slice.slicePlaces
 have h1:(1:Int)>0:=by omega
 simp only[h1,if_true,Int.ediv_one]
 split <;> omega
theorem zhV {v:Value}{o:Option Int}{Q:Option Int->Shared->Prop}(p:IsPart v o)(h:Q o s):wpAny (model prog w) A (Builtin.Slice.slicePartIndex v) Q E s:=by
 cases p with
 | none=>exact slicePart_none h
 | int i t=>exact slicePart_int h
theorem zga{sl:Addr}{n:Nat}{Q:Int × Int × Nat->Shared->Prop}(hs:s.heap.IsSliceOf sl vl vu .none)(pl:IsPart vl lo)(pu:IsPart vu hi)(h:Q (((sIx n 0 lo:Nat):Int),1,sIx n n hi - sIx n 0 lo) s):wpAny (model prog w) A (Builtin.Slice.sliceApplied (.ref sl) (pure (n:Int))) Q E s:=by
 obtain⟨os,hos,hcs,hds⟩:=id hs
 unfold Builtin.Slice.sliceApplied Builtin.Slice.sliceFields
 refine wpAny_bind (wpAny_bind (wpAny_field hos hds (x:=vl) rfl (wpAny_bind (wpAny_field hos hds (x:=vu) rfl (wpAny_bind (wpAny_field hos hds (x:=.none) rfl (wpAny_pure ?_)))))))
 refine wpAny_bind (slicePart_none ?_)
 show wpAny _ _ (if ((1:Int) == 0)=true then _ else _) _ _ s
 rw[if_neg (by decide)]
 refine wpAny_bind (zhV pl (wpAny_bind (zhV pu (wpAny_bind (wpAny_pure ?_)))))
 show wpAny _ _ (match Builtin.Slice.sliceAdjust lo hi 1 (n:Int) with | (lo,hi)=>pure (lo,(1:Int),Builtin.Slice.slicePlaces lo hi 1)) _ _ s
 rw[zlA lo hi n]
 show wpAny _ _ (pure (((sIx n 0 lo:Nat):Int),(1:Int),Builtin.Slice.slicePlaces ((sIx n 0 lo:Nat):Int) ((sIx n n hi:Nat):Int) 1)) _ _ s
 rw[zlB]
 exact wpAny_pure h
theorem znR (xs:Array Value)(i k:Nat):((List.range k).filterMap λ(m:Nat)=>xs[((i:Int)+(m:Int) * 1).toNat]?).toArray=((xs.toList.drop i).take k).toArray:=by
 have e:(λ(m:Nat)=>xs[((i:Int)+(m:Int) * 1).toNat]?)=λm=>xs[i+m]?:=by
  funext m
  have:((i:Int)+(m:Int) * 1).toNat=i+m:=by omega
  rw[this]
 rw[e]
 have:=pick_run xs i k
 rw[List.filterMap_map] at this
 have e2:((λx=>xs[x]?) ∘ λx=>i+x)=λm=>xs[i+m]?:=rfl
 rw[e2] at this
 rw[this]
theorem getItem_tuple_cut{t sl:Addr}{items:Array Value}(ht:IsTup s.heap t items)(hs:s.heap.IsSliceOf sl vl vu .none)(pl:IsPart vl lo)(pu:IsPart vu hi)(hw:¬ (sIx items.size 0 lo=0/\sIx items.size items.size hi=items.size))(h:Q (.ref s.heap.objs.size) {s with heap:=s.heap.push {cls:=.type "tuple",data:=.seq ((items.toList.drop (sIx items.size 0 lo)).take (sIx items.size items.size hi - sIx items.size 0 lo)).toArray}})(hsz:items.size<=sizeLine):wpAny (model prog w) A (getItem (.ref t) (.ref sl)) Q E s:=by
 have htake:sizeOk (.seq ((items.toList.drop (sIx items.size 0 lo)).take (sIx items.size items.size hi - sIx items.size 0 lo)).toArray):=by
  show ((items.toList.drop (sIx items.size 0 lo)).take (sIx items.size items.size hi - sIx items.size 0 lo)).toArray.size<=sizeLine
  rw[zst,List.length_take,List.length_drop,Array.length_toList]
  omega
 have hj:sIx items.size items.size hi<=items.size:=zqJ _ _ (Nat.le_refl _) hi
 obtain⟨os,hos,hcs,hds⟩:=id hs
 have hTs:s.TypeIs (.ref sl) "slice":=⟨os,hos,hcs⟩
 unfold getItem
 try with_reducible refine wpAny_holding ?_
 first | refine wpAny_bind (wpAny_pure ?_) | skip
 refine wpAny_bind (wpAny_sequenceKey ht.typeIs (by decide) ?_)
 refine wpAny_bind (wpAny_callSpecial?_slot (name:=Str.ofString "__getitem__") ht.typeIs PyProof.Rows.slot_tuple_getitem
  (wpAny_call_entry PyProof.Rows.slot_tuple_getitem ht.typeIs entry_tuple_getitem ?_ (args_tuple_getitem _ _)))
 show wpAny _ _ (Builtin.Tuple.tupleItemsOf (.ref t) >>= _) _ _ s
 refine wpAny_bind (tupleItemsOf_ ht ?_)
 refine wpAny_bind (wpAny_typeOf hTs ?_)
 rw[if_pos (by decide)]
 refine wpAny_bind (zga hs pl pu ?_)
 have hno:¬ ((((sIx items.size 0 lo:Nat):Int) == 0 && (1:Int) == 1 && (sIx items.size items.size hi - sIx items.size 0 lo) == items.size)=true):=by
  intro q
  rw[Bool.and_eq_true,Bool.and_eq_true] at q
  have q1:((sIx items.size 0 lo:Nat):Int)=0:=eq_of_beq q.1.1
  have q2:sIx items.size items.size hi - sIx items.size 0 lo=items.size:=eq_of_beq q.2
  exact hw ⟨by omega,by omega⟩
 show wpAny _ _ (if (((sIx items.size 0 lo:Nat):Int) == 0 && (1:Int) == 1 && (sIx items.size items.size hi - sIx items.size 0 lo) == items.size)=true then _ else _) _ _ s
 rw[if_neg hno,znR]
 first
  | exact wpAny_bind (m:=Builtin.Tuple.tupleExact _) (wpAny_newObj_type (wpAny_pure ⟨_,rfl,wpAny_pure h⟩) htake)
  | exact wpAny_bind (m:=Builtin.Tuple.tupleExact _) (wpAny_newObj_type (wpAny_bind (wpAny_pure (wpAny_pure ⟨_,rfl,wpAny_pure h⟩))) htake)
  | exact wpAny_bind (wpAny_bind (m:=Builtin.Tuple.tupleExact _) (wpAny_newObj_type (wpAny_pure (wpAny_pure ⟨_,rfl,wpAny_pure h⟩)) htake))
  | exact wpAny_bind (wpAny_bind (m:=Builtin.Tuple.tupleExact _) (wpAny_newObj_type (wpAny_pure ⟨_,rfl,wpAny_pure h⟩) htake))
end
end HT

namespace L2
open PySem PySem.Spec PyProof.Rows

abbrev TO:=St->Hp->(Option Int->Hp->Prop)->Prop
def PO (X:Cx)(e:Option Expr)(t:TO):Prop:=
 ∀ (pins:List (Addr × Obj)) (s:Shared) (σ:St) (H:Hp) (Q:Option Int->Hp->Prop),Inv X pins σ H s->t σ H Q->
  wpAny (model X.prog X.w) X.A (evalPart e X.env) (λu s'=>∃ o H',Inv X pins σ H' s'/\IsPart u o/\Q o H') X.xe s
def zmv:TO:=λ_ H Q=>Q none H
def zqK (t:TE):TO:=λσ H Q=>t σ H λx H1=>∃ i,x=.int i/\Q (some i) H1
theorem zhW {ns:List Int} : ∀ {us:List Value},Vals (ns.map V.int) us->IntsAre us ns:=by
 induction ns with
 | nil=>intro us r;rw[List.map_nil] at r;cases r;exact .nil
 | cons n ns ih=>
  intro us r
  rw[zmc] at r
  cases r with
  | cons r1 r2=>
   obtain⟨t,e⟩:=r1
   subst e
   exact .cons n t (ih r2)
variable {r:V->Option Int->Option Int->Hp->VK->Prop}{xs:List V}{us:List Value}
section
variable {X:Cx}{e:Expr}{te:TE}{lo hi:Option Expr}{tl th:TO}{pos p2:Pos}

theorem zgI:PO X none zmv:=by
 intro pins s σ H Q I h
 rw[evalPart_none]
 exact wpAny_pure ⟨none,H,I,.none,h⟩
theorem zgJ (h:PE X e te):PO X (some e) (zqK te):=by
 intro pins s σ H Q I hw
 rw[evalPart_some]
 refine thn (h pins s σ H _ I hw) λu s1 ⟨x,H1,I1,r1,q1⟩=>?_
 obtain⟨i,rfl,q⟩:=q1
 obtain⟨t,rfl⟩:=r1
 exact⟨some i,H1,I1,.int i t,q⟩
def SlR (X:Cx)(r:V->Option Int->Option Int->Hp->VK->Prop):Prop:=
 ∀ (pins:List (Addr × Obj)) (s:Shared) (σ:St) (H:Hp) (x:V) (v vl vu:Value) (lo hi:Option Int) (sl:Addr) (Q:VK),Inv X pins σ H s->RelV x v->s.heap.IsSliceOf sl vl vu .none->IsPart vl lo->IsPart vu hi->r x lo hi H Q->
  ∃ T id,typeLookup (.type T) "__getitem__"=pure (some (.builtin id))/\s.TypeIs v T/\wpAny (model X.prog X.w) X.A (getItem v (.ref sl)) (EP X pins σ Q) X.xe s
theorem SlR.or{r':V->Option Int->Option Int->Hp->VK->Prop}(h:SlR X r)(h':SlR X r'):SlR X (λx lo hi H Q=>r x lo hi H Q\/r' x lo hi H Q):=by
 intro pins s σ H x v vl vu lo hi sl Q I rx hs pl pu q
 rcases q with q | q
 ·exact h pins s σ H x v vl vu lo hi sl Q I rx hs pl pu q
 ·exact h' pins s σ H x v vl vu lo hi sl Q I rx hs pl pu q
def tSl (r:V->Option Int->Option Int->Hp->VK->Prop)(te:TE)(tl th:TO):TE:=λσ H Q=>te σ H λx H1=>tl σ H1 λl H2=>th σ H2 λu H3=>r x l u H3 Q
theorem zfh(hr:SlR X r)(he:PE X e te)(hl:PO X lo tl)(hu:PO X hi th):PE X (.Subscript e (.Slice lo hi none p2) pos) (tSl r te tl th):=by
 intro pins s σ H Q I h
 refine Subscript_ (thn (he pins s σ H _ I h) λv s1 ⟨x,H1,I1,r1,q1⟩=>?_)
 refine wpAny_Slice (thn (hl pins s1 σ H1 _ I1 q1) λvl s2 ⟨l,H2,I2,pl,q2⟩=>thn (hu pins s2 σ H2 _ I2 q2) λvu s3 ⟨u,H3,I3,pu,q3⟩=>?_)
 rw[evalPart_none]
 refine wpAny_pure ?_
 have I4:Inv X pins σ H3 {s3 with heap:=s3.heap.push {cls:=.type "slice",data:=.fields #[vl,vu,.none]}}:=I3.kept (t':=s3.toks) λb ob q=>Heap.get?_push_of_some _ q
 obtain⟨T,id,hT,ht,hg⟩:=hr pins {s3 with heap:=s3.heap.push {cls:=.type "slice",data:=.fields #[vl,vu,.none]}} σ H3 x v vl vu l u s3.heap.objs.size Q I4 r1 (Heap.IsSliceOf.new ..) pl pu q3
 show wpAny (model X.prog X.w) X.A (subscriptTail e (.Slice lo hi none p2) v (.ref s3.heap.objs.size)) (EP X pins σ Q) X.xe {s3 with heap:=s3.heap.push {cls:=.type "slice",data:=.fields #[vl,vu,.none]}}
 exact tail_any (ops:=[.ref s3.heap.objs.size,v]) ht hT hg (by with_unfolding_all rfl)
def cutV (xs:List V)(lo hi:Option Int):List V:=(xs.drop (HT.sIx xs.length 0 lo)).take (HT.sIx xs.length xs.length hi - HT.sIx xs.length 0 lo)
theorem zgK (xs:List V)(lo hi:Option Int):(cutV xs lo hi).length<=xs.length:=by
 unfold cutV
 rw[List.length_take,List.length_drop]
 omega
def rSlT (K:Fg):V->Option Int->Option Int->Hp->VK->Prop:=λx lo hi H Q=>∃ a xs,x=.ref a/\SqT K H a xs/\
 ¬ (HT.sIx xs.length 0 lo=0/\HT.sIx xs.length xs.length hi=xs.length)/\∀ p,H p=none->Q (.ref p) (upd H p (.tup (cutV xs lo hi)))
theorem zqL:SlR X (rSlT X.K):=by
 intro pins s σ H x v vl vu lo hi sl Q I rx hs pl pu h
 obtain⟨a,xs,rfl,hx,hw,q⟩:=h
 cases rx
 obtain⟨its,r,ht,hz⟩:=I.tuple hx
 have hlen:its.toArray.size=xs.length:=by rw[zst];exact r.length.symm
 refine⟨"tuple",_,PyProof.Rows.slot_tuple_getitem.lookup,ht.typeIs,?_⟩
 refine HT.getItem_tuple_cut ht hs pl pu (by rw[hlen];exact hw) ?_ (by rw[hlen];exact hz)
 rw[hlen]
 refine⟨.ref s.heap.objs.size,_,I.laid (t':=s.toks) (o:=.tup (cutV xs lo hi)) (λb ob q=>Heap.get?_push_of_some _ q) (Nat.le_refl _) ?_,rfl,q _ (I.hok.fresh (Nat.le_refl _))⟩
 exact⟨Nat.le_trans (zgK xs lo hi) hz,_,(r.drop (HT.sIx xs.length 0 lo)).take (HT.sIx xs.length xs.length hi - HT.sIx xs.length 0 lo),IsTup.new _ _⟩
def zqM (K:Fg):R2:=λx y H Q=>∃ a b xs ys,x=.ref a/\y=.ref b/\SqT K H a xs/\SqT K H b ys/\xs≠[]/\xs.length+ys.length<=sizeLine/\
 (ys=[]->Q (.ref a) H)/\(ys≠[]->∀ p,H p=none->Q (.ref p) (upd H p (.tup (xs++ys))))
theorem Vals.nil_iff(r:Vals xs us):us=[]↔xs=[]:=by
 cases r with
 | nil=>simp
 | cons _ _=>simp
theorem zpr:OpR X (binaryOp .Add) (zqM X.K):=by
 intro pins s σ H x y v u Q I rx ry h
 obtain⟨a,b,xs,ys,rfl,rfl,ha,hb,hx,hz,q1,q2⟩:=h
 cases rx
 cases ry
 obtain⟨its,r1,p1,_⟩:=I.tuple ha
 obtain⟨its2,r2,p2,_⟩:=I.tuple hb
 refine HT.cat_tup p1 p2 (λz=>hx (r1.nil_iff.mp z)) (λz=>⟨.ref a,H,I,rfl,q1 (r2.nil_iff.mp z)⟩) (λz=>?_) (by rw[<-r1.length,<-r2.length];exact hz)
 refine⟨.ref s.heap.objs.size,_,I.laid (t':=s.toks) (o:=.tup (xs++ys)) (λb ob q=>Heap.get?_push_of_some _ q) (Nat.le_refl _) ?_,rfl,q2 (λw=>z (r2.nil_iff.mpr w)) _ (I.hok.fresh (Nat.le_refl _))⟩
 exact⟨by rw[List.length_append];exact hz,_,r1.append r2,IsTup.new _ _⟩
end

def ixN (n:Nat)(i:Int):Option Nat:=if 0<=i then (if i<n then some i.toNat else none) else if -(n:Int)<=i then some (i+n).toNat else none
def atI {α:Type}(xs:List α)(i:Int):Option α:=(ixN xs.length i).bind λj=>xs[j]?
variable {n j:Nat}{i:Int}
theorem zmw(h:ixN n i=some j):seqIndex? i n=some j/\j<n/\-(n:Int)<=i/\i<n:=by
 unfold ixN at h
 by_cases h0:0<=i
 ·rw[if_pos h0] at h
  by_cases h1:i<n
  ·rw[if_pos h1] at h
   have e:i.toNat=j:=Option.some.inj h
   exact⟨by rw[seqIndex_of h0 h1,e],by omega,by omega,h1⟩
  ·rw[if_neg h1] at h;cases h
 ·rw[if_neg h0] at h
  by_cases h1:-(n:Int)<=i
  ·rw[if_pos h1] at h
   have e:(i+n).toNat=j:=Option.some.inj h
   exact⟨by rw[seqIndex_neg (by omega) h1,e],by omega,h1,by omega⟩
  ·rw[if_neg h1] at h;cases h
variable {α:Type}
theorem zj6{xs:List α}{v:α}(h:atI xs i=some v):∃ j,seqIndex? i xs.length=some j/\xs[j]?=some v/\j<xs.length/\-(xs.length:Int)<=i/\i<xs.length:=by
 unfold atI at h
 cases e:ixN xs.length i with
 | none=>rw[e] at h;cases h
 | some j=>
  rw[e] at h
  obtain⟨h1,h2,h3,h4⟩:=zmw e
  exact⟨j,h1,h,h2,h3,h4⟩
theorem zaB{xs:List α}{v:α}(h:xs[j]?=some v):atI xs (j:Int)=some v:=by
 have hj:j<xs.length:=(zge.mp h).1
 have e:ixN xs.length (j:Int)=some j:=by
  unfold ixN
  rw[if_pos (by omega),if_pos (by omega)];simp
 unfold atI;rw[e];exact h
def zps (b:Expr):Prop:=∀ o i,subscripted b false o i=operate [o,i] (getItem o i)
def IxR (X:Cx)(r:R2):Prop:=
 ∀ (value slice:Expr) (pins:List (Addr × Obj)) (s:Shared) (σ:St) (H:Hp) (x y:V) (v u:Value) (Q:VK),Inv X pins σ H s->RelV x v->RelV y u->r x y H Q->
  subscripted slice false v u=operate [v,u] (getItem v u)->wpAny (model X.prog X.w) X.A (subscriptTail value slice v u) (EP X pins σ Q) X.xe s
def MtR (X:Cx)(id:String)(r:V->List V->Hp->VK->Prop):Prop:=
 ∀ (pins:List (Addr × Obj)) (s:Shared) (σ:St) (H:Hp) (x:V) (xs:List V) (v:Value) (us:List Value) (Q:VK),Inv X pins σ H s->RelV x v->Vals xs us->r x xs H Q->
  wpAny (model X.prog X.w) X.A (call (.builtin id) (v::us)) (EP X pins σ Q) X.xe s
variable {pins:List (Addr × Obj)}{σ:St}{H:Hp}{s:Shared}{p:Addr}{its its':List Value}{A:Around}{y x:V}{u v:Value}{T:String}
section
variable {X:Cx}{a b:Expr}{ta tb:TE}{pos:Pos}
theorem IxR.or {r r':R2}(h:IxR X r)(h':IxR X r'):IxR X (λx y H Q=>r x y H Q\/r' x y H Q):=by
 intro value slice pins s σ H x y v u Q I rx ry q hs
 rcases q with q | q
 ·exact h value slice pins s σ H x y v u Q I rx ry q hs
 ·exact h' value slice pins s σ H x y v u Q I rx ry q hs
theorem zau {r:R2}(hr:IxR X r)(ha:PE X a ta)(hb:PE X b tb)(hs:zps b):PE X (.Subscript a b pos) (tOp r ta tb):=by
 intro pins s σ H Q I h
 exact Subscript_ (binT ha hb I h λv u s2 x y H2 I2 rx ry q=>hr a b pins s2 σ H2 x y v u Q I2 rx ry q (hs _ _))
def rIxL (K:Fg):R2:=λx y H Q=>∃ p xs i v,x=.ref p/\y=.int i/\SqL K H p xs/\atI xs i=some v/\Q v H
def rIxT (K:Fg):R2:=λx y H Q=>∃ p xs i v,x=.ref p/\y=.int i/\SqT K H p xs/\atI xs i=some v/\Q v H
def rIxS:R2:=λx y H Q=>∃ z i c,x=.str z/\y=.int i/\z.length<=sizeLine/\atI z.cps.toList i=some c/\Q (.str ⟨#[c]⟩) H
theorem zpt:IxR X (rIxL X.K):=by
 intro value slice pins s σ H x y v u Q I rx ry h hs
 obtain⟨p,xs,i,z,rfl,rfl,hq,he,q⟩:=h
 cases rx
 obtain⟨t,rfl⟩:=ry
 obtain⟨its,r,pl,hz⟩:=I.list hq
 obtain⟨j,h1,h2,h3,h4,h5⟩:=zj6 he
 obtain⟨w,ew,rw'⟩:=r.get h2
 have hl:=r.length
 have hn:=zhU
 have fin:EP X pins σ Q w s:=⟨z,H,I,rw',q⟩
 by_cases h0:0<=i
 ·have hj:i.toNat=j:=by
   rw[seqIndex_of h0 h5] at h1
   exact Option.some.inj h1
  exact item_listR pl.isList h0 (by omega) (by rw[hj];simpa using ew) fin hs
 ·have hj:(i+(its.toArray.size:Int)).toNat=j:=by
   rw[seqIndex_neg (by omega) h4] at h1
   rw[zst,<-hl]
   exact Option.some.inj h1
  exact subscriptTail_builtinR (x:=w) pl.isList.typeIs slot_list_getitem.lookup
   (wpAny_getItem_list_neg (Q:=λr s'=>r=w/\EP X pins σ Q r s') pl.isList (by omega) (by rw[zst] <;> omega) (by omega) (by rw[hj];simpa using ew) ⟨rfl,fin⟩) hs
theorem zqN:IxR X (rIxT X.K):=by
 intro value slice pins s σ H x y v u Q I rx ry h hs
 obtain⟨p,xs,i,z,rfl,rfl,hq,he,q⟩:=h
 cases rx
 obtain⟨t,rfl⟩:=ry
 obtain⟨its,r,pl,hz⟩:=I.tuple hq
 obtain⟨j,h1,h2,h3,h4,h5⟩:=zj6 he
 obtain⟨w,ew,rw'⟩:=r.get h2
 have hl:=r.length
 have hn:=zhU
 have fin:EP X pins σ Q w s:=⟨z,H,I,rw',q⟩
 exact subscriptTail_builtinR (x:=w) pl.typeIs slot_tuple_getitem.lookup
  (getItem_tuple (j:=j) (Q:=λr s'=>r=w/\EP X pins σ Q r s') pl (by omega) (by omega) (by rw[zst,<-hl];exact h1) (by simpa using ew) ⟨rfl,fin⟩) hs
theorem zqO:IxR X rIxS:=by
 intro value slice pins s σ H x y v u Q I rx ry h hs
 obtain⟨z,i,c,rfl,rfl,hz,he,q⟩:=h
 obtain⟨t,rfl⟩:=rx
 obtain⟨t',rfl⟩:=ry
 obtain⟨j,h1,h2,h3,h4,h5⟩:=zj6 he
 have hl:z.cps.toList.length=z.length:=by simp[Str.length]
 rw[hl] at h1 h4 h5
 have hn:=zhU
 exact tail_any (typeIs_str s z t) slot_str_getitem.lookup (getItem_str (c:=c) (by
  have e1:decide (i < -(2 ^ 63:Int))=false:=decide_eq_false (by omega)
  have e2:decide (i≥2 ^ 63)=false:=decide_eq_false (by omega)
  rw[e1,e2,Bool.or_false]) (by rw[h1];simpa using h2) ⟨.str ⟨#[c]⟩,H,I.tok _,⟨_,rfl⟩,q⟩) hs
def rIx (K:Fg):R2:=λx y H Q=>rIxL K x y H Q\/rIxT K x y H Q\/rIxS x y H Q
theorem zqP:IxR X (rIx X.K):=zpt.or (zqN.or zqO)
theorem zlC (its:List Value)(n j:Nat)(u:Value):Obj.mapSeq (·.setIfInBounds j u) {cls:=.type "list",data:=.seq its.toArray n}={cls:=.type "list",data:=.seq (its.set j u).toArray n}:=by
 simp[Obj.mapSeq]
theorem Inv.lst(I:Inv X pins σ H s)(h:H p=some (.lst xs)):
  ∃ (its:List Value) (n:Nat),Vals xs its/\s.heap.get? p=some {cls:=.type "list",data:=.seq its.toArray n}/\xs.length<=sizeLine:=by
 obtain⟨z,its,n,r,e⟩:=I.hok p _ h
 exact⟨its,n,r,e,z⟩
theorem Inv.lstUpd{ys:List V}{n':Nat}{f:Obj->Obj}(I:Inv X pins σ H s)(h:H p=some (.lst xs))(ho:s.heap.get? p=some {cls:=.type "list",data:=.seq its.toArray n})(hf:f {cls:=.type "list",data:=.seq its.toArray n}={cls:=.type "list",data:=.seq its'.toArray n'})(r:Vals ys its')(hz:ys.length<=sizeLine)(t:Nat):
  Inv X pins σ (upd H p (.lst ys)) {s with heap:=s.heap.update p f,toks:=t}:=by
 have e:(s.heap.update p f).get? p=some {cls:=.type "list",data:=.seq its'.toArray n'}:=by
  rw[Heap.get?_update_self f ho (by rw[hf] <;> rfl),hf]
 refine I.write (x:=p) (e:=p) (by rw[h];trivial) (.inl rfl) (λb u hb q=>(Heap.get?_update_other _ _ (Ne.symm hb)).trans q) ⟨_,e⟩ ?_
 exact⟨hz,its',n',r,e⟩
def zqQ:V->V->V->Hp->(Hp->Prop)->Prop:=λo i v H Q=>∃ p xs k j,o=.ref p/\i=.int k/\H p=some (.lst xs)/\ixN xs.length k=some j/\Q (upd H p (.lst (xs.set j v)))
theorem zgq:PSet X zqQ:=by
 intro pins s σ H o i v ov iv u Q I ro ri rv h
 obtain⟨p,xs,k,j,rfl,rfl,hp,hj,q⟩:=h
 cases ro
 obtain⟨t,rfl⟩:=ri
 obtain⟨its,n,r,ho,hz⟩:=I.lst hp
 obtain⟨h1,h2,h3,h4⟩:=zmw hj
 have hl:=r.length
 have hn:=zhU
 have I':Inv X pins σ (upd H p (.lst (xs.set j v))) {s with heap:=s.heap.update p (Obj.mapSeq (·.setIfInBounds j u))}:=
  I.lstUpd hp ho (zlC its n j u) (r.set rv j) (by rw[List.length_set];exact hz) s.toks
 by_cases h0:0<=k
 ·have hk:k.toNat=j:=by
   rw[seqIndex_of h0 h4] at h1
   exact Option.some.inj h1
  exact PySem.W.ki_setAt ho h0 (by omega) (by rw[zst,<-hl];exact h4) (by rw[hk];exact⟨_,I',q⟩)
 ·have hk:(k+(its.toArray.size:Int)).toNat=j:=by
   rw[seqIndex_neg (by omega) h3] at h1
   rw[zst,<-hl]
   exact Option.some.inj h1
  exact PySem.W.ki_setBack ho (by omega) (by rw[zst,<-hl];exact h3) (by omega) (by rw[hk];exact⟨_,I',q⟩)
theorem zi2 (lo hi:Option Int)(n:Nat):(sliceBounds lo hi none n).1=((HT.sIx n 0 lo:Nat):Int)/\(sliceBounds lo hi none n).2.1=((HT.sIx n n hi:Nat):Int)/\(sliceBounds lo hi none n).2.2=1:=by
 refine⟨?_,?_,rfl⟩
 ·cases lo with
  | none=>simp[sliceBounds,HT.sIx]
  | some i=>
   simp only[sliceBounds,HT.sIx,Option.getD_none,show (1:Int)>0 by decide,if_true]
   by_cases h:i<0
   ·simp only[h,if_true] <;> omega
   ·simp only[h,if_false] <;> omega
 ·cases hi with
  | none=>simp[sliceBounds,HT.sIx]
  | some i=>
   simp only[sliceBounds,HT.sIx,Option.getD_none,show (1:Int)>0 by decide,if_true]
   by_cases h:i<0
   ·simp only[h,if_true] <;> omega
   ·simp only[h,if_false] <;> omega
theorem zim (its:List Value)(lo hi:Option Int):slicePick its.toArray lo hi none=((its.drop (HT.sIx its.length 0 lo)).take (HT.sIx its.length its.length hi - HT.sIx its.length 0 lo)).toArray:=by
 obtain⟨h1,h2,h3⟩:=zi2 lo hi its.toArray.size
 unfold slicePick
 rw[h1,h2,h3]
 simp only[sliceRange_one,pick_run,zst] <;> rfl
def rSlL (K:Fg):V->Option Int->Option Int->Hp->VK->Prop:=λx lo hi H Q=>∃ a xs,x=.ref a/\SqL K H a xs/\∀ p,H p=none->Q (.ref p) (upd H p (.lst (cutV xs lo hi)))
theorem zpu:SlR X (rSlL X.K):=by
 intro pins s σ H x v vl vu lo hi sl Q I rx hs pl pu h
 obtain⟨a,xs,rfl,hx,q⟩:=h
 cases rx
 obtain⟨its,r,ht,hz⟩:=I.list hx
 have hlen:=r.length
 refine⟨"list",_,slot_list_getitem.lookup,ht.isList.typeIs,?_⟩
 refine wpAny_getItem_list_slice ht.isList hs pl pu .none (by simp) ?_ (by rw[zst] <;> omega)
 rw[zim,<-hlen]
 refine⟨.ref s.heap.objs.size,_,I.laid (t':=s.toks) (o:=.lst (cutV xs lo hi)) (λb ob q=>Heap.get?_push_of_some _ q) (Nat.le_refl _) ?_,rfl,q _ (I.hok.fresh (Nat.le_refl _))⟩
 exact⟨Nat.le_trans (zgK xs lo hi) hz,_,0,(r.drop (HT.sIx xs.length 0 lo)).take (HT.sIx xs.length xs.length hi - HT.sIx xs.length 0 lo),Heap.get?_push_size _ rfl⟩
def zeP:V->Bool
 | .non=>true
 | .bl _=>true
 | .int _=>true
 | .str _=>true
 | _=>false
def eqV:V->V->Bool
 | .non,.non=>true
 | .bl a,.bl b=>a == b
 | .bl a,.int b=>(if a then 1 else 0) == b
 | .int a,.bl b=>a == (if b then 1 else 0)
 | .int a,.int b=>a == b
 | .str a,.str b=>a == b
 | _,_=>false
theorem zoN(ry:RelV y u)(rx:RelV x v)(fy:zeP y=true)(fx:zeP x=true):SeqAt.EqAt A s u v (eqV y x):=by
 cases y with
 | non=>
  cases ry
  cases x with
  | non=>cases rx;exact SeqAt.EqAt.same _
  | bl b=>cases rx;exact SeqAt.EqAt.none_bool b
  | int b=>obtain⟨t,rfl⟩:=rx;exact SeqAt.EqAt.none_int b t
  | str b=>obtain⟨t,rfl⟩:=rx;exact SeqAt.EqAt.none_str b t
  | _=>exact absurd (show false=true from fx) Bool.false_ne_true
 | bl a=>
  cases ry
  cases x with
  | non=>cases rx;exact SeqAt.EqAt.bool_none a
  | bl b=>cases rx;exact SeqAt.EqAt.bool_bool a b
  | int b=>obtain⟨t,rfl⟩:=rx;exact SeqAt.EqAt.bool_int a b t
  | str b=>obtain⟨t,rfl⟩:=rx;exact SeqAt.EqAt.bool_str a b t
  | _=>exact absurd (show false=true from fx) Bool.false_ne_true
 | int a=>
  obtain⟨t',rfl⟩:=ry
  cases x with
  | non=>cases rx;exact SeqAt.EqAt.int_none a t'
  | bl b=>cases rx;exact SeqAt.EqAt.int_bool a t' b
  | int b=>obtain⟨t,rfl⟩:=rx;exact SeqAt.EqAt.int_int a t' b t
  | str b=>obtain⟨t,rfl⟩:=rx;exact SeqAt.EqAt.int_str a t' b t
  | _=>exact absurd (show false=true from fx) Bool.false_ne_true
 | str a=>
  obtain⟨t',rfl⟩:=ry
  cases x with
  | non=>cases rx;exact SeqAt.EqAt.str_none a t'
  | bl b=>cases rx;exact SeqAt.EqAt.str_bool a t' b
  | int b=>obtain⟨t,rfl⟩:=rx;exact SeqAt.EqAt.str_int a t' b t
  | str b=>obtain⟨t,rfl⟩:=rx;exact SeqAt.EqAt.str_str a t' b t
  | _=>exact absurd (show false=true from fx) Bool.false_ne_true
 | _=>exact absurd (show false=true from fy) Bool.false_ne_true
def eqU (x:V)(u:Value):Bool:=match u with
 | .none=>eqV .non x
 | .bool b=>eqV (.bl b) x
 | .int i _=>eqV (.int i) x
 | .str z _=>eqV (.str z) x
 | _=>false
theorem zoO(r:RelV y u)(f:zeP y=true):eqU x u=eqV y x:=by
 cases y with
 | non=>cases r;rfl
 | bl b=>cases r;rfl
 | int i=>obtain⟨t,rfl⟩:=r;rfl
 | str z=>obtain⟨t,rfl⟩:=r;rfl
 | _=>exact absurd (show false=true from f) Bool.false_ne_true
theorem zj7: ∀ {xs:List V}{us:List Value},Vals xs us->xs.all zeP=true->us.any (eqU x)=xs.any λy=>eqV y x
 | _,_,.nil,_=>rfl
 | y::xs,u::us,.cons r t,f=>by
  rw[List.all_cons,Bool.and_eq_true] at f
  rw[List.any_cons,List.any_cons,zoO r f.1,zj7 t f.2]
theorem zin(rx:RelV x v)(fx:zeP x=true):∀ {xs:List V}{us:List Value},Vals xs us->xs.all zeP=true->∀ u∈us,SeqAt.EqAt A s u v (eqU x u)
 | _,_,.nil,_=>λu hu=>by cases hu
 | y::xs,u::us,.cons r t,f=>λu' hu=>by
  rw[List.all_cons,Bool.and_eq_true] at f
  rcases List.mem_cons.mp hu with rfl | hu
  ·rw[zoO r f.1];exact zoN r rx f.1 fx
  ·exact zin rx fx t f.2 u' hu
def inV (x:V)(xs:List V):Bool:=xs.any λy=>eqV y x
def rIn (K:Fg)(neg:Bool):R2:=λx y H Q=>∃ p xs,y=.ref p/\(SqL K H p xs\/SqT K H p xs)/\zeP x=true/\xs.all zeP=true/\Q (.bl (if neg then !inV x xs else inV x xs)) H
theorem zmx:OpR X (compareOp .In) (rIn X.K false):=by
 intro pins s σ H x y v u Q I rx ry h
 obtain⟨p,xs,rfl,hq,fx,fs,q⟩:=h
 cases ry
 rcases hq with hq | hq
 ·obtain⟨its,r,pl,hz⟩:=I.list hq
  refine SeqAt.in_listAt (eqU x) pl.isList (λw hw=>zin rx fx r fs w (by simpa using hw)) ⟨.bl _,H,I,rfl,?_⟩
  rw[show its.toArray.any (eqU x)=its.any (eqU x) by simp,zj7 r fs]
  exact q
 ·obtain⟨its,r,pl,hz⟩:=I.tuple hq
  refine SeqAt.in_tupleAt (eqU x) pl (λw hw=>zin rx fx r fs w (by simpa using hw)) ⟨.bl _,H,I,rfl,?_⟩
  rw[show its.toArray.any (eqU x)=its.any (eqU x) by simp,zj7 r fs]
  exact q
theorem zi3:zcd X (.builtin "len") (λxs H Q=>∃ p ys,xs=[.ref p]/\(SqL X.K H p ys\/SqT X.K H p ys)/\Q (.int ys.length) H):=by
 intro pins s σ H xs us Q I r h
 obtain⟨p,ys,rfl,hq,q⟩:=h
 obtain⟨u,rfl,rx⟩:=zik r
 cases rx
 have hn:=zhU
 rcases hq with hq | hq
 ·obtain⟨its,r',pl,hz⟩:=I.list hq
  have hlen:=r'.length
  exact Calls.call_len_list pl.isList (by simp only[zst] <;> omega) ⟨.int ys.length,H,I.tok _,⟨s.toks+1,by rw[zst,hlen]⟩,q⟩
 ·obtain⟨its,r',pl,hz⟩:=I.tuple hq
  have hlen:=r'.length
  exact len_tuple pl (by simp only[zst] <;> omega) ⟨.int ys.length,H,I.tok _,⟨s.toks+1,by rw[zst,hlen]⟩,q⟩
theorem zi4:zcd X (.type "list") (λxs H Q=>∃ p ys,xs=[.ref p]/\(SqL X.K H p ys\/SqT X.K H p ys)/\∀ l,H l=none->Q (.ref l) (upd H l (.lst ys))):=by
 intro pins s σ H xs us Q I r h
 obtain⟨p,ys,rfl,hq,q⟩:=h
 obtain⟨u,rfl,rx⟩:=zik r
 cases rx
 have fin:∀ (its:List Value),Vals ys its->ys.length<=sizeLine->∀ (h':Heap) (c':Nat),(∀ b o',s.heap.get? b=some o'->h'.get? b=some o')->
   h'.get? s.heap.objs.size=some {cls:=.type "list",dict:=none,data:=.seq its.toArray c',slots:=#[]}->EP X pins σ Q (.ref s.heap.objs.size) {s with heap:=h'}:=λits r' hz h' c' kp e=>
  ⟨.ref s.heap.objs.size,_,I.laid (t':=s.toks) kp (Nat.le_refl _) (show zbI X.prog X.w _ h' _ (.lst ys) from ⟨hz,its,c',r',e⟩),rfl,q _ (I.hok.fresh (Nat.le_refl _))⟩
 rcases hq with hq | hq
 ·obtain⟨its,r',pl,hz⟩:=I.list hq
  have hlen:=r'.length
  obtain⟨o,ho,hc,n,hd⟩:=pl.isList
  exact call_list_seq p (.inl rfl) ho hc hd (λh' c' kp e=>fin its r' hz h' c' kp e) (by simp only[zst] <;> omega)
 ·obtain⟨its,r',pl,hz⟩:=I.tuple hq
  have hlen:=r'.length
  obtain⟨o,ho,hc,n,hd⟩:=pl
  exact call_list_seq p (.inr rfl) ho hc hd (λh' c' kp e=>fin its r' hz h' c' kp e) (by simp only[zst] <;> omega)
theorem zio:zcd X (.type "tuple") (λxs H Q=>∃ p ys,xs=[.ref p]/\((SqL X.K H p ys/\∀ l,H l=none->Q (.ref l) (upd H l (.tup ys)))\/(SqT X.K H p ys/\Q (.ref p) H))):=by
 intro pins s σ H xs us Q I r h
 obtain⟨p,ys,rfl,h⟩:=h
 obtain⟨u,rfl,rx⟩:=zik r
 cases rx
 rcases h with ⟨hq,q⟩ | ⟨hq,q⟩
 ·obtain⟨its,r',pl,hz⟩:=I.list hq
  have hlen:=r'.length
  refine call_tuple_list pl.isList (λh' kp=>?_) (by simp only[zst] <;> omega)
  have I1:Inv X pins σ H {s with heap:=h'}:=I.kept (t':=s.toks) kp
  have I2:Inv X pins σ (upd H h'.objs.size (.tup ys)) {s with heap:=h'.push {cls:=.type "tuple",data:=.seq its.toArray}}:=
   I1.laid (t':=s.toks) (λb o e=>Heap.get?_push_of_some _ e) (Nat.le_refl _) (show zbI X.prog X.w _ _ _ (.tup ys) from ⟨hz,its,r',IsTup.new _ _⟩)
  exact⟨.ref h'.objs.size,_,I2,rfl,q _ (I1.hok.fresh (Nat.le_refl _))⟩
 ·obtain⟨its,r',pl,hz⟩:=I.tuple hq
  exact call_tuple_same pl ⟨.ref p,H,I,rfl,q⟩
def tyV (K:Fg)(T:String)(x:V)(H:Hp):Prop:=match x with
 | .str _=>T ="str"
 | .int _=>T ="int"
 | .ref p=>(T ="list" /\∃ xs,SqL K H p xs)\/(T ="tuple" /\∃ o,K.lookup p=some o/\o.cls=.type "tuple" /\o.dict=none)\/
   (T ="dict" /\((∃ kvs,H p=some (.dK kvs))\/∃ kvs,H p=some (.dT kvs)))\/(T ="set" /\∃ S n,H p=some (.set S n))
 | _=>False
theorem zoP(I:Inv X pins σ H s)(r:RelV x v)(ty:tyV X.K T x H):
  s.TypeIs v T/\∀ a,v=.ref a->∃ ob,s.heap.get? a=some ob/\ob.dict=none:=by
 cases x with
 | str z=>
  obtain⟨t,rfl⟩:=r
  cases (show T ="str" from ty)
  exact⟨typeIs_str s z t,λ_ e=>nomatch e⟩
 | int i=>
  obtain⟨t,rfl⟩:=r
  cases (show T ="int" from ty)
  exact⟨typeIs_int s i t,λ_ e=>nomatch e⟩
 | ref p=>
  cases r
  rcases ty with ⟨rfl,xs,hq⟩ | ⟨rfl,o,hk,hc,hd⟩ | ⟨rfl,hk⟩ | ⟨rfl,S,n,hk⟩
  ·obtain⟨its,_,pl,_⟩:=I.list hq
   refine⟨pl.isList.typeIs,λa e=>?_⟩
   cases e
   obtain⟨o,n,e,c,hd,_⟩:=pl
   exact⟨o,e,hd⟩
  ·refine⟨⟨o,I.kIn p o hk,hc⟩,λa e=>?_⟩
   cases e
   exact⟨o,I.kIn _ o hk,hd⟩
  ·have z:∃ o,s.heap.get? p=some o/\o.ExactDict:=by
    rcases hk with ⟨kvs,hk⟩ | ⟨kvs,hk⟩
    ·obtain⟨_,_,_,_,o,_,_,e,ex,_⟩:=I.hok p _ hk
     exact⟨o,e,ex⟩
    ·obtain⟨_,_,_,_,o,_,_,e,ex,_⟩:=I.hok p _ hk
     exact⟨o,e,ex⟩
   obtain⟨o,e,ex⟩:=z
   refine⟨⟨o,e,ex.1⟩,λa e2=>?_⟩
   cases e2
   exact⟨o,e,ex.2.1⟩
  ·obtain⟨o,_,_,_,e,ex,_⟩:=I.hok p _ hk
   refine⟨⟨o,e,ex.1⟩,λa e2=>?_⟩
   cases e2
   exact⟨o,e,ex.2.1⟩
 | _=>exact False.elim ty
def tBM0 (K:Fg)(T:String)(r:V->List V->Hp->VK->Prop)(to:TE):TE:=λσ H Q=>to σ H λx H1=>tyV K T x H1/\r x [] H1 Q
def tBM (K:Fg)(T:String)(r:V->List V->Hp->VK->Prop)(to:TE)(t:TA):TE:=λσ H Q=>to σ H λx H1=>tyV K T x H1/\t σ H1 λxs H2=>r x xs H2 Q
variable {o e:Expr}{es:List Expr}{to:TE}{t:TA}{name:Str}{apos cpos:Pos}{T id:String}{r:V->List V->Hp->VK->Prop}
theorem zqR (pa:PlainAttrs T)(slot:Slot T name id)(hty:typeOf (.builtin id)=pure (.type "method_descriptor"))(hm:MtR X id r)(ho:PE X o to)
  (hbase:attributeBase o name X.env (eval o X.env)=eval o X.env:=by rfl) (hline:(apos.endLine == cpos.line)=true:=by rfl):PE X (.Call (.Attribute o name apos) [] [] cpos) (tBM0 X.K T r to):=by
 intro pins s σ H Q I h
 refine wpAny_Call_method0_late hbase hline (thn (ho pins s σ H _ I h) λv s1 ⟨x,H1,I1,r1,ty,q1⟩=>?_)
 obtain⟨h1,h2⟩:=zoP I1 r1 ty
 exact⟨T,id,pa,slot,hty,h1,h2,Calls.callWith_builtin rfl (PySem.evalArgs_none (hm pins s1 σ H1 x [] v [] Q I1 r1 .nil q1))⟩
theorem zmy (pa:PlainAttrs T)(slot:Slot T name id)(hty:typeOf (.builtin id)=pure (.type "method_descriptor"))(hm:MtR X id r)(ho:PE X o to)(ha:PA X (e::es) t)
  (hbase:attributeBase o name X.env (eval o X.env)=eval o X.env:=by rfl)
  (hfew:((backTo cpos (starEach (e::es) X.env)).all (λx=>!x.1) && (backToKw cpos (keywordEach [] X.env)).all (λx=>x.1.isSome)
   && decide ((e::es).length+([]:List Keyword).length+(if ([]:List Keyword).isEmpty then 0 else 1)<30))=true:=by rfl)
  (hline:(apos.endLine == cpos.line)=true:=by rfl) (hs:starEach (e::es) X.env=(false,eval e X.env)::starEach es X.env:=by rfl) (hplain:(backTo cpos (starEach es X.env)).any (·.1)=false:=by rfl) :
  PE X (.Call (.Attribute o name apos) (e::es) [] cpos) (tBM X.K T r to t):=by
 intro pins s σ H Q I h
 refine wpAny_Call_method_late hbase hfew hline rfl (thn (ho pins s σ H _ I h) λv s1 ⟨x,H1,I1,r1,ty,q1⟩=>?_)
 obtain⟨h1,h2⟩:=zoP I1 r1 ty
 refine⟨T,id,pa,slot,hty,h1,h2,?_⟩
 have hA:=ha cpos pins s1 σ H1 _ I1 q1
 rw[hs] at hA ⊢
 refine Calls.callWith_builtin (by show (false || (backTo cpos (starEach es X.env)).any (·.1))=false;rw[hplain] <;> rfl) (Calls.evalArgs_plain ?_)
 exact thn hA λus s2 ⟨vs,H2,I2,r2,q2⟩=>hm pins s2 σ H2 x vs v us Q I2 r1 r2 q2
/- xs.append(e),list.index on a module's tuple .. are MtR facts of 06m -/
end

def MtM (X:Cx)(id:String)(r:V->List V->Hp->VK->Prop):Prop:=
 ∀ (pins:List (Addr × Obj)) (s:Shared) (σ:St) (H:Hp) (x:V) (xs:List V) (v:Value) (us:List Value) (Q:VK),Inv X pins σ H s->RelV x v->Vals xs us->r x xs H Q->
  wpAny (model X.prog X.w) X.A (call (.builtin id) (v::us)) (EP X pins σ Q) X.xe s
theorem Vals.one:∀ {x:V}{us:List Value},Vals [x] us->∃ u,us=[u]/\RelV x u
 | _,_,.cons r .nil=>⟨_,rfl,r⟩
theorem Vals.two:∀ {x y:V}{us:List Value},Vals [x,y] us->∃ u v,us=[u,v]/\RelV x u/\RelV y v
 | _,_,_,.cons r (.cons q .nil)=>⟨_,_,rfl,r,q⟩
theorem Vals.zero:∀ {us:List Value},Vals [] us->us=[]
 | _,.nil=>rfl
theorem Vals.dropLast(h:Vals xs us):Vals xs.dropLast us.dropLast:=by
 induction h with
 | nil=>exact .nil
 | cons r t ih=>
  cases t with
  | nil=>exact .nil
  | cons q t'=>exact .cons r ih
theorem Vals.eraseIdx:∀ {xs:List V}{us:List Value}(i:Nat),Vals xs us->Vals (xs.eraseIdx i) (us.eraseIdx i)
 | _,_,_,.nil=>.nil
 | _,_,0,.cons _ t=>t
 | _,_,i+1,.cons r t=>.cons r (Vals.eraseIdx i t)
theorem Vals.rep(h:Vals xs us):∀ k:Nat,Vals (List.replicate k xs).flatten (List.replicate k us).flatten
 | 0=>.nil
 | k+1=>by
  rw[List.replicate_succ,List.replicate_succ,List.flatten_cons,List.flatten_cons]
  exact Vals.append h (Vals.rep h k)
theorem zlD(l:List α):l.eraseIdx (l.length - 1)=l.dropLast:=by
 induction l with
 | nil=>rfl
 | cons a r ih=>
  cases r with
  | nil=>rfl
  | cons b r=>
   have e:(a::b::r).length - 1=((b::r).length - 1)+1:=by
    have h1:(a::b::r).length=r.length+2:=rfl
    have h2:(b::r).length=r.length+1:=rfl
    omega
   rw[e,List.eraseIdx_cons_succ,ih]
   all_goals rfl
theorem zi5: ∀ (l:List α) (i:Nat),(l.eraseIdx i).length<=l.length
 | [],_=>Nat.le_refl _
 | _::_,0=>Nat.le_succ _
 | _::r,i+1=>Nat.succ_le_succ (zi5 r i)
theorem zi6 (its:List Value):∀ (k:Nat) (acc:List Value),
  List.foldl (λx1 x2=>x1++x2) acc.toArray (List.replicate k its.toArray)=(acc++(List.replicate k its).flatten).toArray
 | 0,acc=>by simp
 | k+1,acc=>by
  have e:acc.toArray++its.toArray=(acc++its).toArray:=by simp
  have e2:(acc++its)++(List.replicate k its).flatten=acc++(List.replicate (k+1) its).flatten:=by
   rw[List.replicate_succ,List.flatten_cons,List.append_assoc]
  rw[<-e2,<-zi6 its k (acc++its),<-e,List.replicate_succ,List.foldl_cons]
variable {t':Nat}
section
variable {X:Cx}{pins:List (Addr × Obj)}{σ:St}{H:Hp}{s:Shared}{l b:Addr}{xs ys zs:List V}

theorem Inv.lset{f:Array Value->Array Value}(I:Inv X pins σ H s)(hH:H l=some (.lst xs))(e:s.heap.get? l=some {cls:=.type "list",data:=.seq its.toArray n})(hf:f its.toArray=its'.toArray)(hv:Vals ys its')(hz:ys.length<=sizeLine):
  Inv X pins σ (upd H l (.lst ys)) {s with heap:=s.heap.update l (Obj.mapSeq f),toks:=t'}:=by
 have q:=PySem.IsL.update e f
 rw[hf] at q
 refine I.write (x:=l) (e:=l) (by rw[hH];exact trivial) (.inl rfl) (λb' u hb hu=>(Heap.get?_update_other s.heap (Obj.mapSeq f) (Ne.symm hb)).trans hu) ⟨_,q⟩ ?_
 exact⟨hz,its',_,hv,q⟩
theorem Inv.lnew(I:Inv X pins σ H s)(hv:Vals ys its)(hz:ys.length<=sizeLine):
  Inv X pins σ (upd H s.heap.objs.size (.lst ys)) {s with heap:=s.heap.push {cls:=.type "list",data:=.seq its.toArray},toks:=t'}:=
 I.laid (λ_ _ q=>Heap.get?_push_of_some _ q) (Nat.le_refl _) ⟨hz,its,0,hv,Heap.get?_push_size _ rfl⟩
theorem Inv.fresh (I:Inv X pins σ H s):H s.heap.objs.size=none:=I.hok.fresh (Nat.le_refl _)
theorem Inv.lstM (I:Inv X pins σ H s)(hH:H l=some (.lst xs)):xs.length<=sizeLine/\∃ (its:List Value) (n:Nat),Vals xs its/\xs.length=its.length/\s.heap.get? l=some {cls:=.type "list",data:=.seq its.toArray n}:=by
 obtain⟨z,its,n,r,e⟩:=I.hok l _ hH
 exact⟨z,its,n,r,r.length,e⟩
theorem zkW(h:n<=sizeLine):Builtin.List.listTooLong n=false:=by
 unfold Builtin.List.listTooLong
 exact decide_eq_false (by omega)
end

section
variable {X:Cx}

def zmz:V->List V->Hp->VK->Prop:=λx vs H Q=>∃ l xs y,x=.ref l/\vs=[y]/\H l=some (.lst xs)/\xs.length<sizeLine/\Q .non (upd H l (.lst (xs++[y])))
theorem zi7:MtM X "list.append" zmz:=by
 intro pins s σ H x vs v us Q I rx rv h
 obtain⟨l,xs,y,rfl,rfl,hH,hz,q⟩:=h
 cases rx
 obtain⟨u,rfl,ru⟩:=rv.one
 obtain⟨z,its,n,r,hl,e⟩:=I.lstM hH
 refine call_meets F.slot_list_append ⟨_,e,rfl⟩ F.entry_list_append (F.args_list_append_2 _ _) (PySem.list_append l its.toArray n u (by rw[zst];omega)) ⟨e,?_⟩
 refine⟨.non,_,I.lset (its':=its++[u]) hH e (by simp) (r.append (.cons ru .nil)) ?_,rfl,q⟩
 rw[List.length_append,List.length_singleton]
 omega
def zpv:V->List V->Hp->VK->Prop:=λx vs H Q=>∃ l b xs zs,x=.ref l/\vs=[.ref b]/\H l=some (.lst xs)/\H b=some (.lst zs)/\xs.length+zs.length<=sizeLine/\Q .non (upd H l (.lst (xs++zs)))
theorem zmA:MtM X "list.extend" zpv:=by
 intro pins s σ H x vs v us Q I rx rv h
 obtain⟨l,b,xs,zs,rfl,rfl,hH,hB,hz,q⟩:=h
 cases rx
 obtain⟨u,rfl,ru⟩:=rv.one
 cases ru
 obtain⟨z,its,n,r,hl,e⟩:=I.lstM hH
 obtain⟨z2,its2,n2,r2,hl2,e2⟩:=I.lstM hB
 have hsz:its.toArray.size+its2.toArray.size<=sizeLine:=by rw[zst,zst];omega
 have hlong:¬ (!its.toArray.isEmpty && Builtin.List.listTooLong (its.toArray.size+its2.toArray.size))=true:=by
  rw[zkW hsz,Bool.and_false]
  exact Bool.false_ne_true
 refine call_meets F.slot_list_extend ⟨_,e,rfl⟩ F.entry_list_extend (F.args_list_extend_2 _ _)
  (AutoSeq1.list_extend_list_list_0 l its.toArray n b its2.toArray n2 hlong (by rw[zst];omega) (by omega)) ⟨e,e2,?_⟩
 refine⟨.non,_,I.lset (its':=its++its2) hH e (by simp) (r.append r2) ?_,rfl,q⟩
 rw[List.length_append]
 omega
def rPop:V->List V->Hp->VK->Prop:=λx vs H Q=>∃ l xs y,x=.ref l/\vs=[]/\H l=some (.lst xs)/\xs[xs.length - 1]?=some y/\Q y (upd H l (.lst xs.dropLast))
theorem zqS:MtM X "list.pop" rPop:=by
 intro pins s σ H x vs v us Q I rx rv h
 obtain⟨l,xs,y,rfl,rfl,hH,hy,q⟩:=h
 cases rx
 have hus:=rv.zero
 subst hus
 obtain⟨z,its,n,r,hl,e⟩:=I.lstM hH
 obtain⟨u,hu,ru⟩:=r.get hy
 have hy':its.toArray[its.toArray.size - 1]?=some u:=by
  show its.toArray[its.length - 1]?=some u
  rw[<-Array.getElem?_toList,<-hl]
  exact hu
 refine call_meets F.slot_list_pop ⟨_,e,rfl⟩ F.entry_list_pop (F.args_list_pop_1 _) (MeetsSeq.list_pop_last l its.toArray n u hy' (by rw[zst];omega)) ⟨e,?_⟩
 refine⟨y,_,I.lset (its':=its.dropLast) hH e ?_ r.dropLast ?_,ru,q⟩
 ·show its.toArray.eraseIdxIfInBounds (its.toArray.size - 1)=its.dropLast.toArray
  rw[zst,List.eraseIdxIfInBounds_toArray,zlD]
 ·rw[List.length_dropLast]
  omega
def zoQ:V->List V->Hp->VK->Prop:=λx vs H Q=>∃ l xs i k y,x=.ref l/\vs=[.int i]/\H l=some (.lst xs)/\-(2 ^ 63)<=i/\i<2 ^ 63/\seqIndex? i xs.length=some k/\xs[k]?=some y/\Q y (upd H l (.lst (xs.eraseIdx k)))
theorem znS:MtM X "list.pop" zoQ:=by
 intro pins s σ H x vs v us Q I rx rv h
 obtain⟨l,xs,i,k,y,rfl,rfl,hH,h1,h2,hk,hy,q⟩:=h
 cases rx
 obtain⟨u,rfl,ru⟩:=rv.one
 obtain⟨t,rfl⟩:=ru
 obtain⟨z,its,n,r,hl,e⟩:=I.lstM hH
 obtain⟨w,hw,rw'⟩:=r.get hy
 refine call_meets F.slot_list_pop ⟨_,e,rfl⟩ F.entry_list_pop (F.args_list_pop_2 _ _)
  (MeetsSeq.list_pop_at l its.toArray n i t k w (fitsIndex_both h1 h2) (by rw[zst,<-hl];exact hk) (by rw[<-Array.getElem?_toList];exact hw) (by rw[zst];omega)) ⟨e,?_⟩
 refine⟨y,_,I.lset (its':=its.eraseIdx k) hH e ?_ (r.eraseIdx k) ?_,rw',q⟩
 ·show its.toArray.eraseIdxIfInBounds k=(its.eraseIdx k).toArray
  rw[List.eraseIdxIfInBounds_toArray]
 ·have:=zi5 xs k
  omega
def rCat:R2:=λx y H Q=>∃ l b xs zs,x=.ref l/\y=.ref b/\H l=some (.lst xs)/\H b=some (.lst zs)/\xs.length+zs.length<=sizeLine/\∀ p,H p=none->Q (.ref p) (upd H p (.lst (xs++zs)))
theorem zqT:OpR X (binaryOp .Add) rCat:=by
 intro pins s σ H x y v u Q I rx ry h
 obtain⟨l,b,xs,zs,rfl,rfl,hH,hB,hz,q⟩:=h
 cases rx
 cases ry
 obtain⟨z,its,n,r,hl,e⟩:=I.lstM hH
 obtain⟨z2,its2,n2,r2,hl2,e2⟩:=I.lstM hB
 refine PySem.P.add_list e e2 ?_ (by rw[zst,zst];omega)
 have ea:its.toArray++its2.toArray=(its++its2).toArray:=by simp
 rw[ea]
 exact⟨.ref _,_,I.lnew (t':=s.toks) (r.append r2) (by rw[List.length_append];omega),rfl,q _ I.fresh⟩
def rRep:R2:=λx y H Q=>∃ l k xs,x=.ref l/\y=.int k/\H l=some (.lst xs)/\-(2 ^ 63)<=k/\k<2 ^ 63/\xs.length * k.toNat<=sizeLine/\
 ∀ p,H p=none->Q (.ref p) (upd H p (.lst (List.replicate k.toNat xs).flatten))
theorem zpw(xs:List α)(k:Nat):(List.replicate k xs).flatten.length=k * xs.length:=by
 induction k with
 | zero=>simp
 | succ k ih=>rw[List.replicate_succ,List.flatten_cons,List.length_append,ih,Nat.succ_mul,Nat.add_comm]
theorem zqU:OpR X (binaryOp .Mult) rRep:=by
 intro pins s σ H x y v u Q I rx ry h
 obtain⟨l,k,xs,rfl,rfl,hH,h1,h2,hz,q⟩:=h
 cases rx
 obtain⟨t,rfl⟩:=ry
 obtain⟨z,its,n,r,hl,e⟩:=I.lstM hH
 have hlen:its.toArray.size * k.toNat<=sizeLine:=by rw[zst,<-hl];exact hz
 have hcap:¬ its.toArray.size * k.toNat>(2 ^ 63 - 1) / 8:=by
  have:(sizeLine:Nat)<=(2 ^ 63 - 1) / 8:=by decide
  omega
 have hfit:¬ (!Builtin.List.listFitsIndex k)=true:=by
  rw[fitsIndex_both h1 h2]
  exact Bool.false_ne_true
 have hlong:¬ Builtin.List.listTooLong (its.toArray.size * k.toNat)=true:=by
  rw[zkW hlen]
  exact Bool.false_ne_true
 have hnew:List.foldl (λx1 x2=>x1++x2) #[] (List.replicate (if its.toArray.isEmpty=true then 0 else k.toNat) its.toArray)=(List.replicate k.toNat its).flatten.toArray:=by
  have f0:∀ m:Nat,List.foldl (λx1 x2=>x1++x2) #[] (List.replicate m its.toArray)=(List.replicate m its).flatten.toArray:=λm=>by
   have:=zi6 its m []
   rw[List.nil_append] at this
   exact this
  rw[f0]
  cases its with
  | nil=>simp
  | cons a r'=>rw[if_neg (by simp)]
 refine wpAny_binaryOp_repeat_ref (T:="list") (U:="int") (by decide) ⟨_,e,rfl⟩ (λs'=>typeIs_int s' k t) noFill_list_mul F.fills_int_mul F.slot_int_rmul repeat_list F.slot_int_index.lookup
  (call_meets F.slot_int_rmul (typeIs_int s k t) F.entry_int_rmul (F.args_int_rmul_2 _ _) (int___rmul___int_list k t l its.toArray n)
   ⟨e,rfl,⟨_,e,rfl⟩,call_meets F.slot_list_mul ⟨_,e,rfl⟩ F.entry_list_mul (F.args_list_mul_2 _ _) (AutoListH.list___mul___list_int_3 l its.toArray n k t hfit hcap hlong) ⟨e,?_⟩⟩)
 rw[hnew]
 exact⟨.ref _,_,I.lnew (t':=s.toks) (r.rep k.toNat) (by rw[zpw,Nat.mul_comm];exact hz),rfl,q _ I.fresh⟩
end

section
variable {prog:Program}{w:World}{A:Around}{E:Value->Shared->Prop}{s:Shared}
set_option maxRecDepth 100000 in
end

section
variable {X:Cx}
end

variable {o:Option V}
section
variable {κ:Type} [DecidableEq κ]
def valV (kvs:List (κ × V))(k:κ):Option V:=(kvs.find? λkv=>decide (kv.1=k)).map (·.2)
def putK (kvs:List (κ × V))(k:κ)(v:V):List (κ × V):=
 if (kvs.any λkv=>decide (kv.1=k))=true then kvs.map (λkv=>if kv.1=k then (kv.1,v) else kv) else kvs++[(k,v)]
def zeg (kvs:List (κ × V))(k:κ):List (κ × V):=kvs.filter λkv=>decide (kv.1≠k)
theorem zbK {p:κ × V}{r:List (κ × V)}{k:κ}(e:p.1=k):valV (p::r) k=some p.2:=by simp[valV,List.find?_cons,e]
theorem zbC {p:κ × V}{r:List (κ × V)}{k:κ}(e:¬ p.1=k):valV (p::r) k=valV r k:=by simp[valV,List.find?_cons,e]
theorem zdn (k:κ):∀ kvs:List (κ × V),(kvs.any λkv=>decide (kv.1=k))=(valV kvs k).isSome
 | []=>rfl
 | p::r=>by
  rw[List.any_cons]
  by_cases e:p.1=k
  ·simp only[zbK e,decide_eq_true e,Bool.true_or,Option.isSome_some]
  ·rw[zbC e,decide_eq_false e,Bool.false_or];exact zdn k r
theorem zkX (k j:κ)(y:V):∀ kvs:List (κ × V),valV (kvs.map λkv=>if kv.1=k then (kv.1,y) else kv) j=(valV kvs j).map λx=>if j=k then y else x
 | []=>rfl
 | p::r=>by
  have ih:=zkX k j y r
  rw[zmc]
  by_cases h:p.1=k
  ·rw[if_pos h]
   by_cases e:p.1=j
   ·rw[zbK (p:=(p.1,y)) e,zbK e,Option.map_some,if_pos (e.symm.trans h)]
   ·rw[zbC (p:=(p.1,y)) e,zbC e,ih]
  ·rw[if_neg h]
   by_cases e:p.1=j
   ·rw[zbK (p:=p) e,zbK e,Option.map_some,if_neg (λz=>h (e.trans z))]
   ·rw[zbC (p:=p) e,zbC e,ih]
theorem zi8 (k j:κ)(y:V):∀ kvs:List (κ × V),valV kvs k=none->valV (kvs++[(k,y)]) j=if j=k then some y else valV kvs j
 | [],_=>by
  by_cases e:k=j
  ·rw[if_pos e.symm];exact zbK (p:=(k,y)) e
  ·rw[if_neg (λz=>e z.symm)];exact zbC (p:=(k,y)) e
 | p::r,hn=>by
  rw[List.cons_append]
  have hk:¬ p.1=k:=λz=>by rw[zbK z] at hn;cases hn
  rw[zbC hk] at hn
  have ih:=zi8 k j y r hn
  by_cases e:p.1=j
  ·rw[zbK e,zbK e,if_neg (λz=>hk (e.trans z))]
  ·rw[zbC e,zbC e,ih]
theorem zeK (kvs:List (κ × V))(k j:κ)(y:V):valV (putK kvs k y) j=if j=k then some y else valV kvs j:=by
 unfold putK
 by_cases a:(kvs.any λkv=>decide (kv.1=k))=true
 ·rw[if_pos a,zkX]
  rw[zdn] at a
  by_cases e:j=k
  ·obtain⟨x,hx⟩:=Option.isSome_iff_exists.mp a
   rw[if_pos e,e,hx,Option.map_some,if_pos rfl]
  ·rw[if_neg e]
   cases valV kvs j with
   | none=>rfl
   | some x=>rw[Option.map_some,if_neg e]
 ·rw[if_neg a]
  refine zi8 k j y kvs ?_
  rw[zdn] at a
  cases q:valV kvs k with
  | none=>rfl
  | some x=>rw[q] at a;exact (a rfl).elim
theorem ze1 (kvs:List (κ × V))(k:κ)(v:V):(putK kvs k v).length<=kvs.length+1:=by
 unfold putK
 split
 ·rw[zlm];omega
 ·rw[List.length_append,List.length_cons,List.length_nil];omega
theorem znT {kvs:List (κ × V)}{k:κ}(v:V)(h:valV kvs k=none):putK kvs k v=kvs++[(k,v)]:=by
 unfold putK
 rw[zdn,h]
 exact if_neg (by decide)
variable {u:Option Value}
theorem RelO.isSome_eq(r:RelO o u):o.isSome=u.isSome:=by
 cases o with
 | none=>cases u with
  | none=>rfl
  | some _=>exact (show False from r).elim
 | some _=>cases u with
  | none=>exact (show False from r).elim
  | some _=>rfl
theorem RelO.getD{d:V}{d':Value}(r:RelO o u)(rd:RelV d d'):RelV (o.getD d) (u.getD d'):=by
 cases o with
 | none=>cases u with
  | none=>exact rd
  | some _=>exact (show False from r).elim
 | some _=>cases u with
  | none=>exact (show False from r).elim
  | some _=>exact r
theorem KV.val {kvs:List (κ × V)}{vs:List (κ × Value)}(r:KV kvs vs)(k:κ):RelO (valV kvs k) (valueAt vs k):=by
 unfold KV at r
 induction r with
 | nil=>exact True.intro
 | @cons p q ps qs h t ih=>
  obtain⟨h1,h2⟩:=h
  by_cases e:p.1=k
  ·have e':q.1=k:=h1.symm.trans e
   have b:valueAt (q::qs) k=some q.2:=by simp[valueAt,List.find?_cons,e']
   rw[zbK e,b];exact h2
  ·have e':¬ q.1=k:=λz=>e (h1.trans z)
   have b:valueAt (q::qs) k=valueAt qs k:=by simp[valueAt,List.find?_cons,e']
   rw[zbC e,b];exact ih
theorem KV.any {kvs:List (κ × V)}{vs:List (κ × Value)}(r:KV kvs vs)(k:κ):(kvs.any λkv=>decide (kv.1=k))=vs.any λkv=>decide (kv.1=k):=by
 unfold KV at r
 induction r with
 | nil=>rfl
 | cons h t ih=>rw[List.any_cons,List.any_cons,ih,h.1]
theorem KV.repl{kvs:List (κ × V)}{vs:List (κ × Value)}(r:KV kvs vs)(k:κ){u:Value}(ry:RelV y u):
  KV (kvs.map λkv=>if kv.1=k then (kv.1,y) else kv) (vs.map λkv=>if kv.1=k then (kv.1,u) else kv):=by
 unfold KV at r ⊢
 induction r with
 | nil=>exact .nil
 | @cons p q ps qs h t ih=>
  rw[zmc,zmc]
  refine .cons ?_ ih
  obtain⟨h1,h2⟩:=h
  by_cases e:p.1=k
  ·rw[if_pos e,if_pos (h1.symm.trans e)];exact⟨h1,ry⟩
  ·rw[if_neg e,if_neg (λz=>e (h1.trans z))];exact⟨h1,h2⟩
theorem KV.put{kvs:List (κ × V)}{vs:List (κ × Value)}(r:KV kvs vs)(k:κ){u:Value}(ry:RelV y u):KV (putK kvs k y) (stored vs k u):=by
 unfold putK stored
 rw[r.any k]
 by_cases e:(vs.any λkv=>decide (kv.1=k))=true
 ·rw[if_pos e,if_pos e];exact r.repl k ry
 ·rw[if_neg e,if_neg e];exact Paired.snoc r ⟨rfl,ry⟩
theorem KV.drop {kvs:List (κ × V)}{vs:List (κ × Value)}(r:KV kvs vs)(k:κ):KV (zeg kvs k) (without vs k):=by
 unfold KV at r ⊢
 unfold zeg without
 induction r with
 | nil=>exact .nil
 | @cons p q ps qs h t ih=>
  obtain⟨h1,h2⟩:=h
  rw[List.filter_cons,List.filter_cons]
  by_cases e:p.1=k
  ·have a:¬ decide (p.1≠k)=true:=by simp[e]
   have b:¬ decide (q.1≠k)=true:=by simp[h1.symm.trans e]
   rw[if_neg a,if_neg b];exact ih
  ·have e':¬ q.1=k:=λz=>e (h1.trans z)
   have a:decide (p.1≠k)=true:=by simp[e]
   have b:decide (q.1≠k)=true:=by simp[e']
   rw[if_pos a,if_pos b];exact .cons ⟨h1,h2⟩ ih
theorem KV.keys {kvs:List (κ × V)}{vs:List (κ × Value)}(r:KV kvs vs):kvs.map (·.1)=vs.map (·.1):=by
 unfold KV at r
 induction r with
 | nil=>rfl
 | cons h t ih=>rw[zmc,zmc,ih,h.1]
theorem KV.length {kvs:List (κ × V)}{vs:List (κ × Value)}(r:KV kvs vs):kvs.length=vs.length:=Paired.length r
theorem zkY (kvs:List (κ × V))(k:κ):(zeg kvs k).length<=kvs.length:=List.length_filter_le _ _
end


variable {P:Program}{w:World}
theorem zht{k:Key}(r:RelV (kV k) u):(zbg P w).is k u=true:=by
 cases k with
 | inl i=>obtain⟨t,e⟩:=(show ∃ t,u=Value.int i t from r);subst e;exact zj0 P w i t
 | inr x=>obtain⟨t,e⟩:=(show ∃ t,u=Value.str x t from r);subst e;exact zj1 P w x t
theorem zi9: ∀ {ks:List Key}{us:List Value},Vals (ks.map kV) us->ItemsAre (zbg P w) ks us
 | [],_,r=>by rw[List.map_nil] at r;cases r;exact .nil
 | k::ks,_,r=>by
  rw[zmc] at r
  cases r with
  | cons h t=>exact .cons (zht h) (zi9 t)
abbrev KT (H:Hp):List (List Key × V)->List (List Key × Addr × Value)->Prop:=Paired λp q=>p.1=q.1/\H q.2.1=some (.tup (p.1.map kV))/\RelV p.2 q.2.2
variable {kvs:List (List Key × V)}
theorem KT.val{xs:List (List Key × Addr × Value)}(r:KT H kvs xs)(k:List Key):RelO (valV kvs k) ((atKey xs k).map (·.2)):=by
 induction r with
 | nil=>exact True.intro
 | @cons p q ps qs h t ih=>
  obtain⟨h1,_,h2⟩:=h
  by_cases e:p.1=k
  ·have e':q.1=k:=h1.symm.trans e
   have b:atKey (q::qs) k=some q.2:=by simp[atKey,List.find?_cons,e']
   rw[zbK e,b];exact h2
  ·have e':¬ q.1=k:=λz=>e (h1.trans z)
   have b:atKey (q::qs) k=atKey qs k:=by simp[atKey,List.find?_cons,e']
   rw[zbC e,b];exact ih
theorem KT.repl{xs:List (List Key × Addr × Value)}(r:KT H kvs xs)(k:List Key)(ry:RelV y u):
  KT H (kvs.map λkv=>if kv.1=k then (kv.1,y) else kv) (xs.map (putAt k u)):=by
 induction r with
 | nil=>exact .nil
 | @cons p q ps qs h t ih=>
  rw[zmc,zmc]
  refine .cons ?_ ih
  obtain⟨h1,h2,h3⟩:=h
  unfold putAt
  by_cases e:p.1=k
  ·rw[if_pos e,if_pos (h1.symm.trans e)];exact⟨h1,h2,ry⟩
  ·rw[if_neg e,if_neg (λz=>e (h1.trans z))];exact⟨h1,h2,h3⟩
theorem KT.put{xs:List (List Key × Addr × Value)}(r:KT H kvs xs)(k:List Key){b:Addr}(hb:H b=some (.tup (k.map kV)))(ry:RelV y u):
  KT H (putK kvs k y) (storedH xs k b u):=by
 have e:(kvs.any λkv=>decide (kv.1=k))=(atKey xs k).isSome:=by
  rw[zdn,(r.val k).isSome_eq,Option.isSome_map]
 unfold putK storedH
 rw[e]
 by_cases q:(atKey xs k).isSome=true
 ·rw[if_pos q,if_pos q];exact r.repl k ry
 ·rw[if_neg q,if_neg q];exact Paired.snoc r ⟨rfl,hb,ry⟩
variable {H':Hp}
theorem KT.keeps{xs:List (List Key × Addr × Value)}(r:KT H kvs xs)(ht:∀ b ys,H b=some (.tup ys)->H' b=some (.tup ys)):KT H' kvs xs:=
 Paired.mapP r λ_ _ z=>⟨z.1,ht _ _ z.2.1,z.2.2⟩
section
variable {P:Program}{w:World}{H:Hp}{h:Heap}{a:Addr}
theorem zqV {u:HO}(ok:HOk P w H h)(e:Rd H a u):zbI P w H h a u:=e.ok ok
variable {kvs:List (Key × V)}
theorem zj8(ok:HOk P w H h)(e:Rd H a (.dK kvs)):kvs.length<=sizeLine/\(a == sysModules)=false/\∃ vs,KV kvs vs/\h.DictOf (zbg P w) a vs:=
 show zbI P w H h a (.dK kvs) from zqV ok e
theorem zj9(ok:HOk P w H h)(e:H a=some (.dK kvs)):kvs.length<=sizeLine/\(a == sysModules)=false/\∃ vs,KV kvs vs/\h.DictOf (zbg P w) a vs:=zj8 ok (.inl e)
theorem zhX {ks:List Key}(ok:HOk P w H h)(e:H a=some (.tup (ks.map kV))):(tupleKind (zbg P w)).is h ks a:=by
 obtain⟨_,its,r,o,h1,h2,n,h3⟩:=(show zbI P w H h a (.tup (ks.map kV)) from ok a _ e)
 exact⟨o,its.toArray,n,h1,h2,h3,by simpa using zi9 r⟩
theorem zka {kvs:List (List Key × V)}(ok:HOk P w H h)(e:Rd H a (.dT kvs)):kvs.length<=sizeLine/\(a == sysModules)=false/\
  ∃ xs,KT H kvs xs/\h.DictOfH (tupleKind (zbg P w)) a xs:=by
 obtain⟨z,y,xs,r,o,es,ep,h1,h2,h3,h4,h5⟩:=(show zbI P w H h a (.dT kvs) from zqV ok e)
 refine⟨z,y,xs,r,o,es,ep,h1,h2,h3,h4,λx hx=>?_,h5⟩
 have all:∀ {l:List (List Key × V)}{m:List (List Key × Addr × Value)},KT H l m->∀ x∈m,(tupleKind (zbg P w)).is h x.1 x.2.1:=by
  intro l m q
  induction q with
  | nil=>intro x hx;exact nomatch hx
  | @cons p q ps qs hq t ih=>
   intro x hx
   rcases List.mem_cons.mp hx with e | hx
   ·subst e
    exact zhX ok (by rw[<-hq.1];exact hq.2.1)
   ·exact ih x hx
 exact all r x hx
theorem dt_of {kvs:List (List Key × V)}(ok:HOk P w H h)(e:H a=some (.dT kvs)):kvs.length<=sizeLine/\(a == sysModules)=false/\
  ∃ xs,KT H kvs xs/\h.DictOfH (tupleKind (zbg P w)) a xs:=zka ok (.inl e)
end

def DGet (H:Hp)(a:Addr)(y:V)(r:Option V):Prop:=
 (∃ kvs k,Rd H a (.dK kvs)/\y=kV k/\r=valV kvs k)\/∃ kvs k b,Rd H a (.dT kvs)/\y=.ref b/\H b=some (.tup (k.map kV))/\r=valV kvs k
def DPut (H:Hp)(a:Addr)(y v:V)(H':Hp):Prop:=
 (∃ kvs k,H a=some (.dK kvs)/\y=kV k/\kvs.length<sizeLine/\H'=upd H a (.dK (putK kvs k v)))\/
 ∃ kvs k b,H a=some (.dT kvs)/\y=.ref b/\H b=some (.tup (k.map kV))/\kvs.length<sizeLine/\H'=upd H a (.dT (putK kvs k v))
variable {a:Addr}
theorem DGet.k{kvs:List (Key × V)}{k:Key}(e:H a=some (.dK kvs)):DGet H a (kV k) (valV kvs k):=.inl ⟨kvs,k,.inl e,rfl,rfl⟩
theorem DPut.k{kvs:List (Key × V)}{k:Key}{v:V}(e:H a=some (.dK kvs))(hl:kvs.length<sizeLine):DPut H a (kV k) v (upd H a (.dK (putK kvs k v))):=.inl ⟨kvs,k,e,rfl,hl,rfl⟩
variable {Q:Value->Shared->Prop}{h':Heap}
section
variable {X:Cx}{pins:List (Addr × Obj)}{σ:St}{H:Hp}{s:Shared}{a:Addr}{y v:V}{u r:Value}{o:Option V}{A:Around}{E:Value->Shared->Prop}

theorem Inv.big (I:Inv X pins σ H s):sysModules<s.heap.objs.size:=by
 have h:mainGlobals<s.heap.objs.size:=(I.mod.glob.keeps I.bk).lt
 exact Nat.lt_trans (by decide) h
theorem zmB(hu:A.units+1<cLine)(I:Inv X pins σ H s)(g:DGet H a y (some v))(ry:RelV y u)(h:∀ w' s',Inv X pins σ H s'->RelV v w'->Q w' s'):
  wpAny (model X.prog X.w) A (getItem (.ref a) u) Q E s:=by
 rcases g with ⟨kvs,k,e,ey,l⟩ | ⟨kvs,k,b,e,ey,eb,l⟩
 ·subst ey
  obtain⟨z,hd,vs,rel,dd⟩:=zj8 I.hok e
  obtain⟨w',hw,rw'⟩:=RelO.some_of (v:=v) (o:=valueAt vs k) (by rw[l];exact rel.val k)
  exact wpAny_getItem_of (zht ry) dd.mapOf hw (h w' _ (I.tok _) rw')
 ·subst ey
  cases (show u=Value.ref b from ry)
  obtain⟨z,hd,xs,rel,dd⟩:=zka I.hok e
  obtain⟨w',hw,rw'⟩:=RelO.some_of (v:=v) (o:=(atKey xs k).map (·.2)) (by rw[l];exact rel.val k)
  obtain⟨p,hp,hp2⟩:=zme.mp hw
  refine wpAny_getItem_heap (tupleKind_room_in1 hu) (zhX I.hok eb) dd hp ?_
  rw[hp2]
  exact h w' _ (I.tok _) rw'
theorem d_in(hu:A.units+1<cLine)(I:Inv X pins σ H s)(g:DGet H a y o)(ry:RelV y u)(h:∀ s',Inv X pins σ H s'->Q (.bool o.isSome) s'):
  wpAny (model X.prog X.w) A (compareOp .In u (.ref a)) Q E s:=by
 rcases g with ⟨kvs,k,e,ey,l⟩ | ⟨kvs,k,b,e,ey,eb,l⟩
 ·subst ey
  obtain⟨z,hd,vs,rel,dd⟩:=zj8 I.hok e
  refine wpAny_in_of (zht ry) hd dd.mapOf ?_
  rw[<-(rel.val k).isSome_eq,<-l]
  exact h _ (I.tok _)
 ·subst ey
  cases (show u=Value.ref b from ry)
  obtain⟨z,hd,xs,rel,dd⟩:=zka I.hok e
  refine wpAny_in_heap (tupleKind_room_in1 hu) (zhX I.hok eb) hd dd ?_
  have q:=(rel.val k).isSome_eq
  rw[Option.isSome_map] at q
  rw[<-q,<-l]
  exact h _ (I.tok _)
theorem zpx(hu:A.units+1<cLine)(I:Inv X pins σ H s)(g:DGet H a y o)(ry:RelV y u)(h:∀ s',Inv X pins σ H s'->Q (.bool (!o.isSome)) s'):
  wpAny (model X.prog X.w) A (compareOp .NotIn u (.ref a)) Q E s:=by
 rcases g with ⟨kvs,k,e,ey,l⟩ | ⟨kvs,k,b,e,ey,eb,l⟩
 ·subst ey
  obtain⟨z,hd,vs,rel,dd⟩:=zj8 I.hok e
  refine wpAny_notIn_of (zht ry) hd dd.mapOf ?_
  rw[<-(rel.val k).isSome_eq,<-l]
  exact h _ (I.tok _)
 ·subst ey
  cases (show u=Value.ref b from ry)
  obtain⟨z,hd,xs,rel,dd⟩:=zka I.hok e
  refine wpAny_notIn_heap (tupleKind_room_in1 hu) (zhX I.hok eb) hd dd ?_
  have q:=(rel.val k).isSome_eq
  rw[Option.isSome_map] at q
  rw[<-q,<-l]
  exact h _ (I.tok _)
theorem zgL{ob:HO}(I:Inv X pins σ H s)(mu:Mut (H a))(hs:Heap.SameBut a s.heap h')(he:∃ q,h'.get? a=some q)(new:zbI X.prog X.w (upd H a ob) h' a ob):
  Inv X pins σ (upd H a ob) {s with heap:=h',toks:=t'}:=
 I.write (x:=a) (e:=a) mu (.inl rfl) (λb q hb z=>(hs.2 b hb).trans z) he new
theorem zkZ{kvs:List (Key × V)}{vs:List (Key × Value)}(z:kvs.length<=sizeLine)(hd:(a == sysModules)=false)(rel:KV kvs vs)(dd:h'.DictOf (zbg P w) a vs):
  zbI P w H' h' a (.dK kvs):=⟨z,hd,vs,rel,dd⟩
theorem zmC{Q:Unit->Shared->Prop}(hu:A.units+1<cLine)(I:Inv X pins σ H s)(g:DPut H a y v H')(ry:RelV y u)(rv:RelV v r)(h:∀ s',Inv X pins σ H' s'->Q () s'):
  wpAny (model X.prog X.w) A (setItem (.ref a) u r) Q E s:=by
 rcases g with ⟨kvs,k,e,ey,l,eH⟩ | ⟨kvs,k,b,e,ey,eb,l,eH⟩
 ·subst ey eH
  obtain⟨z,hd,vs,rel,dd⟩:=zj9 I.hok e
  have hz:vs.length<=sizeLine:=by rw[<-rel.length];exact z
  have hl:(putK kvs k v).length<=sizeLine:=by have:=ze1 kvs k v;omega
  refine wpAny_setItem_pairs (hsz:=hz) (zht ry) dd λh' dd' hs=>h _ ?_
  have he:∃ q,h'.get? a=some q:=let ⟨q,_,_,hq,_⟩:=dd';⟨q,hq⟩
  exact zgL I (by rw[e];exact True.intro) hs he (zkZ hl hd (rel.put k rv) dd')
 ·subst ey eH
  cases (show u=Value.ref b from ry)
  obtain⟨z,hd,xs,rel,dd⟩:=dt_of I.hok e
  have hz:xs.length<=sizeLine:=by rw[<-Paired.length rel];exact z
  have hl:(putK kvs k v).length<=sizeLine:=by have:=ze1 kvs k v;omega
  refine wpAny_setItem_heap (hsz:=hz) (tupleKind_room_in1 hu) (zhX I.hok eb) dd λh' dd' hs=>h _ ?_
  obtain⟨q,es,ep,hq,h2,h3,h4,_,h5⟩:=dd'
  refine zgL I (by rw[e];exact True.intro) hs ⟨q,hq⟩ ⟨hl,hd,_,(rel.put k eb rv).keeps λc ys ec=>?_,q,es,ep,hq,h2,h3,h4,h5⟩
  rw[zai (zpd ec e (λz=>nomatch z))]
  exact ec
end

section
variable {X:Cx}{pins:List (Addr × Obj)}{σ:St}{H:Hp}{s:Shared}{a:Addr}{kvs:List (Key × V)}{k:Key}{u:Value}{A:Around}{E:Value->Shared->Prop}
theorem zqW {Q:Unit->Shared->Prop}(I:Inv X pins σ H s)(e:H a=some (.dK kvs))(ry:RelV (kV k) u)(l:(valV kvs k).isSome=true)(h:∀ s',Inv X pins σ (upd H a (.dK (zeg kvs k))) s'->Q () s') :
  wpAny (model X.prog X.w) A (delItem (.ref a) u) Q E s:=by
 obtain⟨z,hd,vs,rel,dd⟩:=zj9 I.hok e
 refine wpAny_delItem_slot dd.typeIs (by decide) PySem.F.slot_dict_delitem
  (call_meetsIn PySem.F.slot_dict_delitem dd.typeIs PySem.F.entry_dict_delitem (PySem.F.args_dict_delitem_2 _ _) (meets_dict_delitem_pairs (zbg X.prog X.w) a (zht ry)) ⟨vs,dd,by rw[<-rel.length];exact z,by rw[<-(rel.val k).isSome_eq];exact l,λh' dd' hs=>h _ ?_⟩)
 have he:∃ q,h'.get? a=some q:=let ⟨q,_,_,hq,_⟩:=dd';⟨q,hq⟩
 exact zgL I (by rw[e];exact True.intro) hs he (zkZ (Nat.le_trans (zkY kvs k) z) hd (rel.drop k) dd')
theorem d_pop{v:V}{more:List Value}(I:Inv X pins σ H s)(e:H a=some (.dK kvs))(ry:RelV (kV k) u)(l:valV kvs k=some v)(hm:more=[]\/∃ x,more=[x])(h:∀ w' s',Inv X pins σ (upd H a (.dK (zeg kvs k))) s'->RelV v w'->Q w' s'):wpAny (model X.prog X.w) A (call (.builtin "dict.pop") (.ref a::u::more)) Q E s:=by
 obtain⟨z,hd,vs,rel,dd⟩:=zj9 I.hok e
 obtain⟨w',hw,rw'⟩:=RelO.some_of (v:=v) (o:=valueAt vs k) (by rw[<-l];exact rel.val k)
 have hp:(keyPart u).isSome=true:=by
  cases k with
  | inl i=>obtain⟨t,q⟩:=(show ∃ t,u=Value.int i t from ry);subst q;rfl
  | inr x=>obtain⟨t,q⟩:=(show ∃ t,u=Value.str x t from ry);subst q;rfl
 have ha:argsOk "dict.pop" ⟨.ref a::u::more,[]⟩:=by
  rcases hm with q | ⟨x,q⟩
  ·subst q;exact PySem.F.args_dict_pop_2 _ _
  ·subst q;exact PySem.F.args_dict_pop_3 _ _ _
 refine call_meetsIn PySem.F.slot_dict_pop dd.typeIs PySem.F.entry_dict_pop ha (meets_dict_pop_there (zbg X.prog X.w) a (zht ry) more hm hp)
  ⟨vs,w',dd,by rw[<-rel.length];exact z,hw,λh' dd' hs=>h w' _ ?_ rw'⟩
 have he:∃ q,h'.get? a=some q:=let ⟨q,_,_,hq,_⟩:=dd';⟨q,hq⟩
 exact zgL I (by rw[e];exact True.intro) hs he (zkZ (Nat.le_trans (zkY kvs k) z) hd (rel.drop k) dd')
theorem zqX{r:Value}(I:Inv X pins σ H s)(e:H a=some (.dK kvs))(ry:RelV (kV k) u)(l:valV kvs k=none)(h:∀ s',Inv X pins σ H s'->Q r s'):
  wpAny (model X.prog X.w) A (call (.builtin "dict.pop") [.ref a,u,r]) Q E s:=by
 obtain⟨z,hd,vs,rel,dd⟩:=zj9 I.hok e
 have hn:valueAt vs k=none:=RelO.none_of (by rw[<-l];exact rel.val k)
 have hp:(keyPart u).isSome=true:=by
  cases k with
  | inl i=>obtain⟨t,q⟩:=(show ∃ t,u=Value.int i t from ry);subst q;rfl
  | inr x=>obtain⟨t,q⟩:=(show ∃ t,u=Value.str x t from ry);subst q;rfl
 exact call_meetsIn PySem.F.slot_dict_pop dd.typeIs PySem.F.entry_dict_pop (PySem.F.args_dict_pop_3 _ _ _) (meets_dict_pop_default (zbg X.prog X.w) a (zht ry) hd hp r) ⟨vs,dd,hn,h _ (I.tok _)⟩
end


def NoSl (i:Expr):Prop:=∀ ov iv,subscripted i false ov iv=operate [ov,iv] (getItem ov iv)
variable {pos:Pos}
theorem zpy{prog:Program}{E:Value->Shared->Prop}{env:Env}{value slice:Expr}{id:String}(hl:typeLookup (.type T) "__getitem__"=pure (some (.builtin id)))(hs:NoSl slice)(h:wpAny (model prog w) A (eval value env) (λo s₁=>wpAny (model prog w) A (eval slice env) (λi s₂=>s₂.TypeIs o T/\wpAny (model prog w) A (getItem o i) Q E s₂) E s₁) E s):
  wpAny (model prog w) A (eval (.Subscript value slice pos) env) Q E s:=by
 refine Subscript_ (wpAny_mono h (λo s₁ h₁=>wpAny_mono h₁ (λi s₂ h₂=>?_) λ_ _ x=>x) λ_ _ x=>x)
 obtain⟨hT,h₂⟩:=h₂
 unfold subscriptTail
 refine wpAny_bind ?_
 rw[getitemInPython_of_ne hT.not_modules]
 refine wpAny_bind (wpAny_specialOf hT hl ?_)
 have fin:wpAny (model prog w) A (subscripted slice false o i) (λr s₃=>wpAny (model prog w) A (letTemporaryGo value o r >>= λ_=>pure r) Q E s₃) E s₂:=by
  rw[hs o i]
  exact wpAny_operating (wpAny_mono h₂ (λr s₃ h₃=>wpAny_bind (wpAny_letTemporaryGo (wpAny_pure h₃))) λ_ _ x=>x)
 first
  | exact wpAny_pure (wpAny_bind fin)
  | exact wpAny_bind (wpAny_pure (wpAny_bind fin))
  | exact wpAny_bind fin
variable {X:Cx}
theorem zkb(I:Inv X pins σ H s)(g:DGet H a y o):s.TypeIs (.ref a) "dict":=by
 rcases g with ⟨kvs,k,e,_,_⟩ | ⟨kvs,k,b,e,_,_,_⟩
 ·obtain⟨_,_,vs,_,dd⟩:=zj8 I.hok e
  exact dd.typeIs
 ·obtain⟨_,_,xs,_,dd⟩:=zka I.hok e
  exact dd.typeIs
def zqY (td ty:TE):TE:=λσ H Q=>td σ H λx H1=>ty σ H1 λy H2=>∃ a v,x=.ref a/\DGet H2 a y (some v)/\Q v H2
def tDIn (ty td:TE):TE:=λσ H Q=>ty σ H λy H1=>td σ H1 λx H2=>∃ a o,x=.ref a/\DGet H2 a y o/\Q (.bl o.isSome) H2
def zmD (ty td:TE):TE:=λσ H Q=>ty σ H λy H1=>td σ H1 λx H2=>∃ a o,x=.ref a/\DGet H2 a y o/\Q (.bl (!o.isSome)) H2
def zqZ (td ty tv:TE):TS:=λD σ H=>tv σ H λv H1=>td σ H1 λx H2=>ty σ H2 λy H3=>∃ a H4,x=.ref a/\DPut H3 a y v H4/\D.nx σ H4
section
variable {X:Cx}{o i e value:Expr}{pos pos' tpos:Pos}{td ty tv:TE}
theorem zdZ (hu:X.A.units+1<cLine)(ho:PE X o td)(hi:PE X i ty)(hs:NoSl i):PE X (.Subscript o i pos) (zqY td ty):=by
 intro pins s σ H Q I h
 refine zpy PySem.F.slot_dict_getitem.lookup hs (thn (ho pins s σ H _ I h) λu s1 ⟨x,H1,I1,rx,q1⟩=>thn (hi pins s1 σ H1 _ I1 q1) λiv s2 ⟨y,H2,I2,ry,a,v,ex,g,q2⟩=>?_)
 subst ex
 obtain rfl:u=Value.ref a:=rx
 exact⟨zkb I2 g,zmB hu I2 g ry λw' s3 I3 rw'=>⟨v,H2,I3,rw',q2⟩⟩
theorem zmE (hu:X.A.units+1<cLine)(hi:PE X i ty)(ho:PE X o td):PC X .In i o (tDIn ty td):=by
 intro pins s σ H Q I h
 refine thn (hi pins s σ H _ I h) λiv s1 ⟨y,H1,I1,ry,q1⟩=>thn (ho pins s1 σ H1 _ I1 q1) λu s2 ⟨x,H2,I2,rx,a,ov,ex,g,q2⟩=>?_
 subst ex
 obtain rfl:u=Value.ref a:=rx
 exact d_in hu I2 g ry λs3 I3=>⟨.bl ov.isSome,H2,I3,rfl,q2⟩
theorem zfi (hu:X.A.units+1<cLine)(hi:PE X i ty)(ho:PE X o td):PC X .NotIn i o (zmD ty td):=by
 intro pins s σ H Q I h
 refine thn (hi pins s σ H _ I h) λiv s1 ⟨y,H1,I1,ry,q1⟩=>thn (ho pins s1 σ H1 _ I1 q1) λu s2 ⟨x,H2,I2,rx,a,ov,ex,g,q2⟩=>?_
 subst ex
 obtain rfl:u=Value.ref a:=rx
 exact zpx hu I2 g ry λs3 I3=>⟨.bl (!ov.isSome),H2,I3,rfl,q2⟩
theorem ziq (hu:X.A.units+1<cLine)(ho:PE X o td)(hi:PE X i ty)(hv:PE X value tv)(hs:swapsWith value (some (.Subscript o i pos')) pos.line X.env=pure false) :
  PS X (.Assign [.Subscript o i pos'] value pos) (zqZ td ty tv):=by
 intro pins s σ H D I h
 refine wpAny_Assign_Subscript (thn (hv pins s σ H _ I h) λr s1 ⟨v,H1,I1,rv,q1⟩=>thn (ho pins s1 σ H1 _ I1 q1) λu s2 ⟨x,H2,I2,rx,q2⟩=>thn (hi pins s2 σ H2 _ I2 q2) λiv s3 ⟨y,H3,I3,ry,a,H4,ex,g,q3⟩=>?_) hs
 subst ex
 obtain rfl:u=Value.ref a:=rx
 exact zmC hu I3 g ry rv λs4 I4=>⟨σ,H4,I4,q3⟩
end


theorem zk0(h:Heap)(hb:sysModules<h.objs.size):zbI P w H (h.push {cls:=.type "dict",data:=.dict #[]}) h.objs.size (.dK []):=
 ⟨Nat.zero_le _,beq_eq_false_iff_ne.mpr (Ne.symm (Nat.ne_of_lt hb)),[],.nil,Heap.DictOf.new h⟩
def zoR:TE:=λ_ H Q=>∀ p,H p=none->Q (.ref p) (upd H p (.dK []))
section
variable {X:Cx}{pos:Pos}
theorem zgr:PE X (.Dict [] [] pos) zoR:=λpins s σ H Q I h=>
 wpAny_Dict_empty ⟨.ref s.heap.objs.size,_,I.laid (a:=s.heap.objs.size) (o:=.dK []) (t':=s.toks) (λ_ _ q=>Heap.get?_push_of_some _ q) (Nat.le_refl _) (zk0 s.heap I.big),rfl,h _ (I.hok.fresh (Nat.le_refl _))⟩
end

def zgM:List (TE × TE)->St->Hp->(List (V × V)->Hp->Prop)->Prop
 | [],_,H,Q=>Q [] H
 | (tk,tv)::r,σ,H,Q=>tk σ H λx H1=>tv σ H1 λy H2=>zgM r σ H2 λps H3=>Q ((x,y)::ps) H3
abbrev VV:List (V × V)->List (Value × Value)->Prop:=Paired λp q=>RelV p.1 q.1/\RelV p.2 q.2
def PPs (X:Cx)(pos:Pos)(keys:List (Option Expr))(values:List Expr)(trs:List (TE × TE)):Prop:=
 ∀ (pins:List (Addr × Obj)) (s:Shared) (σ:St) (H:Hp) (Q:List (V × V)->Hp->Prop),Inv X pins σ H s->zgM trs σ H Q->
  wpAny (model X.prog X.w) X.A (evalPairs (pairTrees keys values X.env pos)) (λvs s'=>∃ ps H',Inv X pins σ H' s'/\VV ps vs/\Q ps H') X.xe s
theorem zfI: PPs X pos [] [] []:=λpins s σ H Q I h=>pairTrees_nil_walk ⟨[],H,I,.nil,h⟩
variable {trs:List (TE × TE)}
theorem zce{k v:Expr}{ks:List (Option Expr)}{vs:List Expr}{tk tv:TE}(hk:PE X k tk)(hv:PE X v tv)(hr:PPs X pos ks vs trs):
  PPs X pos (some k::ks) (v::vs) ((tk,tv)::trs):=λpins s σ H Q I h=>
 pairTrees_cons_walk (thn (hk pins s σ H _ I h) λu s1 ⟨x,H1,I1,rx,q1⟩=>thn (hv pins s1 σ H1 _ I1 q1) λw2 s2 ⟨y,H2,I2,ry,q2⟩=>
  thn (hr pins s2 σ H2 _ I2 q2) λws s3 ⟨ps,H3,I3,rel,q3⟩=>⟨(x,y)::ps,H3,I3,.cons ⟨rx,ry⟩ rel,q3⟩)
def zbQ (kvs more:List (Key × V)):List (Key × V):=more.foldl (λacc kv=>putK acc kv.1 kv.2) kvs
theorem KV.merge:∀ {more:List (Key × V)}{rs:List (Key × Value)}{kvs:List (Key × V)}{vs:List (Key × Value)},KV more rs->KV kvs vs->KV (zbQ kvs more) (merged vs rs):=by
 intro more rs kvs vs r
 unfold KV at r
 induction r generalizing kvs vs with
 | nil=>intro q;exact q
 | @cons p q ps qs h t ih=>
  intro r0
  have e:KV (putK kvs p.1 p.2) (stored vs q.1 q.2):=by
   have:=r0.put p.1 h.2
   rw[<-h.1];exact this
  exact ih e
theorem zfj:∀ (more kvs:List (Key × V)),(zbQ kvs more).length<=kvs.length+more.length
 | [],kvs=>by show kvs.length<=kvs.length+0;omega
 | p::r,kvs=>by
  have h1:=zfj r (putK kvs p.1 p.2)
  have h2:=ze1 kvs p.1 p.2
  show (zbQ (putK kvs p.1 p.2) r).length<=_
  rw[List.length_cons];omega
theorem zhY {P:Program}{w:World} : ∀ {kvs:List (Key × V)}{ws:List (Value × Value)},VV (kvs.map λkv=>(kV kv.1,kv.2)) ws->∃ rs,Carries (zbg P w) ws rs/\KV kvs rs
 | [],_,r=>by rw[List.map_nil] at r;cases r;exact⟨[],True.intro,.nil⟩
 | p::kvs,_,r=>by
  rw[zmc] at r
  cases r with
  | @cons a b as bs h t=>
   obtain⟨rs,c,q⟩:=zhY (P:=P) (w:=w) t
   obtain⟨b1,b2⟩:=b
   exact⟨(p.1,b2)::rs,⟨zht h.1,rfl,c⟩,.cons ⟨rfl,h.2⟩ q⟩
def zq0 (trs:List (TE × TE)):TE:=λσ H Q=>∀ p,H p=none->zgM trs σ (upd H p (.dK [])) λps H2=>H2 p=some (.dK [])/\∃ kvs:List (Key × V),ps=kvs.map (λkv=>(kV kv.1,kv.2))/\kvs.length<=15/\Q (.ref p) (upd H2 p (.dK (zbQ [] kvs)))
theorem zfJ{keys:List (Option Expr)}{values:List Expr}(h:PPs X pos keys values trs)(hall:keys.all (·.isSome)=true)(hl:keys.length=values.length)(h0:keys≠[])(h15:keys.length<=15):PE X (.Dict keys values pos) (zq0 trs):=by
 intro pins s σ H Q I q
 have hn:=I.hok.fresh (Nat.le_refl s.heap.objs.size)
 have I1:=I.laid (a:=s.heap.objs.size) (o:=.dK []) (h':=s.heap.push {cls:=.type "dict",data:=.dict #[]}) (t':=s.toks) (λ_ _ q=>Heap.get?_push_of_some _ q) (Nat.le_refl _) (zk0 s.heap I.big)
 refine wpAny_Dict_walk (knd:=zbg X.prog X.w) hall hl h0 h15 (thn (h pins _ σ _ _ I1 (q _ hn)) λws s2 ⟨ps,H2,I2,rel,e,kvs,ep,lk,q2⟩=>?_)
 subst ep
 obtain⟨rs,c,rk⟩:=zhY (P:=X.prog) (w:=X.w) rel
 obtain⟨z,hd,vs0,r0,dd⟩:=zj9 I2.hok e
 cases r0
 refine⟨rs,c,dd,λh' dd' hs=>⟨.ref s.heap.objs.size,_,?_,rfl,q2⟩⟩
 have hz:(zbQ [] kvs).length<=sizeLine:=by
  have h1:=zfj kvs []
  rw[List.length_nil] at h1
  rw[sizeLine_eq];omega
 have he:∃ q,h'.get? s.heap.objs.size=some q:=let ⟨q,_,_,hq,_⟩:=dd';⟨q,hq⟩
 exact zgL I2 (by rw[e];exact True.intro) hs he (zkZ hz hd (rk.merge .nil) dd')
structure M2 (X:Cx)(o:Expr)(m:Str)(apos:Pos)(e f:Expr)(cpos:Pos):Prop where
 base:attributeBase o m X.env (eval o X.env)=eval o X.env
 few:((backTo cpos (starEach [e,f] X.env)).all (λx=>!x.1) && (backToKw cpos (keywordEach [] X.env)).all (λx=>x.1.isSome)
  && decide (([e,f]:List Expr).length+([]:List Keyword).length+(if ([]:List Keyword).isEmpty then 0 else 1)<30))=true
 line:(apos.endLine == cpos.line)=true
 trees:backTo cpos (starEach [e,f] X.env)=[(false,eval e X.env),(false,eval f X.env)]
def IsD (H:Hp)(a:Addr):Prop:=(∃ kvs,Rd H a (.dK kvs))\/∃ kvs,Rd H a (.dT kvs)
theorem zoS(I:Inv X pins σ H s)(d:IsD H a):
  s.TypeIs (.ref a) "dict" /\(∀ b,Value.ref a=.ref b->∃ ob,s.heap.get? b=some ob/\ob.dict=none)/\(a == sysModules)=false:=by
 rcases d with ⟨kvs,e⟩ | ⟨kvs,e⟩
 ·obtain⟨_,hd,vs,_,dd⟩:=zj8 I.hok e
  refine⟨dd.typeIs,λb q=>?_,hd⟩
  cases q
  obtain⟨ob,_,_,h1,h2,_⟩:=dd
  exact⟨ob,h1,h2.2.1⟩
 ·obtain⟨_,hd,xs,_,dd⟩:=zka I.hok e
  refine⟨dd.typeIs,λb q=>?_,hd⟩
  cases q
  obtain⟨ob,_,_,h1,h2,_⟩:=dd
  exact⟨ob,h1,h2.2.1⟩
section
variable {X:Cx}{pins:List (Addr × Obj)}{σ:St}{H:Hp}{s:Shared}{a:Addr}{y d:V}{u r:Value}{o:Option V}{A:Around}{E:Value->Shared->Prop}
theorem zq1(hu:A.units+1<cLine)(I:Inv X pins σ H s)(g:DGet H a y o)(ry:RelV y u)(rd:RelV d r)(h:∀ w' s',Inv X pins σ H s'->RelV (o.getD d) w'->Q w' s'):
  wpAny (model X.prog X.w) A (call (.builtin "dict.get") [.ref a,u,r]) Q E s:=by
 rcases g with ⟨kvs,k,e,ey,l⟩ | ⟨kvs,k,b,e,ey,eb,l⟩
 ·subst ey
  obtain⟨z,hd,vs,rel,dd⟩:=zj8 I.hok e
  refine call_meetsIn PySem.F.slot_dict_get dd.typeIs PySem.F.entry_dict_get (PySem.F.args_dict_get_3 _ _ _) (meets_dict_get_default (zbg X.prog X.w) a (zht ry) hd r) ⟨_,dd.mapOf,h _ _ (I.tok _) ?_⟩
  rw[l]
  exact (rel.val k).getD rd
 ·subst ey
  cases (show u=Value.ref b from ry)
  obtain⟨z,hd,xs,rel,dd⟩:=zka I.hok e
  refine call_meetsIn PySem.F.slot_dict_get dd.typeIs PySem.F.entry_dict_get (PySem.F.args_dict_get_3 _ _ _) (meetsH_dict_get_default (tupleKind (zbg X.prog X.w)) a b hd r) ⟨tupleKind_room_in1 hu,k,xs,zhX I.hok eb,dd,h _ _ (I.tok _) ?_⟩
  rw[l]
  exact (rel.val k).getD rd
end

def zoT (td ty tx:TE):TE:=λσ H Q=>td σ H λx H1=>∃ a,x=.ref a/\IsD H1 a/\ty σ H1 λy H2=>tx σ H2 λz H3=>∃ o,DGet H3 a y o/\Q (o.getD z) H3
def zoU (td ty tx:TE):TE:=λσ H Q=>td σ H λx H1=>∃ a,x=.ref a/\IsD H1 a/\ty σ H1 λy H2=>tx σ H2 λz H3=>∃ kvs k,H3 a=some (.dK kvs)/\y=kV k/\
 (∀ v,valV kvs k=some v->Q v (upd H3 a (.dK (zeg kvs k))))/\(valV kvs k=none->Q z H3)
section
variable {X:Cx}{o e f:Expr}{apos cpos:Pos}{td ty tx:TE}
theorem znU (hu:X.A.units+1<cLine)(ho:PE X o td)(he:PE X e ty)(hf:PE X f tx)(m:M2 X o "get" apos e f cpos):PE X (.Call (.Attribute o "get" apos) [e,f] [] cpos) (zoT td ty tx):=by
 intro pins s σ H Q I h
 refine wpAny_Call_method m.base m.few m.line PySem.F.plainAttrs_dict PySem.F.slot_dict_get PySem.F.type_dict_get (thn (ho pins s σ H _ I h) λu s1 ⟨x,H1,I1,rx,a,ex,d,q1⟩=>?_)
 subst ex
 obtain rfl:u=Value.ref a:=rx
 obtain⟨t1,t2,_⟩:=zoS I1 d
 refine⟨t1,t2,?_⟩
 rw[m.trees]
 refine Calls.callWith_builtin rfl (Calls.evalArgs_plain (Calls.spliced_cons (thn (he pins s1 σ H1 _ I1 q1) λiv s2 ⟨y,H2,I2,ry,q2⟩=>
  Calls.spliced_cons (thn (hf pins s2 σ H2 _ I2 q2) λfv s3 ⟨z,H3,I3,rz,ov,g,q3⟩=>Calls.spliced_nil ?_))))
 exact zq1 hu I3 g ry rz λw' s4 I4 rw'=>⟨_,H3,I4,rw',q3⟩
theorem znV (ho:PE X o td)(he:PE X e ty)(hf:PE X f tx)(m:M2 X o "pop" apos e f cpos):PE X (.Call (.Attribute o "pop" apos) [e,f] [] cpos) (zoU td ty tx):=by
 intro pins s σ H Q I h
 refine wpAny_Call_method m.base m.few m.line PySem.F.plainAttrs_dict PySem.F.slot_dict_pop PySem.F.type_dict_pop (thn (ho pins s σ H _ I h) λu s1 ⟨x,H1,I1,rx,a,ex,d,q1⟩=>?_)
 subst ex
 obtain rfl:u=Value.ref a:=rx
 obtain⟨t1,t2,_⟩:=zoS I1 d
 refine⟨t1,t2,?_⟩
 rw[m.trees]
 refine Calls.callWith_builtin rfl (Calls.evalArgs_plain (Calls.spliced_cons (thn (he pins s1 σ H1 _ I1 q1) λiv s2 ⟨y,H2,I2,ry,q2⟩=>
  Calls.spliced_cons (thn (hf pins s2 σ H2 _ I2 q2) λfv s3 ⟨z,H3,I3,rz,kvs,k,ea,ey,q3,q4⟩=>Calls.spliced_nil ?_))))
 subst ey
 cases l:valV kvs k with
 | some v=>exact d_pop I3 ea ry l (.inr ⟨fv,rfl⟩) λw' s4 I4 rw'=>⟨v,_,I4,rw',q3 v l⟩
 | none=>exact zqX I3 ea ry l λs4 I4=>⟨z,H3,I4,rz,q4 l⟩
end

section
variable {X:Cx}{pins:List (Addr × Obj)}{σ:St}{H:Hp}{s:Shared}{a:Addr}{kvs:List (Key × V)}{A:Around}{E:Value->Shared->Prop}
end


section
variable {X:Cx}{pins:List (Addr × Obj)}{σ:St}{H:Hp}{s:Shared}{a:Addr}{y:V}{u:Value}{A:Around}{E:Value->Shared->Prop}
end
end L2

namespace Att
open PySem PySem.W PySem.Calls PyProof.Rows

variable {P:Params}
theorem zgN{h:Heap}: ∀ (ns:List Int) (vs:List Value),WellAll P h vs (ns.map WData.int)->IntsAre vs ns:=by
 intro ns
 induction ns with
 | nil=>
  intro vs w
  rw[List.map_nil] at w
  cases w
  exact .nil
 | cons n ns ih=>
  intro vs w
  rw[zmc] at w
  cases w with
  | cons a b=>
   cases a
   exact .cons _ _ (ih _ b)
variable {l:OpenLaw}{n:Nat}
theorem zmF(hn:l.most=some n){h:Heap}{args:List WData}{vals:List Value}(hpre:l.row.toRowW.claim.pre args=true)(hwl:WellAll P h vals args):
  ∃ a vs ns,vals=[Value.ref a]/\args=[WData.list (ns.map WData.int)]/\h.get? a=some {cls:=.type "list",data:=.seq vs.toArray}/\IntsAre vs ns/\ns.length<=n:=by
 have hsh:WShape.hasAll [] args [.list .int]=true:=(pre_splitW hpre).1
 have hc:l.pre.holds [] {args:=args}=true:=(pre_splitW hpre).2
 obtain⟨d,r,rfl,h1,h2⟩:=hasAllW_cons hsh
 obtain rfl:=hasAllW_nil h2
 obtain⟨xs,rfl,h3⟩:=hasW_list h1
 obtain⟨ns,rfl⟩:=items_int h3
 have hlen:ns.length<=n:=by
  unfold OpenLaw.pre at hc
  have h4:(WTm.not (.lt (.lit (.int (n:Int))) (.len (.arg 0)))).holds [] {args:=[.list (ns.map .int)]}=true:=by
   have h4:=(holds_andW hc).1
   rw[hn] at h4
   exact h4
  have h5:=condW_of h4 (w_not (w_lt w_lit (w_len_list (w_arg rfl))))
  rw[zlm] at h5
  refine Nat.le_of_not_lt λq=>?_
  have q':(n:Int)<((ns.length:Nat):Int):=by omega
  first
   | (rw[decide_eq_true q'] at h5;exact absurd h5 (by decide))
   | (simp at h5;omega)
 cases hwl with
 | cons w1 w2=>
  cases w2
  cases w1 with
  | list ho hall=>exact⟨_,_,ns,rfl,rfl,ho,zgN ns _ hall,hlen⟩
theorem zmG (l:OpenLaw)(args:List WData):l.row.toRowW.claim.post args (.bool true) args=true:=
 postW_of (r:=l.row.toRowW) (X:=(true == true))
  (show WShape.has [] (.bool true) .bool=true by first | rfl | decide | simp[WShape.has,WShape.arms,WShape.armsAll])
  (show (WTm.eq .res (.lit (.bool true))).value [] {args:=args,res:=some (.bool true),after:=args}=some (.bool (true == true)) from w_eq_bool (w_res rfl) w_lit) rfl
theorem attach_call{q:Program}{loose:List Str}{XP:(Str->Option Value)->Heap->Prop}{YP:World->Heap->Prop}{d:DefRec}(hn:l.most=some n)(hdf:d.params.defaults=[])(call:∀ (w:World) (s₀ s₁:Shared) (mg mb:Str->Option Value) (fa:Addr) (o:Obj) (pm cd doc:Value) (a:Addr) (vs:List Value) (ns:List Int),
   Ground q loose [] XP w s₀ mg mb s₁.heap->YP w s₁.heap->
   s₁.heap.get? fa=some o->o.data=.func (docDef d.name d.params d.body d.scope pm cd doc)->s₁.heap.CodeRec cd d.name->mg d.name=some (.ref fa)->
   s₁.heap.get? a=some {cls:=.type "list",data:=.seq vs.toArray}->IntsAre vs ns->ns.length<=n->s₁.gens=#[]->
   codeAny (model l.prog w) callerA (.call (.ref fa) ⟨[.ref a],[]⟩) (λr s'=>r=.ok (.ret (.bool true))/\OldK s₁.heap s'.heap/\s'.os=s₁.os/\AllBare s'.gens) s₁):
  WalkO q loose XP YP l.row.toRowW d [] (λf vs=>PySem.call f vs):=by
 intro w s₀ s₁ mg mb G Y fa o pm cd doc dV kV ho hd hcd hD hmg hg args vals as hpre hlay hrd hwl hlo
 obtain rfl:dV=.none:=Dflts.none hD hdf
 obtain rfl:kV=.none:=Dflts.noKw hD
 obtain⟨a,vs,ns,rfl,rfl,hobj,hints,hlen⟩:=zmF hn hpre hwl
 refine enter_call (codeAny_mono (call w s₀ s₁ mg mb fa o pm cd doc a vs ns G Y ho (fd_plain hd) hcd hmg hobj hints hlen hg) λr s' hq=>?_)
 obtain⟨rfl,h2,h3,h4⟩:=hq
 exact⟨.inl ⟨.bool true,.bool true,[],rfl,λ_=>rfl,.bool true,zmG l _,λ_=>⟨List.Pairwise.nil,λ_ hm=>(nomatch hm)⟩⟩,h2,h3,h4⟩
section
variable {prog:Program}{w:World}{A:Around}{E:Value->Shared->Prop}{s:Shared}{K:Frag}

end
end Att

namespace L2
open PySem PySem.Spec PyProof.Rows

theorem zfk:∀ {vs:List Value}{ns:List Int},IntsAre vs ns->Vals (ns.map V.int) vs
 | _,_,.nil=>.nil
 | _,_,.cons n t h=>.cons ⟨t,rfl⟩ (zfk h)
def Only (H:Hp):Prop:=∀ b,H b=none\/∃ o xs,H b=some (.frz o (.lst xs))
variable {P:Program}{w:World}{K:Fg}{mg:Str->Option Value}{CX:CXT}{a:Addr}{fd:FuncData}{x:Str}{sp:Sp}{ns:List Int}
theorem znW{mb:Str->Option Value}{k:Nat}{fa:Addr}{s₁:Shared}{vs:List Value}(KX:K.In s₁.heap)(hns:s₁.heap.Ns mainGlobals mg)(hb:s₁.heap.Ns builtinsNs mb)(hbb:∀ x:Str,x≠ "__name__" ->mb x=bootBuiltins x)(hlim:s₁.heap.NoLimit)(hg:s₁.gens=#[])(ha:s₁.heap.get? a=some {cls:=.type "list",data:=.seq vs.toArray})(hi:IntsAre vs ns)(hl:ns.length<=sizeLine)(hr:Room k callerA)(F:∀ base:Heap,K.In base->base.Ns mainGlobals mg->FnOk P w K mg base CX k fa fd [x] sp)(hbind:∀ (s:Shared) (u:Value),BindsTo s fd ⟨[u],[]⟩ [(x,u)])(hsp:∀ H:Hp,Only H->SqL K H a (ns.map V.int)->sp [.ref a] H (λv _=>v=.bl true) λ_ _ _=>False)(hCX:∀ H e s',CX [] H s₁ (λ_ _ _=>False) e s'->False):
  codeAny (model P w) callerA (.call (.ref fa) ⟨[.ref a],[]⟩) (λr s'=>r=.ok (.ret (.bool true))/\OldK s₁.heap s'.heap/\s'.os=s₁.os/\AllBare s'.gens) s₁:=by
 have rv:=zfk hi
 have lenV:=hi.length
 -- from an abstract heap in which nothing but the script may be tracked
 have core:∀ H:Hp,Only H->SqL K H a (ns.map V.int)->HOk P w H s₁.heap->(∀ b,H b≠none->b=a)->(H a≠none->K.lookup a=none)->
   codeAny (model P w) callerA (.call (.ref fa) ⟨[.ref a],[]⟩) (λr s'=>r=.ok (.ret (.bool true))/\OldK s₁.heap s'.heap/\s'.os=s₁.os/\AllBare s'.gens) s₁:=by
  intro H hO hS hok hA hK
  have base_of:∀ {b:Addr}{o:Obj},s₁.heap.get? b=some o->H b=none->(hidT s₁.heap H).get? b=some o:=λe n=>znG e n
  have noA:∀ {b:Addr}{o:Obj}{es:Array DictEntry}{ep:Nat},s₁.heap.get? b=some o->o.data=.dict es ep->H b=none:=λ{b o es ep} e d=>by
   cases q:H b with
   | none=>rfl
   | some u=>
    have e':b=a:=hA b (by rw[q];simp)
    subst e'
    rw[ha] at e;cases e
    have d':Data.seq vs.toArray _=Data.dict es ep:=d
    cases d'
  have nsK:∀ {b:Addr}{m:Str->Option Value},s₁.heap.Ns b m->(hidT s₁.heap H).Ns b m:=λ{b m} ⟨o,es,ep,e,d,r⟩=>⟨o,es,ep,base_of e (noA e d),d,r⟩
  have hKb:K.In (hidT s₁.heap H):=λb o e=>base_of (KX b o e) (by
   cases q:H b with
   | none=>rfl
   | some u=>
    have e':b=a:=hA b (by rw[q];simp)
    subst e'
    rw[hK (by rw[q];simp)] at e;cases e)
  have hM:Mod K mg (hidT s₁.heap H):=⟨hKb,nsK hns,⟨mb,nsK hb,hbb⟩,let ⟨mc,h1,h2⟩:=hlim;⟨mc,nsK h1,h2⟩⟩
  have e0:Env0 P w K mg (hidT s₁.heap H) callerA [] s₁ H:=⟨rfl,hM,λb o e=>zpe e,Nat.le_of_eq (zl2 _ _),trivial,λb hb=>absurd (show b∈([]:List Addr) from hb) (by simp),hok,.of_eq hg⟩
  refine codeAny_mono ((F _ hKb (nsK hns)).run callerA [] s₁ H ⟨[.ref a],[]⟩ [.ref a] [.ref a] _ _ hr e0 (hbind s₁ (.ref a)) (.cons rfl .nil) (hsp H hO hS)) λr s' h=>?_
  cases r with
  | error e=>exact (hCX H e s' h).elim
  | ok fl=>
   cases fl with
   | next=>exact False.elim h
   | brk=>exact False.elim h
   | cont=>exact False.elim h
   | ret u=>
    obtain⟨v,H',os,bare,un,hok',r',q⟩:=h
    have q':v=.bl true:=q
    subst q'
    obtain rfl:u=Value.bool true:=r'
    refine⟨rfl,OldK.of_keep λb o e=>?_,os,bare⟩
    cases q:H b with
    | none=>exact un.keep b o e q (by intro z;exact absurd (show b∈([]:List Addr) from z) (by simp)) (by simp)
    | some u=>
     rcases hO b with z | ⟨ob,xs,z⟩
     ·rw[q] at z;cases z
     ·have z2:=un.frzs b ob _ z
      obtain⟨e1,_⟩:=hok b _ z
      obtain⟨e2,_⟩:=hok' b _ z2
      rw[e] at e1;cases e1
      exact e2
 cases hk:K.lookup a with
 | some o=>
  -- the script is one of the module's own objects
  have e:=KX a o hk
  rw[ha] at e
  cases e
  refine core (λ_=>none) (λ_=>.inl rfl) (.inr ⟨_,vs.toArray,_,hk,rfl,rfl,rfl,by rw[zst,lenV];exact hl,by simpa using rv⟩) (λb u z=>by have z':(none:Option HO)=some u:=z;cases z') (λb z=>absurd rfl z) λz=>absurd rfl z
 | none=>
  refine core (λb=>if b=a then some (.frz {cls:=.type "list",data:=.seq vs.toArray} (.lst (ns.map V.int))) else none) (λb=>?_) (.inl (.inr ⟨{cls:=.type "list",data:=.seq vs.toArray},if_pos rfl⟩)) (λb u z=>?_) (λb z=>?_) λ_=>hk
  ·by_cases hb:b=a
   ·exact .inr ⟨_,_,if_pos hb⟩
   ·exact .inl (if_neg hb)
  ·by_cases hb:b=a
   ·have z':=(if_pos hb).symm.trans z
    cases z'
    subst hb
    exact⟨ha,by rw[zlm];exact hl,vs,_,rv,ha⟩
   ·have z':=(if_neg hb).symm.trans z
    cases z'
  ·by_cases hb:b=a
   ·exact hb
   ·exact absurd (if_neg hb) z



abbrev CX0:CXT:=λ_ _ _ _ _ _=>False
abbrev E0:XK:=λ_ _ _=>False
variable {X:Cx}
theorem zbi: zcK CX0 X E0:=λ_ _ _ _ _ _ _ h=>h.elim
structure Fun (K:Fg)(x qual:Str)(st:Stmt)(f:Addr)(fd:FuncData):Prop where
 ex:∃ (oc:Value) (od:Option Addr) (kV doc pm:Value) (an:Option Addr) (cdv ct:Value) (osl:Array (Option Value)),
  fd=PySem.W.fnOf x qual (zdy st) (zb4 st) (zaf st) .none kV doc pm an cdv ct/\K.lookup f=some ⟨oc,od,.func fd,osl⟩/\PySem.W.codeIn K cdv qual=true
 kp:PySem.W.keepIn K (.ref f)=true
variable {qual:Str}{st:Stmt}{f:Addr}{N ps:List Str}
section
variable {P:Program}{w:World}{K:Fg}{mg:Str->Option Value}{base:Heap}
theorem Fun.ok{k:Nat}(F:Fun K x qual st f fd)(S:FSc N ps (zaf st))(len:∀ vs H Q E,sp vs H Q E->vs.length=ps.length)(hbody:∀ (cdv:Value) (A:Around) (outer:List Env) (s:Shared) (H:Hp) (vs:List V) (Q:VK) (E:XK),Room k (A.deeper (envOfC qual (zaf st) s.heap.objs.size f cdv))->sp vs H Q E->
   ∃ t,PSs (cxOf CX0 P w K mg base N qual (zaf st) f cdv A outer s H E).nox (zb4 st) t/\t {nx:=λ_ H'=>Q .non H',rt:=Q} (start N vs) H):FnOk P w K mg base CX0 (k+1) f fd ps sp:=by
 obtain⟨oc,od,kV,doc,pm,an,cdv,ct,osl,rfl,lk,hcd⟩:=F.ex
 refine zqI lk hcd S len λA outer s H vs Q E hr hsp=>?_
 obtain⟨t,h,q⟩:=hbody cdv A outer s H vs Q E hr hsp
 exact⟨t,h.nox,q⟩
theorem Fun.binds(F:Fun K x qual st f fd)(h:∀ (kV doc pm:Value) (an:Option Addr) (cdv ct:Value) (us:List Value),us.length=ps.length->bindArgs (PySem.W.fnOf x qual (zdy st) (zb4 st) (zaf st) .none kV doc pm an cdv ct) ⟨us,[]⟩=pure (ps.zip us)):zef K fd ps []:=by
 obtain⟨oc,od,kV,doc,pm,an,cdv,ct,osl,rfl,lk,hcd⟩:=F.ex
 exact .all (h kV doc pm an cdv ct)
theorem zoV{oc:Value}{od an:Option Addr}{osl:Array (Option Value)}{kV doc pm cdv ct:Value}(l:K.lookup f=some ⟨oc,od,.func (PySem.W.fnOf x qual (zdy st) (zb4 st) (zaf st) .none kV doc pm an cdv ct),osl⟩)(c:PySem.W.codeIn K cdv qual=true)(k:PySem.W.keepIn K (.ref f)=true):Fun K x qual st f (PySem.W.fnOf x qual (zdy st) (zb4 st) (zaf st) .none kV doc pm an cdv ct):=⟨⟨oc,od,kV,doc,pm,an,cdv,ct,osl,rfl,l,c⟩,k⟩
end
variable {n:Nat}
theorem zc3(h:n<=1000):n<sizeLine:=Nat.lt_of_le_of_lt h (by decide)
variable {pos:Pos}
section
variable {X:Cx}
theorem pv(i:Nat)(hN:X.N[i]?=some x:=by rfl)(hv:Vis X.env.scope x:=by first | exact Or.inl rfl | exact Or.inr (Or.inl rfl) | exact Or.inr (Or.inr rfl))(hd:(x == ("__debug__" : Str))=false:=by decide)(hcd:(x == ("__classdict__" : Str))=false:=by decide):PE X (.Name x pos) (tVar i):=zqu hN hv hd hcd
end

variable {B A:Prop}
theorem iteF(h:B):if false=true then A else B:=by
 rw[if_neg Bool.false_ne_true]
 exact h
theorem iteT(h:A):if true=true then A else B:=by
 rw[if_pos rfl]
 exact h
theorem ite2{c:Prop}[Decidable c](h1:c->A)(h2:¬ c->B):if c then A else B:=by
 by_cases h:c
 ·rw[if_pos h]
  exact h1 h
 ·rw[if_neg h]
  exact h2 h
def Same (H H':Hp):Prop:=∀ b o,H b=some o->H' b=some o
theorem Same.refl (H:Hp):Same H H:=λ_ _ h=>h
variable {H H1 H2:Hp}
theorem Same.trans(a:Same H H1)(b:Same H1 H2):Same H H2:=λc o h=>b c o (a c o h)
variable {H':Hp}
theorem Same.free(e:Same H H'){l:Addr}(h:H' l=Option.none):H l=Option.none:=by
 cases q:H l with
 | none=>rfl
 | some o=>
  rw[e l o q] at h
  cases h
variable {xs:List V}
theorem Same.seq(e:Same H H')(h:SqL K H a xs):SqL K H' a xs:=by
 rcases h with (h | ⟨o,h⟩) | h
 ·exact .inl (.inl (e _ _ h))
 ·exact .inl (.inr ⟨o,e _ _ h⟩)
 ·exact .inr h
variable {v:V}
section
variable {κ:Type} [DecidableEq κ]
theorem znX {kvs:List (κ × V)}{k:κ}(h:valV kvs k=none):¬ k∈kvs.map (·.1):=by
 intro m
 obtain⟨p,hp,e⟩:=zmm.mp m
 have q:(kvs.any λkv=>decide (kv.1=k))=true:=List.any_eq_true.mpr ⟨p,hp,decide_eq_true e⟩
 rw[zdn,h] at q
 exact absurd q (by simp)
theorem zmH{kvs:List (κ × V)}{k:κ}(h:valV kvs k=some v):k∈kvs.map (·.1):=by
 have q:(kvs.any λkv=>decide (kv.1=k))=true:=by
  rw[zdn,h]
  all_goals rfl
 obtain⟨p,hp,e⟩:=List.any_eq_true.mp q
 exact zmm.mpr ⟨p,hp,of_decide_eq_true e⟩
theorem zmI:∀ {l:List κ}{k:κ},l.Nodup->¬ k∈l->(l++[k]).Nodup
 | [],k,_,_=>by simp
 | a::r,k,h,hk=>by
  obtain⟨h1,h2⟩:=List.nodup_cons.mp h
  show (a::(r++[k])).Nodup
  refine List.nodup_cons.mpr ⟨λm=>?_,zmI h2 λm=>hk (List.mem_cons.mpr (Or.inr m))⟩
  rcases zma.mp m with q | q
  ·exact h1 q
  ·exact hk (List.mem_cons.mpr (Or.inl (zms.mp q).symm))
theorem zmJ {p:κ × V}{r:List (κ × V)}{k:κ}(e:p.1=k):zeg (p::r) k=zeg r k:=by
 unfold zeg
 rw[List.filter_cons,if_neg (by simp[e])]
theorem zmK {p:κ × V}{r:List (κ × V)}{k:κ}(e:¬ p.1=k):zeg (p::r) k=p::zeg r k:=by
 unfold zeg
 rw[List.filter_cons,if_pos (by simp[e])]
end

def zdI:List Bool->St->St
 | [],_=>[]
 | _::ms,[]=>none::zdI ms []
 | b::ms,v::σ=>(if b=true then none else v)::zdI ms σ
theorem zdo:∀ (ms:List Bool) (σ:St),(zdI ms σ).length=ms.length
 | [],_=>rfl
 | _::ms,[]=>by simp[zdI,zdo ms []]
 | _::ms,_::σ=>by simp[zdI,zdo ms σ]
theorem zgO:∀ {ms:List Bool}{σ:St}{i:Nat}{v:V},(zdI ms σ)[i]?=some (some v)->ms[i]?=some false/\σ[i]?=some (some v)
 | [],_,_,_,h=>by simp[zdI] at h
 | b::ms,[],0,v,h=>by simp[zdI] at h
 | b::ms,[],i+1,v,h=>by
  have q:=zgO (ms:=ms) (σ:=[]) (i:=i) (v:=v) (by simpa [zdI] using h)
  simp at q
 | b::ms,u::σ,0,v,h=>by
  cases b with
  | true=>simp[zdI] at h
  | false=>simp[zdI] at h;simp[h]
 | b::ms,u::σ,i+1,v,h=>by
  have q:=zgO (ms:=ms) (σ:=σ) (i:=i) (v:=v) (by simpa [zdI] using h)
  simpa using q
def zc4 (env:Env):List (Str × NameKind)->List (Str × Addr)->List (Str × Addr)
 | [],cs=>cs
 | (n,k)::r,cs=>zc4 env r (if k=.free then (match env.cells.lookup n with | some c=>(n,c)::cs | none=>cs) else cs)
variable {env:Env}
theorem zja: ∀ (names:List (Str × NameKind)) (cs:List (Str × Addr)),(∀ x c,cs.lookup x=some c->env.cells.lookup x=some c)->
  ∀ x c,(zc4 env names cs).lookup x=some c->env.cells.lookup x=some c
 | [],cs,h,x,c,e=>h x c e
 | (n,k)::r,cs,h,x,c,e=>by
  refine zja r _ (λy d q=>?_) x c e
  by_cases hk:k=.free
  ·rw[if_pos hk] at q
   cases hn:env.cells.lookup n with
   | none=>rw[hn] at q;exact h y d q
   | some a=>
    rw[hn] at q
    simp only[List.lookup_cons] at q
    cases hy:y == n with
    | true=>
     rw[hy] at q
     have:y=n:=by simpa using hy
     subst this
     rw[hn];exact q
    | false=>rw[hy] at q;exact h y d q
  ·rw[if_neg hk] at q;exact h y d q
theorem zgP: ∀ (names:List (Str × NameKind)) (cs:List (Str × Addr)) (x:Str),(∀ p∈names,p.2=.free->∃ c,env.cells.lookup p.1=some c)->
  ((x,NameKind.free)∈names\/∃ c,cs.lookup x=some c)->∃ c,(zc4 env names cs).lookup x=some c
 | [],cs,x,_,h=>by
  rcases h with h | h
  ·cases h
  ·exact h
 | (n,k)::r,cs,x,hf,h=>by
  refine zgP r _ x (λp hp=>hf p (List.mem_cons_of_mem _ hp)) ?_
  by_cases hk:k=.free
  ·obtain⟨c,hc⟩:=hf (n,k) List.mem_cons_self hk
   simp only at hc
   rw[if_pos hk,hc]
   rcases h with h | ⟨d,hd⟩
   ·rcases List.mem_cons.mp h with e | e
    ·cases e
     exact .inr ⟨c,by simp⟩
    ·exact .inl e
   ·refine .inr ?_
    simp only[List.lookup_cons]
    cases hy:x == n with
    | true=>exact⟨c,rfl⟩
    | false=>exact⟨d,hd⟩
  ·rw[if_neg hk]
   rcases h with h | h
   ·rcases List.mem_cons.mp h with e | e
    ·cases e;exact absurd rfl hk
    ·exact .inl e
   ·exact .inr h
theorem zgQ{f:Str × NameKind->List (Str × Addr)->Sem (ForInStep (List (Str × Addr)))}(h1:∀ n c cs,env.cells.lookup n=some c->f (n,.free) cs=pure (.yield ((n,c)::cs)))(h2:∀ n k cs,k≠NameKind.free->f (n,k) cs=pure (.yield cs)):
  ∀ (names:List (Str × NameKind)) (cs:List (Str × Addr)),(∀ p∈names,p.2=.free->∃ c,env.cells.lookup p.1=some c)->forIn names cs f=pure (zc4 env names cs)
 | [],cs,_=>rfl
 | (n,k)::r,cs,hf=>by
  rw[List.forIn_cons]
  by_cases hk:k=.free
  ·subst hk
   obtain⟨c,hc⟩:=hf (n,.free) List.mem_cons_self rfl
   simp only at hc
   rw[h1 n c cs hc]
   show forIn r ((n,c)::cs) f=_
   rw[zgQ h1 h2 r _ λp hp=>hf p (List.mem_cons_of_mem _ hp)]
   simp[zc4,hc]
  ·rw[h2 n k cs hk]
   show forIn r cs f=_
   rw[zgQ h1 h2 r _ λp hp=>hf p (List.mem_cons_of_mem _ hp)]
   simp[zc4,hk]
variable {scope:Scope}
theorem zmL(hf:∀ p∈scope.names,p.2=.free->∃ c,env.cells.lookup p.1=some c):closureFor scope env=pure (zc4 env scope.names []):=by
 simp only[closureFor]
 rw[zgQ (env:=env) (λn c cs hc=>?_) (λn k cs hk=>?_) scope.names [] hf]
 ·rfl
 ·simp[cellOf,hc]
 ·have:(k == NameKind.free)=false:=by simpa using hk
  simp[this]
theorem zf3 (env:Env)(x:Str):∀ (names:List (Str × NameKind)),(names.map λ(p:Str × NameKind)=>match p with
   | (n,k)=>if (k == NameKind.free && env.scope.kind == .function && env.kindOf n == some .cell)=true then (n,NameKind.cell) else (n,k)).lookup x =
  (names.lookup x).map λk=>if (k == NameKind.free && env.scope.kind == .function && env.kindOf x == some .cell)=true then NameKind.cell else k
 | []=>rfl
 | (n,k)::r=>by
  have ih:=zf3 env x r
  rw[zmc]
  by_cases hc:(k == NameKind.free && env.scope.kind == .function && env.kindOf n == some .cell)=true
  ·simp only[if_pos hc,List.lookup_cons]
   cases hx:x == n with
   | true=>
    have:x=n:=by simpa using hx
    subst this
    exact (congrArg some (if_pos hc)).symm
   | false=>exact ih
  ·simp only[if_neg hc,List.lookup_cons]
   cases hx:x == n with
   | true=>
    have:x=n:=by simpa using hx
    subst this
    exact (congrArg some (if_neg hc)).symm
   | false=>exact ih
theorem zeS (scope:Scope)(env:Env)(x:Str):(relabel scope env).names.lookup x =
  (scope.names.lookup x).map λk=>if (k == NameKind.free && env.scope.kind == .function && env.kindOf x == some .cell)=true then NameKind.cell else k:=zf3 env x scope.names
structure COk (sc0:Scope)(N:List Str)(scope:Scope)(N':List Str)(ms:List Bool):Prop where
 kind:scope.kind=.function
 nocell:∀ y∈scope.names,y.2≠.cell
 nm:∀ y∈scope.names,y.2=.local->scope.names.lookup y.1=some .local
 fr:∀ y∈scope.names,y.2=.free->sc0.names.lookup y.1=some .cell\/sc0.names.lookup y.1=some .free
 len:ms.length=N'.length
 own:∀ (i:Nat) (x:Str),N'[i]?=some x->ms[i]?=some false->scope.names.lookup x≠some .local
 out:∀ (i:Nat) (x:Str),N'[i]?=some x->ms[i]?=some false->scope.names.lookup x=some .free->N[i]?=some x
def zgR (N:List Str)(scope:Scope):List Str->List Bool->List (Option Str)->Bool
 | x::N',false::ms,o=>(scope.names.lookup x != some .local) && (scope.names.lookup x != some .free || o.head? == some (some x)) && zgR N scope N' ms o.tail
 | _::N',true::ms,o=>zgR N scope N' ms o.tail
 | _,_,_=>true
theorem zeL: ∀ (N':List Str) (ms:List Bool) (o:List (Option Str)),zgR N scope N' ms o=true->∀ (i:Nat) (x:Str),N'[i]?=some x->ms[i]?=some false->
  scope.names.lookup x≠some .local/\(scope.names.lookup x=some .free->o[i]?=some (some x))
 | [],_,_,_,i,x,e,_=>by simp at e
 | _::_,[],_,_,i,x,_,e=>by simp at e
 | y::N',false::ms,o,h,i,x,e1,e2=>by
  simp only[zgR,Bool.and_eq_true,bne_iff_ne,ne_eq,Bool.or_eq_true,beq_iff_eq] at h
  cases i with
  | zero=>
   simp at e1;subst e1
   refine⟨h.1.1,λq=>?_⟩
   rcases h.1.2 with z | z
   ·exact absurd q z
   ·cases o with
    | nil=>simp at z
    | cons a r=>simpa using z
  | succ i=>
   have q:=zeL N' ms o.tail h.2 i x (by simpa using e1) (by simpa using e2)
   refine⟨q.1,λz=>?_⟩
   have:=q.2 z
   cases o with
   | nil=>simp at this
   | cons a r=>simpa using this
 | y::N',true::ms,o,h,i,x,e1,e2=>by
  simp only[zgR] at h
  cases i with
  | zero=>simp at e2
  | succ i=>
   have q:=zeL N' ms o.tail h i x (by simpa using e1) (by simpa using e2)
   refine⟨q.1,λz=>?_⟩
   have:=q.2 z
   cases o with
   | nil=>simp at this
   | cons a r=>simpa using this
variable {sc0:Scope}{N':List Str}{ms:List Bool}
theorem COk.mk'(kind:scope.kind=.function)(nocell:∀ y∈scope.names,y.2≠.cell)(nm:∀ y∈scope.names,y.2=.local->scope.names.lookup y.1=some .local)(fr:∀ y∈scope.names,y.2=.free->sc0.names.lookup y.1=some .cell\/sc0.names.lookup y.1=some .free)(len:ms.length=N'.length)(sl:zgR N scope N' ms (N.map some)=true):COk sc0 N scope N' ms:=
 ⟨kind,nocell,nm,fr,len,λi x e1 e2=>(zeL N' ms _ sl i x e1 e2).1,λi x e1 e2 e3=>by
  have q:=(zeL N' ms _ sl i x e1 e2).2 e3
  rw[zgm] at q
  cases h:N[i]? with
  | none=>rw[h] at q;cases q
  | some a=>rw[h] at q;simpa using q⟩
def zbR (X:Cx)(N':List Str)(scope:Scope)(cl:List (Str × Addr))(C:Addr)(fp:List Addr)(s3:Shared)(H3:Hp):Cx where
 prog:=X.prog
 w:=X.w
 K:=X.K
 mg:=X.mg
 base:=X.base
 A:=X.A
 N:=N'
 s₀:=s3
 H₀:=H3
 env:=compEnvC scope cl C X.env
 outer:=X.stack
 stack:=X.stack
 ex:=fp
 fn:=λ_=>false
 calm:=X.calm
 pn:=[]
 xe:=λ_ _=>False
variable {s3 s':Shared}{h':Heap}{C:Addr}{pins':List (Addr × Obj)}{σ':St}
section
variable {X:Cx}{pins:List (Addr × Obj)}{σ:St}{H:Hp}{N':List Str}{scope:Scope}{ms:List Bool}{fp:List Addr}

theorem COk.cells (ok:COk X.env.scope X.N scope N' ms)(k:X.Ok):∀ p∈scope.names,p.2=.free->∃ c,X.env.cells.lookup p.1=some c:=λp hp e=>k.has p.1 (ok.fr p hp e)
theorem zhZ{c:Addr}(e:(zc4 X.env scope.names []).lookup x=some c):X.env.cells.lookup x=some c:=zja _ [] (λ_ _ q=>by cases q) x c e
theorem COk.kinds(ok:COk X.env.scope X.N scope N' ms)(h:(relabel scope X.env).names.lookup x=some .cell\/(relabel scope X.env).names.lookup x=some .free):scope.names.lookup x=some .free:=by
 rw[zeS] at h
 cases e:scope.names.lookup x with
 | none=>rw[e] at h;rcases h with h | h <;> cases h
 | some k=>
  rw[e] at h
  simp only[Option.map_some,Option.some.injEq] at h
  by_cases hk:k=.free
  ·rw[hk]
  ·have hb:(k == NameKind.free)=false:=by simpa using hk
   simp only[hb,Bool.false_and,Bool.false_eq_true,if_false] at h
   rcases h with h | h
   ·exact absurd h (ok.nocell _ (PySem.mem_of_lookup e))
   ·exact absurd h hk
theorem COk.locals(ok:COk X.env.scope X.N scope N' ms)(h:(relabel scope X.env).names.lookup x=some .local):scope.names.lookup x=some .local:=by
 rw[zeS] at h
 cases e:scope.names.lookup x with
 | none=>rw[e] at h;cases h
 | some k=>
  rw[e] at h
  simp only[Option.map_some,Option.some.injEq] at h
  split at h
  ·cases h
  ·rw[h]
theorem zpz(ok:COk X.env.scope X.N scope N' ms)(I:Inv X pins σ H s3)(hf:∀ b∈fp,FpOk X pins H b/\b<s3.heap.objs.size):
  (zbR X N' scope (zc4 X.env scope.names []) s3.heap.objs.size fp s3 H).Ok where
 mod:=I.ok.mod
 kind:=ok.kind
 glob:=I.ok.glob
 blt:=I.ok.blt
 above:=Nat.le_refl _
 inj:=λx y c h1 h2=>I.ok.inj x y c (zhZ h1) (zhZ h2)
 has:=λx hx=>by
  have q:=ok.kinds hx
  exact zgP _ [] x (ok.cells I.ok) (.inl (PySem.mem_of_lookup q))
 cab:=λx c h=>by cases h
 hd:=I.ok.hd
 frames:=I.ok.frames
 stk:=.inl rfl
 exf:=λb hb=>⟨Nat.ne_of_lt (hf b hb).2,λx c e=>(hf b hb).1.2.2.2.2.1 x c (zhZ e)⟩
 bs:=λb o e=>I.bs b o e
 bsz:=Nat.le_trans I.ok.bsz I.sz
 noex:=λb o e hb=>by
  rcases (hf b hb).1.2.2.2.1 with z | z
  ·exact I.ok.noex b o e z
  ·exact absurd (Nat.lt_of_lt_of_le (Nat.lt_of_lt_of_le (Heap.lt_size e) I.ok.bsz) z) (Nat.lt_irrefl _)
 exfs:=λb hb z=>by
  rcases List.mem_cons.mp (I.stkSub b z) with e | e
  ·exact (hf b hb).1.2.1 e
  ·exact (hf b hb).1.2.2.1 e
 funs:=I.stack
 frf:=I.stkFree
theorem zk1{s5:Shared}{m:Str->Option Value}(ok:COk X.env.scope X.N scope N' ms)(I:Inv X pins σ H s5)(hk:∀ b o,s5.heap.get? b=some o->h'.get? b=some o):
  ∀ (i:Nat) (x:Str) (v:V),N'[i]?=some x->(zdI ms σ)[i]?=some (some v)->Vis (relabel scope X.env) x->∃ u,RelV v u/\Look (compEnvC scope (zc4 X.env scope.names []) C X.env) h' m x u:=by
 intro i x v e1 e2 e3
 obtain⟨em,ev⟩:=zgO e2
 rcases e3 with e3 | e3
 ·exact absurd (ok.locals e3) (ok.own i x e1 em)
 ·have q:=ok.kinds e3
  have en:=ok.out i x e1 em q
  have fr:=ok.fr _ (PySem.mem_of_lookup q) rfl
  obtain⟨m0,_,hl⟩:=I.loc
  obtain⟨u,r,l⟩:=hl i x v en ev (.inr fr)
  refine⟨u,r,?_⟩
  rcases l with ⟨k,_⟩ | ⟨k,c,e,o,ho,hd⟩
  ·have k':X.env.scope.names.lookup x=some .local:=k
   rcases fr with fr | fr
   ·have fr':X.env.scope.names.lookup x=some .cell:=fr
    rw[fr'] at k';cases k'
   ·have fr':X.env.scope.names.lookup x=some .free:=fr
    rw[fr'] at k';cases k'
  ·obtain⟨c',hc'⟩:=zgP _ [] x (ok.cells I.ok) (.inl (PySem.mem_of_lookup q))
   have z:=zhZ hc'
   rw[e] at z;cases z
   exact .inr ⟨e3,c,hc',o,hk c o ho,hd⟩
theorem zlE{h4:Heap}{tk:Nat}{m:Str->Option Value}(ok:COk X.env.scope X.N scope N' ms)(I:Inv X pins σ H s3)(hf:∀ b∈fp,FpOk X pins H b/\b<s3.heap.objs.size)(hn:h4.Ns s3.heap.objs.size m)(hk:∀ b o,s3.heap.get? b=some o->h4.get? b=some o):
  Inv (zbR X N' scope (zc4 X.env scope.names []) s3.heap.objs.size fp s3 H) [] (zdI ms σ) H {s3 with heap:=h4,toks:=tk} where
 ok:=zpz ok I hf
 os:=rfl
 bare:=I.bare
 base:=Un.kept hk
 loc:=⟨m,hn,zk1 ok I hk⟩
 cell:=λx c e=>by
  obtain⟨v,o,ho,hd⟩:=I.cell x c (zhZ e)
  exact⟨v,o,hk c o ho,hd⟩
 free:=I.hok.fresh (Nat.le_refl _)
 freeC:=λx c e=>I.freeC x c (zhZ e)
 pin:=λp hp=>absurd (show p∈([]:List (Addr × Obj)) from hp) (by simp)
 hok:=I.hok.kept hk
 len:=by rw[zdo,ok.len];rfl
theorem zjb{cl:List (Str × Addr)}(I:Inv X pins σ H s3)(hf:∀ b∈fp,FpOk X pins H b/\b<s3.heap.objs.size)(J:Inv (zbR X N' scope cl C fp s3 H) pins' σ' H' s'):Inv X pins σ H' s':=
 I.call' J.os J.base J.hok J.bare λb hb=>by
  obtain⟨_,f1,_,f3,f4,f5⟩:=(hf b hb).1
  exact⟨f3,f1,f4,f5⟩
theorem zlF(ok:COk X.env.scope X.N scope N' ms)(I:Inv X pins σ H s3)(hf:∀ b∈fp,FpOk X pins H b/\b<s3.heap.objs.size)(J:Inv (zbR X N' scope (zc4 X.env scope.names []) s3.heap.objs.size fp s3 H) pins' σ' H' s'):Inv (zbR X N' scope (zc4 X.env scope.names []) s3.heap.objs.size fp s3 H) [] (zdI ms σ) H' s' where
 ok:=J.ok
 os:=J.os
 bare:=J.bare
 base:=J.base
 loc:=by
  obtain⟨m,hn,_⟩:=J.loc
  exact⟨m,hn,zk1 ok (zjb I hf J) λ_ _ e=>e⟩
 cell:=J.cell
 free:=J.free
 freeC:=J.freeC
 pin:=λp hp=>absurd (show p∈([]:List (Addr × Obj)) from hp) (by simp)
 hok:=J.hok
 len:=by rw[zdo,ok.len];rfl
end

def PIfs (X:Cx)(ifs:List Expr)(t:TT):Prop:=
 ∀ (pins:List (Addr × Obj)) (s:Shared) (σ:St) (H:Hp) (Q:Bool->Hp->Prop),Inv X pins σ H s->t σ H Q->
  wpAny (model X.prog X.w) X.A (forIn ifs true λc r=>if r=true then do let ok <-isTrue c X.env (eval c X.env);pure (ForInStep.yield ok) else pure (ForInStep.yield r)) (TP X pins σ Q) X.xe s
def zpA:TT:=λ_ H Q=>Q true H
theorem zaP: PIfs X [] zpA:=λ_ _ _ H _ I h=>wpAny_tests_nil ⟨H,I,h⟩
theorem znY{c:Expr}{t:TT}(h:PT X c t):PIfs X [c] t:=λpins s σ H Q I q=>wpAny_tests_one (h pins s σ H Q I q)
variable {A:Around}{s:Shared}
theorem zmM{prog:Program}{R:Result->Shared->Prop}{elt target iter:Expr}{ifs:List Expr}{it acc:Value}(I:Nat->Shared->Prop)(turn:∀ n s (E:Value->Shared->Prop),I n s->wpAny (model prog w) A (pyNext it) (λr s1=>match r with
   | none=>R (.ok .next) s1
   | some v=>wpAny (model prog w) A (letOwnedTupleGo target it v) (λ_ s2=>wpAny (model prog w) A (assign target env v) (λ_ s3=>
     wpAny (model prog w) A (forIn ifs true λc r=>if r=true then do let ok <-isTrue c env (eval c env);pure (ForInStep.yield ok) else pure (ForInStep.yield r)) (λok s4=>
      if ok=true then wpAny (model prog w) A (eval elt env) (λx s5=>wpAny (model prog w) A (call (.builtin "list.append") [acc,x]) (λ_ s6=>∃ m,m<n/\I m s6) E s5) E s4
      else ∃ m,m<n/\I m s4) E s3) E s2) E s1) E s)(n:Nat)(h:I n s):codeAny (model prog w) A (.compLoop (.ListComp elt [⟨target,iter,ifs,0⟩] scope pos) 0 it acc env) R s:=by
 refine codeAny_loop rfl I (λn s hI=>?_) n h
 refine wpAny_noted (env:=env) ?_
 rw[compTurn_list]
 refine wpAny_bind (wpAny_standAt (wpAny_bind ?_))
 refine wpAny_mono (turn n s _ hI) (λr s1 h1=>?_) λ_ _ e=>e
 cases r with
 | none=>exact wpAny_pure h1
 | some v=>
  refine wpAny_bind (wpAny_mono h1 (λ_ s2 h2=>?_) λ_ _ e=>e)
  refine wpAny_bind (wpAny_mono h2 (λ_ s3 h3=>?_) λ_ _ e=>e)
  refine wpAny_bind (wpAny_mono h3 (λok s4 h4=>?_) λ_ _ e=>e)
  cases ok with
  | false=>exact wpAny_pure ⟨rfl,h4⟩
  | true=>
   refine wpAny_bind (wpAny_bind (wpAny_mono h4 (λx s5 h5=>?_) λ_ _ e=>e))
   exact wpAny_bind (wpAny_mono h5 (λ_ s6 h6=>wpAny_pure (wpAny_pure ⟨rfl,h6⟩)) λ_ _ e=>e)
def znZ (ms:List Bool)(wi:TI)(g:TG)(tt:TT)(te:TE):TE:=λσ H Q=>wi σ H λJ H1=>∀ D,H1 D=none->
 ∃ W:Nat->Nat->List V->Hp->Prop,(∃ m,W 0 m [] (upd H1 D (.lst [])))/\∀ i m ys H,W i m ys H->H D=some (.lst ys)/\
  ((J.stop i H/\Q (.ref D) H)\/(J.go i H/\ys.length<sizeLine/\∃ N:List V->Hp->Prop,(∀ ys' H',N ys' H'->∃ m',m'<m/\W (i+1) m' ys' H')/\
   ∀ x H',J.yld i H x H'->g x (zdI ms σ) H' λσ2 H2=>tt σ2 H2 λb H3=>if b=true then te σ2 H3 λy H4=>H4 D=some (.lst ys)/\N (ys++[y]) (upd H4 D (.lst (ys++[y]))) else N ys H3))
variable {pins:List (Addr × Obj)}{σ:St}{Q:VK}
section
variable {X:Cx}{tg iter elt:Expr}{ifs:List Expr}{scope:Scope}{pos:Pos}{N':List Str}{ms:List Bool}{wi:TI}{g:TG}{tt:TT}{te:TE}

set_option maxHeartbeats 4000000 in
theorem zjc{RR:Value->Addr->Result->Shared->Prop}(hc:X.calm=true)(ok:COk X.env.scope X.N scope N' ms)(hi:PI X tg iter wi)(hg:∀ cl C fp s3 H3,PG (zbR X N' scope cl C fp s3 H3) tg g)(ht:∀ cl C fp s3 H3,PIfs (zbR X N' scope cl C fp s3 H3) ifs tt)(he:∀ cl C fp s3 H3,PE (zbR X N' scope cl C fp s3 H3) elt te)(I:Inv X pins σ H s)(h:znZ ms wi g tt te σ H Q)(hRR:∀ D C H' s' m,s'.heap.Ns C m->Inv X pins σ H' s'->FpOk X pins H' C->Q (.ref D) H'->RR (.ref D) C (.ok .next) s'):
  wpAny (model X.prog X.w) X.A (eval iter X.env) (λx s1=>wpAny (model X.prog X.w) X.A (pyIter x) (λit s2=>wpAny (model X.prog X.w) X.A (newList []) (λacc s3=>
   wpAny (model X.prog X.w) X.A (newFunctionEnv scope X.env.globals (zc4 X.env scope.names []) [] X.env.qual none .none (some X.env)) (λcenv s4=>
    codeAny (model X.prog X.w) X.A (.compStart (.ListComp elt [⟨tg,iter,ifs,0⟩] scope pos) 0 it acc {cenv with scope:=relabel scope X.env}) (RR acc cenv.locals) s4) X.xe s3) X.xe s2) X.xe s1) X.xe s:=by
 refine thn (hi pins s σ H _ I h) λv s1 h1=>thn h1 λitv s2 h2=>?_
 obtain⟨it,fp,tn,J,H2,e,I2,T,st2,f2,h2⟩:=h2
 subst e
 obtain⟨W,⟨m0,w0⟩,turn⟩:=h2 s2.heap.objs.size I2.fresh
 refine wpAny_newObj_type ?_
 have I3:=I2.lnew (ys:=[]) (its:=[]) (t':=s2.toks) .nil (Nat.zero_le _)
 generalize hs3:({s2 with heap:=s2.heap.push {cls:=.type "list",data:=.seq ([]:List Value).toArray},toks:=s2.toks} : Shared)=s3 at I3
 refine wpAny_newFunctionEnv ok.nocell (by intro y hy;simp at hy) (λh4 hn4 hs4=>?_) ok.kind
 have sz:s3.heap.objs.size=s2.heap.objs.size+1:=by rw[<-hs3];exact Heap.size_push ..
 have old2:∀ b o,s2.heap.get? b=some o->s3.heap.get? b=some o:=λb o e=>by rw[<-hs3];exact Heap.get?_push_of_some _ e
 have old:∀ b o,s3.heap.get? b=some o->h4.get? b=some o:=λb o e=>hs4.extBut b o (Nat.ne_of_lt (Heap.lt_size e)) (Heap.get?_push_of_some _ e)
 have fp2:∀ b∈fp,b<s2.heap.objs.size:=λb hb=>by
  obtain⟨o,ho,_⟩:=T.obj 0 _ st2 b hb
  exact Heap.lt_size ho
 have nD:∀ b∈fp,b≠s2.heap.objs.size:=λb hb=>Nat.ne_of_lt (fp2 b hb)
 have f3:∀ b∈fp,FpOk X pins (upd H2 s2.heap.objs.size (.lst [])) b/\b<s3.heap.objs.size:=λb hb=>by
  refine⟨⟨?_,(f2 b hb).2⟩,by rw[sz];exact Nat.lt_succ_of_lt (fp2 b hb)⟩
  rw[zai (nD b hb)];exact (f2 b hb).1
 have J4:Inv (zbR X N' scope (zc4 X.env scope.names []) s3.heap.objs.size fp s3 (upd H2 s2.heap.objs.size (.lst []))) [] (zdI ms σ) (upd H2 s2.heap.objs.size (.lst [])) {s3 with heap:=h4,toks:=s3.toks+0}:=
  zlE ok I3 f3 hn4 old
 have stat:∀ {H':Hp},(∀ b∈fp,H' b=none)->∀ b∈fp,FpOk (zbR X N' scope (zc4 X.env scope.names []) s3.heap.objs.size fp s3 (upd H2 s2.heap.objs.size (.lst []))) [] H' b:=λhn b hb=>
  ⟨hn b hb,(J4.ok.exf b hb).1,J4.ok.exfs b hb,.inl hb,(J4.ok.exf b hb).2,λp hp=>absurd (show p∈([]:List (Addr × Obj)) from hp) (by simp)⟩
 have loop:codeAny (model X.prog X.w) X.A (.compLoop (.ListComp elt [⟨tg,iter,ifs,0⟩] scope pos) 0 (.ref it) (.ref s2.heap.objs.size) (compEnvC scope (zc4 X.env scope.names []) s3.heap.objs.size X.env))
   (RR (.ref s2.heap.objs.size) s3.heap.objs.size) {s3 with heap:=h4,toks:=s3.toks+0}:=by
  refine zmM (λn s'=>∃ i H' ys,Inv (zbR X N' scope (zc4 X.env scope.names []) s3.heap.objs.size fp s3 (upd H2 s2.heap.objs.size (.lst []))) [] (zdI ms σ) H' s'/\tn i s'.heap/\(∀ b∈fp,H' b=none)/\W i n ys H') ?_ m0
   ⟨0,_,[],J4,T.keep 0 _ _ st2 λb hb o e=>old b o (old2 b o e),λb hb=>(f3 b hb).1.1,w0⟩
  rintro n s5 E ⟨i,H5,ys,J5,st5,fr5,w5⟩
  obtain⟨hD,alt⟩:=turn i n ys H5 w5
  rcases alt with ⟨stop,q⟩ | ⟨go,hz,N,hN,step⟩
  ·refine thn (T.done (zbR X N' scope (zc4 X.env scope.names []) s3.heap.objs.size fp s3 (upd H2 s2.heap.objs.size (.lst []))) rfl rfl rfl hc i [] s5 _ H5 E J5 (stat fr5) st5 stop) λr s6 ⟨hr,J6⟩=>?_
   subst hr
   obtain⟨m,hn,_⟩:=id J6.loc
   have I6:=zjb I3 f3 J6
   refine hRR _ _ H5 s6 m hn I6 ?_ q
   have hC:H5 s3.heap.objs.size=none:=J6.free
   obtain⟨g0,g1,g2,g3,g4,g5⟩:=I3.fpOk (b:=s3.heap.objs.size) (H':=H5) (Nat.le_refl _) hC
   exact⟨g0,g1,g2,g3,g4,g5⟩
  ·refine thn (T.item (zbR X N' scope (zc4 X.env scope.names []) s3.heap.objs.size fp s3 (upd H2 s2.heap.objs.size (.lst []))) rfl rfl rfl hc i [] s5 _ H5 E J5 (stat fr5) st5 go) λr s6 ⟨u,hr,h6⟩=>?_
   subst hr
   refine thn h6 λ_ s7 ⟨x,H7,J7,r7,y7,st7,fr7⟩=>?_
   have J7':=J7.pinned (stat fr7) (T.obj _ _ st7)
   have again:∀ {σ8:St}{H8:Hp}{s8:Shared}{zs:List V},Inv (zbR X N' scope (zc4 X.env scope.names []) s3.heap.objs.size fp s3 (upd H2 s2.heap.objs.size (.lst []))) ([]++ziY fp s7.heap) σ8 H8 s8->N zs H8->
     ∃ m,m<n/\∃ i H' ys,Inv (zbR X N' scope (zc4 X.env scope.names []) s3.heap.objs.size fp s3 (upd H2 s2.heap.objs.size (.lst []))) [] (zdI ms σ) H' s8/\tn i s8.heap/\(∀ b∈fp,H' b=none)/\W i m ys H':=λ{σ8 H8 s8 zs} J8 n8=>by
    obtain⟨m',hm,w8⟩:=hN zs H8 n8
    refine⟨m',hm,i+1,H8,zs,zlF ok I3 f3 J8,T.keep _ _ _ st7 λb hb o e=>(J8.pin (b,o) (List.mem_append_right _ (List.mem_append_right _ (zeI hb e)))).1,λb hb=>?_,w8⟩
    obtain⟨o,e,d⟩:=T.obj _ _ st7 b hb
    exact (J8.pin (b,o) (List.mem_append_right _ (List.mem_append_right _ (zeI hb e)))).2.1
   refine wpAny_mono (hg _ _ _ _ _ _ s7 _ H7 x u _ J7' r7 (step x H7 y7)) (λ_ s8 ⟨σ8,H8,J8,q8⟩=>?_) λ_ _ z=>False.elim z
   refine wpAny_mono (ht _ _ _ _ _ _ s8 σ8 H8 _ J8 q8) (λb s9 ⟨H9,J9,q9⟩=>?_) λ_ _ z=>False.elim z
   cases b with
   | false=>exact again J9 q9
   | true=>
    refine wpAny_mono (he _ _ _ _ _ _ s9 σ8 H9 _ J9 q9) (λv s10 ⟨y,H10,J10,r10,hD10,q10⟩=>?_) λ_ _ z=>False.elim z
    refine wpAny_mono (zi7 (X:=(zbR X N' scope (zc4 X.env scope.names []) s3.heap.objs.size fp s3 (upd H2 s2.heap.objs.size (.lst [])))) _ s10 σ8 H10 (.ref s2.heap.objs.size) [y] (.ref s2.heap.objs.size) [v] (λ_ H'=>H'=upd H10 s2.heap.objs.size (.lst (ys++[y]))) J10 rfl (.cons r10 .nil) ⟨_,ys,y,rfl,rfl,hD10,hz,rfl⟩)
     (λ_ s11 ⟨_,H11,J11,_,e11⟩=>?_) λ_ _ z=>False.elim z
    subst e11
    exact again J11 q10
 exact codeAny_compStart_list loop (T.self _ 0 _ _ _ (T.keep 0 _ _ st2 λb hb o e=>old b o (old2 b o e)) loop)
theorem zba (hc:X.calm=true)(ok:COk X.env.scope X.N scope N' ms)(hi:PI X tg iter wi)
  (hg:∀ cl C fp s3 H3,PG (zbR X N' scope cl C fp s3 H3) tg g) (ht:∀ cl C fp s3 H3,PIfs (zbR X N' scope cl C fp s3 H3) ifs tt) (he:∀ cl C fp s3 H3,PE (zbR X N' scope cl C fp s3 H3) elt te)
  (hs:∀ x,foldedSetIterable iter X.env x=pure x:=by intro _;rfl):PE X (.ListComp elt [⟨tg,iter,ifs,0⟩] scope pos) (znZ ms wi g tt te):=by
 intro pins s σ H Q I h
 rw[eval_ListComp]
 refine wpAny_comprehension_free (use:=none) rfl hs (zmL (ok.cells I.ok)) ok.kind ok.nm ?_
 refine zjc (RR:=λacc C=>compPost (model X.prog X.w) X.A X.xe none (EP X pins σ Q) acc C) hc ok hi hg ht he I h λD C H' s' m hn I' ⟨g0,g1,g2,g3,g4,g5⟩ q=>?_
 refine⟨m,hn,λh' sb=>⟨.ref D,H',?_,rfl,q⟩⟩
 exact I'.turned (t':=s'.toks) (λb o hb e=>sb.extBut b o hb e) g0 g1 g3 g4 g5
theorem zh0{y:Str}{py spos:Pos}(hN:X.N.Nodup)(hy:X.N[i]?=some y)(hl:X.env.scope.names.lookup y=some .local)(hc:X.calm=true)(ok:COk X.env.scope X.N scope N' ms)(hi:PI X tg iter wi)(hg:∀ cl C fp s3 H3,PG (zbR X N' scope cl C fp s3 H3) tg g)(ht:∀ cl C fp s3 H3,PIfs (zbR X N' scope cl C fp s3 H3) ifs tt)(he:∀ cl C fp s3 H3,PE (zbR X N' scope cl C fp s3 H3) elt te)(hsw:swapsWith (.ListComp elt [⟨tg,iter,ifs,0⟩] scope pos) (some (.Name y py)) spos.line X.env=pure true:=by rfl)(hs:∀ x,foldedSetIterable iter X.env x=pure x:=by intro _;rfl):PS X (.Assign [.Name y py] (.ListComp elt [⟨tg,iter,ifs,0⟩] scope pos) spos) (tAsg (znZ ms wi g tt te) (znH i)):=by
 intro pins s σ H D I h
 rw[exec_Assign_Name_used _ _ _ _ hsw]
 refine wpAny_bind (wpAny_standAt (wpAny_bind ?_))
 show wpAny _ _ (do let _ <-comprehension (.ListComp elt [⟨tg,iter,ifs,0⟩] scope pos) scope X.env _ (newList []) false (eval iter X.env) (some (assign (.Name y py) X.env))) _ _ s
 refine wpAny_bind (wpAny_mono (wpAny_comprehension_free (use:=some (assign (.Name y py) X.env)) (Q:=λ_ s'=>SP X pins D .next s') rfl hs (zmL (ok.cells I.ok)) ok.kind ok.nm ?_) (λ_ s' q=>wpAny_pure (wpAny_pure q)) λ_ _ e=>e)
 refine zjc (RR:=λacc C=>compPost (model X.prog X.w) X.A X.xe (some (assign (.Name y py) X.env)) (λ_ s'=>SP X pins D .next s') acc C) hc ok hi hg ht he I h λDa C H' s' m hn I' ⟨g0,g1,g2,g3,g4,g5⟩ q=>?_
 show wpAny _ _ (assign (.Name y py) X.env (.ref Da)) _ _ s'
 refine wpAny_assign_Name (ziW I' hN hy (.inl hl) (show RelV (.ref Da) (.ref Da) from rfl) (λs'' I'' ⟨a,sa,ha⟩=>?_) (.inr hl))
 have hCa:C≠a:=by
  rcases ha with e | e
  ·rw[e];exact g1
  ·exact λz=>g4 y a e z.symm
 refine⟨m,hn.sameBut sa hCa,λh' sb=>⟨σ.set i (some (.ref Da)),H',?_,q⟩⟩
 exact I''.turned (t':=s''.toks) (λb o hb e=>sb.extBut b o hb e) g0 g1 g3 g4 g5
end

section
variable {X:Cx}{pins:List (Addr × Obj)}{σ:St}{H:Hp}{s:Shared}{h':Heap}{t':Nat}
theorem Inv.turnedN {ch:List Addr}(I:Inv X pins σ H s)(hch:∀ b∈ch,FpOk X pins H b)(k:∀ b o,b∉ch->s.heap.get? b=some o->h'.get? b=some o):Inv X pins σ H {s with heap:=h',toks:=t'}:=by
 have nit:∀ b u,H b=some u->b∉ch:=λb u e z=>by rw[(hch b z).1] at e;cases e
 refine I.step (g':=s.gens) (d':=s.drawn) (ch:=ch) (λb hb=>?_) (λb o _ _ hc e _=>k b o hc e) (λb o _ _ hc e _=>⟨o.slots,k b o hc e⟩) (λ_ _ _ _ n=>n) (λb o hc e=>⟨o,k b o hc e⟩) (λ_ _ e=>e) (λ_ _ _ e=>e)
  (λb ps e=>⟨#[],by rw[e];simp⟩) (λm hm=>?_) (λb u e=>?_) I.bare
 ·obtain⟨_,f1,_,f3,f4,f5⟩:=hch b hb
  exact⟨f3,f1,f4,f5⟩
 ·obtain⟨o,es,ep,ho,r⟩:=hm
  exact⟨o,es,ep,k _ o (λz=>(hch _ z).2.1 rfl) ho,r⟩
 ·refine (I.hok b u e).stay (λc v hc q=>k c v ?_ q) (λ_ q=>q) λ_ _ q=>q
  rcases hc with z | z
  ·rw[z];exact nit b u e
  ·exact nit c _ z
end

variable {b:Addr}
theorem zlG{h:Heap}{o u:Obj}(e1:h.get? a=some o)(e2:h.get? b=some u)(d:o.cls≠u.cls):a≠b:=λz=>by
 subst z;rw[e1] at e2;cases e2;exact d rfl
variable {T:String}
theorem zel{h:Heap}{its:Array Value}{u:Obj}(e1:h.IsList a its)(e2:h.get? b=some u)(c:u.cls=.type T)(d:T≠ "list"):a≠b:=by
 obtain⟨o,ho,hc,_⟩:=e1
 refine zlG ho e2 ?_
 rw[hc,c]
 intro z
 injection z with z
 exact d z.symm
def Itz (K:Fg)(a b:Addr):It:=
  ⟨λi H=>∃ xs ys x y,SqL K H a xs/\SqL K H b ys/\xs[i]?=some x/\ys[i]?=some y,
   λi H v H'=>∃ T,H T=none/\v=.ref T/\∀ xs ys x y,SqL K H a xs->SqL K H b ys->xs[i]?=some x->ys[i]?=some y->H'=upd H T (.tup [x,y]),
   λi H=>∃ xs ys,SqL K H a xs/\SqL K H b ys/\(xs[i]?=none\/ys[i]?=none)⟩
structure Zap (z TI TO i1 i2:Addr):Prop where
 a1:TI≠z
 a2:TO≠z
 a3:i1≠z
 a4:i2≠z
 a5:TI≠TO
 a6:TI≠i1
 a7:TI≠i2
 a8:TO≠i1
 a9:TO≠i2
 a10:i1≠i2
theorem zpB (n:Nat):Zap (n+4) (n+2) (n+3) n (n+1):=by constructor <;> (show (_:Nat)≠_;omega)
def zq2 (z TI TO i1 i2 a b:Addr)(i:Nat)(h:Heap):Prop:=IsZip h z TI TO .none/\IsPair h TI (.ref i1) (.ref i2)/\(∃ p q,IsPair h TO p q)/\h.IsListIter i1 a i/\h.IsListIter i2 b i
variable {z i1 i2:Addr}
theorem zoW{h:Heap}{TI TO:Addr}{xs ys:Array Value}(D:Zap z TI TO i1 i2)(t:zq2 z TI TO i1 i2 a b i h)(hx:h.IsList a xs)(hy:h.IsList b ys):ZipApart z TI TO i1 i2 a b:=by
 obtain⟨hz,hI,⟨p,q,hO⟩,⟨o1,e1,c1,_⟩,⟨o2,e2,c2,_⟩⟩:=t
 exact⟨D.a1,D.a2,D.a3,D.a4,D.a5,D.a6,D.a7,D.a8,D.a9,D.a10,zel hx hz rfl (by decide),zel hx hO rfl (by decide),zel hx e1 c1 (by decide),zel hx e2 c2 (by decide),zel hy hz rfl (by decide),zel hy hO rfl (by decide),zel hy e1 c1 (by decide),zel hy e2 c2 (by decide)⟩
variable {elts:List Expr}{kx:Nat}{tpos:Pos}
theorem zn0{TI TO:Addr}(a b:Addr)(D:Zap z TI TO i1 i2):
  Turn P w K (.Tuple elts kx tpos) (Itz K a b) [z,TI,TO,i1,i2] z (zq2 z TI TO i1 i2 a b) where
 mem:=by simp
 obj:=λi h st c hb=>by
  obtain⟨hz,hI,⟨p,q,hO⟩,⟨o1,e1,c1,d1⟩,⟨o2,e2,c2,d2⟩⟩:=st
  simp only[List.mem_cons,List.not_mem_nil,or_false] at hb
  rcases hb with rfl | rfl | rfl | rfl | rfl
  ·exact⟨_,hz,λv x=>by cases x⟩
  ·exact⟨_,hI,λv x=>by cases x⟩
  ·exact⟨_,hO,λv x=>by cases x⟩
  ·exact⟨_,e1,λv x=>by rw[d1] at x;cases x⟩
  ·exact⟨_,e2,λv x=>by rw[d2] at x;cases x⟩
 keep:=λi h h' st k=>by
  obtain⟨hz,hI,⟨p,q,hO⟩,h1,h2⟩:=st
  exact⟨k z (by simp) _ hz,k TI (by simp) _ hI,⟨p,q,k TO (by simp) _ hO⟩,h1.at λo e=>k i1 (by simp) o e,h2.at λo e=>k i2 (by simp) o e⟩
 item:=by
  intro X hP hw hK hc i pins s σ H E I hf st hg
  subst hP hw hK
  obtain⟨xs,ys,x,y,hx,hy,ex,ey⟩:=hg
  obtain⟨its,rx,px,zx⟩:=I.list hx
  obtain⟨jts,ry,py,zy⟩:=I.list hy
  obtain⟨u,eu,ru⟩:=rx.get ex
  obtain⟨v,ev,rv⟩:=ry.get ey
  have Z:=zoW D st px.isList py.isList
  obtain⟨hz,hI,⟨p,q,hO⟩,h1,h2⟩:=id st
  refine wpAny_pyNext_zip_item Z hz hI hO h1 h2 px.isList py.isList (x:=u) (y:=v) (by simpa using eu) (by simpa using ev) λh' z1 o1 l1 l2 t1 sz k1=>?_
  refine⟨_,rfl,wpAny_letOwnedTupleGo_zip (s:={s with heap:=h'}) z1 λh'' z2 sb=>?_⟩
  have nT:H s.heap.objs.size=none:=I.hok.fresh (Nat.le_refl _)
  have IT:Inv X pins σ (upd H s.heap.objs.size (.tup [x,y])) {s with heap:=s.heap.push {cls:=.type "tuple",data:=.seq #[u,v]},toks:=s.toks}:=
   I.laid (λb o e=>Heap.get?_push_of_some _ e) (Nat.le_refl _) (show zbI X.prog X.w _ _ _ (.tup [x,y]) from ⟨by show 2<=sizeLine;decide,[u,v],.cons ru (.cons rv .nil),IsTup.new _ _⟩)
  have nz:z≠s.heap.objs.size:=Nat.ne_of_lt (Heap.lt_size hz)
  have fT:∀ c∈[z,TI,TO,i1,i2],FpOk X pins (upd H s.heap.objs.size (.tup [x,y])) c:=λc hcm=>by
   obtain⟨g0,gr⟩:=hf c hcm
   refine⟨?_,gr⟩
   obtain⟨o,ho,_⟩:∃ o,s.heap.get? c=some o/\True:=by
    simp only[List.mem_cons,List.not_mem_nil,or_false] at hcm
    rcases hcm with rfl | rfl | rfl | rfl | rfl
    ·exact⟨_,hz,trivial⟩
    ·exact⟨_,hI,trivial⟩
    ·exact⟨_,hO,trivial⟩
    ·obtain⟨o,e,_⟩:=h1;exact⟨o,e,trivial⟩
    ·obtain⟨o,e,_⟩:=h2;exact⟨o,e,trivial⟩
   rw[zai (Nat.ne_of_lt (Heap.lt_size ho))]
   exact g0
  have up:∀ c o,c∉[z,TI,TO,i1,i2]->(s.heap.push {cls:=.type "tuple",data:=.seq #[u,v]}).get? c=some o->h''.get? c=some o:=λc o hn e=>by
   simp only[List.mem_cons,List.not_mem_nil,or_false,not_or] at hn
   refine sb.extBut c o hn.1 ?_
   by_cases hcs:c=s.heap.objs.size
   ·subst hcs
    rw[Heap.get?_push_size _ rfl] at e
    cases e
    exact t1
   ·refine k1 c o hn.1 hn.2.2.1 hn.2.2.2.1 hn.2.2.2.2 ?_
    rw[Heap.get?_push_ne _ _ _ hcs] at e
    exact e
  refine⟨.ref s.heap.objs.size,_,IT.turnedN (h':=h'') (t':=s.toks) fT up,rfl,⟨_,nT,rfl,λxs' ys' x' y' q1 q2 q3 q4=>?_⟩,?_,λc hcm=>(fT c hcm).1⟩
  ·rw[I.list_inj q1 hx,ex] at q3
   rw[I.list_inj q2 hy,ey] at q4
   cases q3;cases q4;rfl
  ·refine⟨z2,sb.extBut _ _ D.a1 (k1 _ _ D.a1 D.a5 D.a6 D.a7 hI),⟨_,_,sb.extBut _ _ D.a2 o1⟩,l1.extBut sb.extBut D.a3,l2.extBut sb.extBut D.a4⟩
 done:=by
  intro X hP hw hK hc i pins s σ H E I hf st hg
  subst hP hw hK
  obtain⟨xs,ys,hx,hy,en⟩:=hg
  obtain⟨its,rx,px,zx⟩:=I.list hx
  obtain⟨jts,ry,py,zy⟩:=I.list hy
  have Z:=zoW D st px.isList py.isList
  obtain⟨hz,hI,⟨p,q,hO⟩,h1,h2⟩:=id st
  have en':its.toArray[i]?=none\/jts.toArray[i]?=none:=by
   rcases en with e | e
   ·exact .inl (by simpa using rx.none_of e)
   ·exact .inr (by simpa using ry.none_of e)
  exact wpAny_pyNext_zip_end (I.ok.hd hc) Z hz hI hO h1 h2 px.isList py.isList en' λh' k1=>⟨rfl,I.turnedN (t':=s.toks) hf λc o hn e=>by
   simp only[List.mem_cons,List.not_mem_nil,or_false,not_or] at hn
   exact k1 c o hn.1 hn.2.2.1 hn.2.2.2.1 hn.2.2.2.2 e⟩
 self:=λ_ _ _ _ _ st h=>wpAny_pyIter_zip st.1 h
def iZip (K:Fg)(ta:TA):TI:=λσ H R=>ta σ H λvs H1=>∃ a b,vs=[.ref a,.ref b]/\(∃ xs,SqL K H1 a xs)/\(∃ ys,SqL K H1 b ys)/\R (Itz K a b) H1
theorem zn1:bootBuiltins "zip"=some (.type "zip"):=by decide +kernel
theorem zhu:bootBuiltins "enumerate"=some (.type "enumerate"):=by decide +kernel
section
variable {X:Cx}
theorem zq3{a b:Expr}{ta:TA}{p:Pos}(hg:Gl X "zip")(hm:X.mg "zip"=none)(ha:PA X [a,b] ta)(hs:starEach [a,b] X.env=[(false,eval a X.env),(false,eval b X.env)]:=by rfl)(hs2:starEach [b] X.env=[(false,eval b X.env)]:=by rfl):
  PI X (.Tuple elts kx tpos) (.Call (.Name "zip" p) [a,b] [] pos) (iZip X.K ta):=by
 intro pins s σ H R I h
 refine Call_ (zhR I hg hm zn1 (PyProof.Rows.callWith_type1 (thn (ha pos pins s σ H _ I h) λus s1 ⟨vs,H1,I1,r1,q1⟩=>?_) (by rw[hs,hs2]) (by rw[hs2];rfl)))
 obtain⟨l1,l2,e,⟨xs,hx⟩,⟨ys,hy⟩,q⟩:=q1
 subst e
 obtain⟨u,v,e,ru,rv⟩:=r1.two
 subst e
 cases ru;cases rv
 obtain⟨its,rx,px,zx⟩:=I1.list hx
 obtain⟨jts,ry,py,zy⟩:=I1.list hy
 refine call_zip_2 px.isList py.isList λh' z1 p1 p2 i1 i2 sz k=>?_
 refine wpAny_pyIter_zip (s:={s1 with heap:=h'}) z1 ?_
 have I2:Inv X pins σ H1 {s1 with heap:=h',toks:=s1.toks}:=I1.kept k
 have D:=zpB s1.heap.objs.size
 refine⟨_,_,_,_,H1,rfl,I2,zn0 l1 l2 D,⟨z1,p1,⟨_,_,p2⟩,i1,i2⟩,λc hc=>?_,q⟩
 have le:s1.heap.objs.size<=c:=by
  simp only[List.mem_cons,List.not_mem_nil,or_false] at hc
  first
   | (rcases hc with rfl | rfl | rfl | rfl | rfl <;> first | exact Nat.le_refl _ | exact Nat.le_add_right _ _)
   | (rcases hc with rfl | rfl <;> first | exact Nat.le_refl _ | exact Nat.le_add_right _ _)
 exact I1.fpOk le (I1.hok.fresh le)
end

def Itn (K:Fg)(a:Addr):It:=
  ⟨λi H=>∃ xs x,SqL K H a xs/\xs[i]?=some x,
   λi H v H'=>∃ T,H T=none/\v=.ref T/\∀ xs x,SqL K H a xs->xs[i]?=some x->H'=upd H T (.tup [.int i,x]),
   λi H=>∃ xs,SqL K H a xs/\xs.length<=i⟩
def zq4 (e it a:Addr)(i:Nat)(h:Heap):Prop:=(∃ old,IsEnum h e it ((i:Nat):Int) old)/\h.IsListIter it a i
variable {e:Addr}
theorem zmN{it:Addr}(a:Addr)(D:e≠it):
  Turn P w K (.Tuple elts kx tpos) (Itn K a) [e,it] e (zq4 e it a) where
 mem:=by simp
 obj:=λi h st c hb=>by
  obtain⟨⟨old,he⟩,⟨o1,e1,c1,d1⟩⟩:=st
  simp only[List.mem_cons,List.not_mem_nil,or_false] at hb
  rcases hb with rfl | rfl
  ·exact⟨_,he,λv x=>by cases x⟩
  ·exact⟨_,e1,λv x=>by rw[d1] at x;cases x⟩
 keep:=λi h h' st k=>by
  obtain⟨⟨old,he⟩,h1⟩:=st
  exact⟨⟨old,k e (by simp) _ he⟩,h1.at λo e=>k it (by simp) o e⟩
 item:=by
  intro X hP hw hK hc i pins s σ H E I hf st hg
  subst hP hw hK
  obtain⟨xs,x,hx,ex⟩:=hg
  obtain⟨its,rx,px,zx⟩:=I.list hx
  obtain⟨u,eu,ru⟩:=rx.get ex
  obtain⟨⟨old,he⟩,h1⟩:=id st
  refine wpAny_pyNext_enum_item he h1 px.isList (x:=u) (by simpa using eu) D λh' z1 l1 t1 sz k1=>?_
  refine⟨_,rfl,wpAny_letOwnedTupleGo_enum (s:={s with heap:=h',toks:=s.toks+1}) z1 λh'' z2 sb=>?_⟩
  have nT:H s.heap.objs.size=none:=I.hok.fresh (Nat.le_refl _)
  have IT:Inv X pins σ (upd H s.heap.objs.size (.tup [.int i,x])) {s with heap:=s.heap.push {cls:=.type "tuple",data:=.seq #[.int i s.toks,u]},toks:=s.toks}:=
   I.laid (λb o e=>Heap.get?_push_of_some _ e) (Nat.le_refl _) (show zbI X.prog X.w _ _ _ (.tup [.int i,x]) from ⟨by show 2<=sizeLine;decide,[.int i s.toks,u],.cons ⟨_,rfl⟩ (.cons ru .nil),IsTup.new _ _⟩)
  have fT:∀ c∈[e,it],FpOk X pins (upd H s.heap.objs.size (.tup [.int i,x])) c:=λc hcm=>by
   obtain⟨g0,gr⟩:=hf c hcm
   refine⟨?_,gr⟩
   obtain⟨o,ho,_⟩:∃ o,s.heap.get? c=some o/\True:=by
    simp only[List.mem_cons,List.not_mem_nil,or_false] at hcm
    rcases hcm with rfl | rfl
    ·exact⟨_,he,trivial⟩
    ·obtain⟨o,e,_⟩:=h1;exact⟨o,e,trivial⟩
   rw[zai (Nat.ne_of_lt (Heap.lt_size ho))]
   exact g0
  have up:∀ c o,c∉[e,it]->(s.heap.push {cls:=.type "tuple",data:=.seq #[.int i s.toks,u]}).get? c=some o->h''.get? c=some o:=λc o hn e2=>by
   simp only[List.mem_cons,List.not_mem_nil,or_false,not_or] at hn
   refine sb.extBut c o hn.1 ?_
   by_cases hcs:c=s.heap.objs.size
   ·subst hcs
    rw[Heap.get?_push_size _ rfl] at e2
    cases e2
    exact t1
   ·refine k1 c o hn.1 hn.2 ?_
    rw[Heap.get?_push_ne _ _ _ hcs] at e2
    exact e2
  refine⟨.ref s.heap.objs.size,_,IT.turnedN (h':=h'') (t':=s.toks+1) fT up,rfl,⟨_,nT,rfl,λxs' x' q1 q3=>?_⟩,?_,λc hcm=>(fT c hcm).1⟩
  ·rw[I.list_inj q1 hx,ex] at q3
   cases q3;rfl
  ·refine⟨⟨_,by rw[show (((i+1:Nat):Nat):Int)=(i:Int)+1 by omega];exact z2⟩,l1.extBut sb.extBut (Ne.symm D)⟩
 done:=by
  intro X hP hw hK hc i pins s σ H E I hf st hg
  subst hP hw hK
  obtain⟨xs,hx,en⟩:=hg
  obtain⟨its,rx,px,zx⟩:=I.list hx
  obtain⟨⟨old,he⟩,h1⟩:=id st
  have hl:=rx.length
  exact wpAny_pyNext_enum_end (I.ok.hd hc) he h1 px.isList (by simp;omega) λh' k1=>⟨rfl,I.turnedN (t':=s.toks) hf λc o hn e2=>by
   simp only[List.mem_cons,List.not_mem_nil,or_false,not_or] at hn
   exact k1 c o hn.2 e2⟩
 self:=λ_ _ _ _ _ st h=>by
  obtain⟨⟨old,he⟩,_⟩:=st
  exact wpAny_pyIter_enum he h
def zpC (K:Fg)(ta:TA):TI:=λσ H R=>ta σ H λvs H1=>∃ a xs,vs=[.ref a]/\H1 a=some (.lst xs)/\R (Itn K a) H1
section
variable {X:Cx}
theorem zpD{a:Expr}{ta:TA}{p:Pos}(hg:Gl X "enumerate")(hm:X.mg "enumerate"=none)(ha:PA X [a] ta)(hs:starEach [a] X.env=[(false,eval a X.env)]:=by rfl):
  PI X (.Tuple elts kx tpos) (.Call (.Name "enumerate" p) [a] [] pos) (zpC X.K ta):=by
 intro pins s σ H R I h
 refine Call_ (zhR I hg hm zhu (PyProof.Rows.callWith_type1 (thn (ha pos pins s σ H _ I h) λus s1 ⟨vs,H1,I1,r1,q1⟩=>?_) hs rfl))
 obtain⟨l1,xs,e,hx,q⟩:=q1
 subst e
 obtain⟨u,e,ru⟩:=zik r1
 subst e
 cases ru
 obtain⟨z,its,n,r,hl,e⟩:=I1.lstM hx
 refine call_enumerate_1 e λh' z1 i1 sz k=>?_
 refine wpAny_pyIter_enum (s:={s1 with heap:=h'}) z1 ?_
 have I2:Inv X pins σ H1 {s1 with heap:=h',toks:=s1.toks}:=I1.kept k
 refine⟨_,_,_,_,H1,rfl,I2,zmN l1 (e:=s1.heap.objs.size+1) (it:=s1.heap.objs.size) (Nat.succ_ne_self _),⟨⟨_,z1⟩,i1⟩,λc hc=>?_,q⟩
 have le:s1.heap.objs.size<=c:=by
  simp only[List.mem_cons,List.not_mem_nil,or_false] at hc
  first
   | (rcases hc with rfl | rfl | rfl | rfl | rfl <;> first | exact Nat.le_refl _ | exact Nat.le_add_right _ _)
   | (rcases hc with rfl | rfl <;> first | exact Nat.le_refl _ | exact Nat.le_add_right _ _)
 exact I1.fpOk le (I1.hok.fresh le)
end

section
variable {X:Cx}
theorem zjd{bs:List Bool}{its:List Value}(r:Vals (bs.map V.bl) its){v:Value}(e:its[i]?=some v):∃ b,bs[i]?=some b/\v=.bool b:=by
 have hl:=r.length
 rw[zlm] at hl
 have hi:i<bs.length:=by
  have:=(zge.mp e).1
  omega
 obtain⟨u,hu,ru⟩:=r.get (i:=i) (x:=V.bl bs[i]) (by simp[hi])
 rw[e] at hu;cases hu
 exact⟨bs[i],by simp[hi],ru⟩
theorem zmO{bs:List Bool}(h:n=bs.length):(List.range n).all (λi=>bs[i]?.getD false)=bs.all id:=by
 subst h
 rw[Bool.eq_iff_iff]
 simp only[List.all_eq_true,List.mem_range,id]
 constructor
 ·intro q x hx
  obtain⟨i,hi,rfl⟩:=List.getElem_of_mem hx
  have:=q i hi
  simpa [hi] using this
 ·intro q i hi
  simpa [hi] using q bs[i] (List.getElem_mem hi)
theorem zmP{bs:List Bool}(h:n=bs.length):(List.range n).any (λi=>bs[i]?.getD false)=bs.any id:=by
 subst h
 rw[Bool.eq_iff_iff]
 simp only[List.any_eq_true,List.mem_range,id]
 constructor
 ·rintro⟨i,hi,q⟩
  exact⟨bs[i],List.getElem_mem hi,by simpa [hi] using q⟩
 ·rintro⟨x,hx,q⟩
  obtain⟨i,hi,rfl⟩:=List.getElem_of_mem hx
  exact⟨i,hi,by simpa [hi] using q⟩
theorem zn2 (hc:X.calm=true):zcd X (.builtin "all") (λxs H Q=>∃ (p:Addr) (bs:List Bool),xs=[.ref p]/\SqL X.K H p (bs.map V.bl)/\Q (.bl (bs.all id)) H):=by
 intro pins s σ H xs us Q I r h
 obtain⟨p,bs,rfl,hq,q⟩:=h
 obtain⟨u,rfl,rx⟩:=zik r
 cases rx
 obtain⟨its,rv,pl,hz⟩:=I.list hq
 have hl:=rv.length
 rw[zlm] at hl
 refine call_all_walk (wpAny_pyIter_list pl.isList ?_)
 have hne:p≠s.heap.objs.size:=by
  obtain⟨o,ho,_⟩:=pl.isList
  exact Nat.ne_of_lt (Heap.lt_size ho)
 refine⟨s.heap.objs.size,_,_,_,_,_,λi=>bs[i]?.getD false,rfl,Walks.list (show X.A.in1.handled=none from I.ok.hd hc) s.heap.objs.size p hne its.toArray,⟨⟨_,Heap.get?_push_size _ rfl,rfl,rfl⟩,Heap.IsList.push pl.isList _⟩,λi v s' Q' E' hP hQ=>?_,λh' tk hk=>?_⟩
 ·obtain⟨b,hb,rfl⟩:=zjd rv (i:=i) (v:=v) (by simpa using hP)
  refine wpAny_truthy_bool ?_
  simpa [hb] using hQ
 ·rw[zmO (by rw[zst];exact hl.symm)]
  refine⟨.bl _,H,I.kept λb o e=>hk b o ?_ (Heap.get?_push_of_some _ e),rfl,q⟩
  simp only[List.mem_cons,List.not_mem_nil,or_false]
  exact Nat.ne_of_lt (Heap.lt_size e)
theorem zn3 (hc:X.calm=true):zcd X (.builtin "any") (λxs H Q=>∃ (p:Addr) (bs:List Bool),xs=[.ref p]/\SqL X.K H p (bs.map V.bl)/\Q (.bl (bs.any id)) H):=by
 intro pins s σ H xs us Q I r h
 obtain⟨p,bs,rfl,hq,q⟩:=h
 obtain⟨u,rfl,rx⟩:=zik r
 cases rx
 obtain⟨its,rv,pl,hz⟩:=I.list hq
 have hl:=rv.length
 rw[zlm] at hl
 refine call_any_walk (wpAny_pyIter_list pl.isList ?_)
 have hne:p≠s.heap.objs.size:=by
  obtain⟨o,ho,_⟩:=pl.isList
  exact Nat.ne_of_lt (Heap.lt_size ho)
 refine⟨s.heap.objs.size,_,_,_,_,_,λi=>bs[i]?.getD false,rfl,Walks.list (show X.A.in1.handled=none from I.ok.hd hc) s.heap.objs.size p hne its.toArray,⟨⟨_,Heap.get?_push_size _ rfl,rfl,rfl⟩,Heap.IsList.push pl.isList _⟩,λi v s' Q' E' hP hQ=>?_,λh' tk hk=>?_⟩
 ·obtain⟨b,hb,rfl⟩:=zjd rv (i:=i) (v:=v) (by simpa using hP)
  refine wpAny_truthy_bool ?_
  simpa [hb] using hQ
 ·rw[zmP (by rw[zst];exact hl.symm)]
  refine⟨.bl _,H,I.kept λb o e=>hk b o ?_ (Heap.get?_push_of_some _ e),rfl,q⟩
  simp only[List.mem_cons,List.not_mem_nil,or_false]
  exact Nat.ne_of_lt (Heap.lt_size e)
end
open PySem.SeqAt

inductive D where
 | non | bl (b:Bool) | int (i:Int) | str (x:Str) | lst (xs:List D) | tup (xs:List D)
mutual
def dep:D->Nat
 | .lst xs=>deps xs+1
 | .tup xs=>deps xs+1
 | _=>0
def deps:List D->Nat
 | []=>0
 | d::ds=>max (dep d) (deps ds)
end
mutual
def pyEq:D->D->Bool
 | .non,.non=>true
 | .bl a,.bl b=>a == b
 | .int a,.int b=>a == b
 | .bl a,.int b=>(if a then 1 else 0) == b
 | .int a,.bl b=>a == (if b then 1 else 0)
 | .str a,.str b=>a == b
 | .lst xs,.lst ys=>zb1 xs ys
 | .tup xs,.tup ys=>zb1 xs ys
 | _,_=>false
def zb1:List D->List D->Bool
 | [],[]=>true
 | x::xs,y::ys=>pyEq x y && zb1 xs ys
 | _,_=>false
end
mutual
def Rep (K:Fg)(H:Hp):D->V->Prop
 | .non,v=>v=.non
 | .bl b,v=>v=.bl b
 | .int i,v=>v=.int i
 | .str x,v=>v=.str x
 | .lst ds,v=>∃ a xs,v=.ref a/\SqL K H a xs/\Reps K H ds xs
 | .tup ds,v=>∃ a xs,v=.ref a/\SqT K H a xs/\Reps K H ds xs
def Reps (K:Fg)(H:Hp):List D->List V->Prop
 | [],vs=>vs=[]
 | d::ds,vs=>∃ v r,vs=v::r/\Rep K H d v/\Reps K H ds r
end
theorem zfl:∀ {ds:List D}{d:D},d∈ds->dep d<=deps ds
 | d::ds,e,h=>by
  rcases List.mem_cons.mp h with h | h
  ·subst h;unfold deps;exact Nat.le_max_left _ _
  ·have:=zfl h
   unfold deps
   exact Nat.le_trans this (Nat.le_max_right _ _)
theorem Reps.length: ∀ {ds:List D}{vs:List V},Reps K H ds vs->ds.length=vs.length
 | [],vs,h=>by unfold Reps at h;subst h;rfl
 | d::ds,vs,h=>by
  unfold Reps at h
  obtain⟨v,r,rfl,_,h⟩:=h
  simp[Reps.length h]
theorem Reps.get: ∀ {ds:List D}{vs:List V}{i:Nat}{d:D},Reps K H ds vs->ds[i]?=some d->∃ v,vs[i]?=some v/\Rep K H d v
 | [],vs,i,d,h,e=>by simp at e
 | c::ds,vs,i,d,h,e=>by
  unfold Reps at h
  obtain⟨v,r,rfl,h1,h⟩:=h
  cases i with
  | zero=>simp at e;subst e;exact⟨v,rfl,h1⟩
  | succ i=>
   obtain⟨w,e1,e2⟩:=Reps.get h (show ds[i]?=some d by simpa using e)
   exact⟨w,by simpa using e1,e2⟩
variable {vs:List V}{ds:List D}
theorem Reps.get'(h:Reps K H ds vs)(e:vs[i]?=some v):∃ d,ds[i]?=some d/\Rep K H d v:=by
 have hl:=h.length
 have hi:=(zge.mp e).1
 obtain⟨w,e1,e2⟩:=h.get (i:=i) (d:=ds[i]) (by simp)
 rw[e] at e1;cases e1
 exact⟨ds[i],by simp,e2⟩
theorem Reps.of: ∀ {ds:List D}{vs:List V},ds.length=vs.length->(∀ (i:Nat) d v,ds[i]?=some d->vs[i]?=some v->Rep K H d v)->Reps K H ds vs
 | [],[],_,_=>by unfold Reps;rfl
 | d::ds,v::vs,hl,h=>by
  unfold Reps
  exact⟨v,vs,rfl,h 0 d v rfl rfl,Reps.of (by simpa using hl) λi e w e1 e2=>h (i+1) e w (by simpa using e1) (by simpa using e2)⟩
theorem Reps.ints: ∀ {ns:List Int}{vs:List V},Reps K H (ns.map D.int) vs↔vs=ns.map V.int
 | [],vs=>by unfold List.map Reps;rfl
 | n::ns,vs=>by
  rw[zmc]
  unfold Reps
  constructor
  ·rintro⟨v,r,rfl,h1,h⟩
   unfold Rep at h1
   subst h1
   rw[Reps.ints.mp h];rfl
  ·rintro rfl
   exact⟨_,_,rfl,by unfold Rep;rfl,Reps.ints.mpr rfl⟩
theorem Same.tup(e:Same H H')(h:SqT K H a xs):SqT K H' a xs:=by
 rcases h with (h | ⟨o,h⟩) | h
 ·exact .inl (.inl (e _ _ h))
 ·exact .inl (.inr ⟨o,e _ _ h⟩)
 ·exact .inr h
mutual
theorem Rep.same {K:Fg}{H H':Hp}(e:Same H H'):∀ (d:D) {v:V},Rep K H d v->Rep K H' d v
 | .non,_,h=>by unfold Rep at *;exact h
 | .bl _,_,h=>by unfold Rep at *;exact h
 | .int _,_,h=>by unfold Rep at *;exact h
 | .str _,_,h=>by unfold Rep at *;exact h
 | .lst ds,_,h=>by
  unfold Rep at *
  obtain⟨a,xs,h1,h2,h3⟩:=h
  exact⟨a,xs,h1,e.seq h2,Reps.same e ds h3⟩
 | .tup ds,_,h=>by
  unfold Rep at *
  obtain⟨a,xs,h1,h2,h3⟩:=h
  exact⟨a,xs,h1,e.tup h2,Reps.same e ds h3⟩
theorem Reps.same {K:Fg}{H H':Hp}(e:Same H H'):∀ (ds:List D) {vs:List V},Reps K H ds vs->Reps K H' ds vs
 | [],_,h=>by unfold Reps at *;exact h
 | d::ds,_,h=>by
  unfold Reps at *
  obtain⟨v,r,h1,h2,h3⟩:=h
  exact⟨v,r,h1,Rep.same e d h2,Reps.same e ds h3⟩
end

mutual
theorem zem:∀ d:D,pyEq d d=true
 | .non=>by unfold pyEq;rfl
 | .bl _=>by unfold pyEq;simp
 | .int _=>by unfold pyEq;simp
 | .str _=>by unfold pyEq;simp
 | .lst ds=>by unfold pyEq;exact zfK ds
 | .tup ds=>by unfold pyEq;exact zfK ds
theorem zfK:∀ ds:List D,zb1 ds ds=true
 | []=>by unfold zb1;rfl
 | d::ds=>by unfold zb1;rw[zem d,zfK ds];rfl
end
theorem zen:∀ {xs ys:List D},zb1 xs ys=true->xs.length=ys.length
 | [],[],_=>rfl
 | [],_::_,h=>by unfold zb1 at h;cases h
 | _::_,[],h=>by unfold zb1 at h;cases h
 | x::xs,y::ys,h=>by
  unfold zb1 at h
  rw[Bool.and_eq_true] at h
  simp[zen h.2]
theorem zeo:∀ {xs ys:List D},xs.length=ys.length->(List.range xs.length).all (λj=>pyEq (xs.getD j .non) (ys.getD j .non))=zb1 xs ys
 | [],[],_=>by unfold zb1;rfl
 | x::xs,y::ys,h=>by
  have ih:=zeo (xs:=xs) (ys:=ys) (by simpa using h)
  unfold zb1
  rw[List.length_cons,List.range_succ_eq_map,List.all_cons,List.all_map,<-ih]
  rfl
theorem zfL:∀ {ms ns:List Int},zb1 (ms.map D.int) (ns.map D.int)=decide (ms=ns)
 | [],[]=>by unfold List.map zb1;rfl
 | [],_::_=>by rw[zmc];unfold List.map zb1;simp
 | _::_,[]=>by rw[zmc];unfold List.map zb1;simp
 | m::ms,n::ns=>by
  rw[zmc,zmc]
  unfold zb1 pyEq
  rw[zfL,Bool.eq_iff_iff]
  simp
mutual
theorem Rep.inj {X:Cx}{pins:List (Addr × Obj)}{σ:St}{H:Hp}{s:Shared}(I:Inv X pins σ H s):∀ (d e:D) {v:V},Rep X.K H d v->Rep X.K H e v->d=e
 | .non,e,v,h,q=>by unfold Rep at h;subst h;cases e <;> unfold Rep at q <;> first | rfl | (cases q;done) | (obtain⟨_,_,q,_⟩:=q;cases q)
 | .bl _,e,v,h,q=>by unfold Rep at h;subst h;cases e <;> unfold Rep at q <;> first | (cases q;rfl) | (cases q;done) | (obtain⟨_,_,q,_⟩:=q;cases q)
 | .int _,e,v,h,q=>by unfold Rep at h;subst h;cases e <;> unfold Rep at q <;> first | (cases q;rfl) | (cases q;done) | (obtain⟨_,_,q,_⟩:=q;cases q)
 | .str _,e,v,h,q=>by unfold Rep at h;subst h;cases e <;> unfold Rep at q <;> first | (cases q;rfl) | (cases q;done) | (obtain⟨_,_,q,_⟩:=q;cases q)
 | .lst ds,e,v,h,q=>by
  unfold Rep at h
  obtain⟨a,xs,rfl,h1,h2⟩:=h
  cases e with
  | lst es=>
   unfold Rep at q
   obtain⟨b,ys,e1,q1,q2⟩:=q
   cases e1
   cases I.list_inj h1 q1
   rw[Reps.inj I ds es h2 q2]
  | tup es=>
   unfold Rep at q
   obtain⟨b,ys,e1,q1,q2⟩:=q
   cases e1
   obtain⟨_,_,p1,_⟩:=I.list h1
   obtain⟨_,_,p2,_⟩:=I.tuple q1
   exact absurd rfl (ne_of_list_tuple (s:=s) p1.isList p2)
  | _=>unfold Rep at q;cases q
 | .tup ds,e,v,h,q=>by
  unfold Rep at h
  obtain⟨a,xs,rfl,h1,h2⟩:=h
  cases e with
  | tup es=>
   unfold Rep at q
   obtain⟨b,ys,e1,q1,q2⟩:=q
   cases e1
   cases I.tuple_inj h1 q1
   rw[Reps.inj I ds es h2 q2]
  | lst es=>
   unfold Rep at q
   obtain⟨b,ys,e1,q1,q2⟩:=q
   cases e1
   obtain⟨_,_,p1,_⟩:=I.list q1
   obtain⟨_,_,p2,_⟩:=I.tuple h1
   exact absurd rfl (ne_of_list_tuple (s:=s) p1.isList p2)
  | _=>unfold Rep at q;cases q
theorem Reps.inj {X:Cx}{pins:List (Addr × Obj)}{σ:St}{H:Hp}{s:Shared}(I:Inv X pins σ H s):∀ (ds es:List D) {vs:List V},Reps X.K H ds vs->Reps X.K H es vs->ds=es
 | [],es,vs,h,q=>by
  unfold Reps at h;subst h
  cases es with
  | nil=>rfl
  | cons e es=>unfold Reps at q;obtain⟨_,_,q,_⟩:=q;cases q
 | d::ds,es,vs,h,q=>by
  unfold Reps at h
  obtain⟨v,r,rfl,h1,h2⟩:=h
  cases es with
  | nil=>unfold Reps at q;cases q
  | cons e es=>
   unfold Reps at q
   obtain⟨w,r',e1,q1,q2⟩:=q
   cases e1
   rw[Rep.inj I d e h1 q1,Reps.inj I ds es h2 q2]
end

variable {y:V}{ys:List V}{d:D}
section
variable {X:Cx}{pins:List (Addr × Obj)}{σ:St}{H:Hp}{s:Shared}
variable {x:V}
theorem zir(h:Rep X.K H d x)(f:zeP x=true):(∃ b,d=.bl b/\x=.bl b)\/(∃ i,d=.int i/\x=.int i)\/(∃ z,d=.str z/\x=.str z)\/(d=.non/\x=.non):=by
 cases d with
 | non=>unfold Rep at h;exact .inr (.inr (.inr ⟨rfl,h⟩))
 | bl b=>unfold Rep at h;exact .inl ⟨b,rfl,h⟩
 | int b=>unfold Rep at h;exact .inr (.inl ⟨b,rfl,h⟩)
 | str b=>unfold Rep at h;exact .inr (.inr (.inl ⟨b,rfl,h⟩))
 | lst ds=>unfold Rep at h;obtain⟨a,xs,rfl,_⟩:=h;cases f
 | tup ds=>unfold Rep at h;obtain⟨a,xs,rfl,_⟩:=h;cases f
variable {e:D}
theorem zn4(h:Rep X.K H d x)(q:Rep X.K H e y)(fx:zeP x=true)(fy:zeP y=true):eqV x y=pyEq d e:=by
 rcases zir h fx with ⟨b,rfl,rfl⟩ | ⟨b,rfl,rfl⟩ | ⟨b,rfl,rfl⟩ | ⟨rfl,rfl⟩ <;> rcases zir q fy with ⟨c,rfl,rfl⟩ | ⟨c,rfl,rfl⟩ | ⟨c,rfl,rfl⟩ | ⟨rfl,rfl⟩ <;> unfold pyEq eqV <;> rfl
theorem zgs{es:List D}{us vs:List Value}(hd:Reps X.K H ds xs)(he:Reps X.K H es ys)(ru:Vals xs us)(rv:Vals ys vs)(ih:∀ (d e:D) (x y:V) (u v:Value),d∈ds->Rep X.K H d x->Rep X.K H e y->RelV x u->RelV y v->EqAt A s u v (pyEq d e)):
  ∀ j (h1:j<us.toArray.size) (h2:j<vs.toArray.size),EqAt A s us.toArray[j] vs.toArray[j] (pyEq (ds.getD j .non) (es.getD j .non)):=by
 intro j h1 h2
 simp only[zst] at h1 h2
 have l1:=hd.length
 have l2:=he.length
 have l3:=ru.length
 have l4:=rv.length
 have j1:j<ds.length:=by omega
 have j2:j<es.length:=by omega
 obtain⟨x,ex,rx⟩:=hd.get (i:=j) (d:=ds[j]) (by simp[j1])
 obtain⟨y,ey,ry⟩:=he.get (i:=j) (d:=es[j]) (by simp[j2])
 obtain⟨u,eu,ru'⟩:=ru.get ex
 obtain⟨v,ev,rv'⟩:=rv.get ey
 have e1:us.toArray[j]=u:=by
  obtain⟨_,q⟩:=zge.mp eu
  simpa using q
 have e2:vs.toArray[j]=v:=by
  obtain⟨_,q⟩:=zge.mp ev
  simpa using q
 rw[e1,e2,show ds.getD j .non=ds[j] by simp[List.getD,j1],show es.getD j .non=es[j] by simp[List.getD,j2]]
 exact ih _ _ x y u v (List.getElem_mem j1) rx ry ru' rv'
theorem zoX (I:Inv X pins σ H s):∀ (n:Nat) (d e:D) (A:Around) (x y:V) (u v:Value),dep d<=n->A.units+n<cLine->Rep X.K H d x->Rep X.K H e y->RelV x u->RelV y v->EqAt A s u v (pyEq d e):=by
 intro n
 induction n with
 | zero=>
  intro d e A x y u v hn hu hd he ru rv
  have fx:zeP x=true:=by
   cases d with
   | non=>unfold Rep at hd;subst hd;rfl
   | bl b=>unfold Rep at hd;subst hd;rfl
   | int b=>unfold Rep at hd;subst hd;rfl
   | str b=>unfold Rep at hd;subst hd;rfl
   | lst ds=>unfold dep at hn;omega
   | tup ds=>unfold dep at hn;omega
  by_cases fy:zeP y=true
  ·rw[<-zn4 hd he fx fy]
   exact zoN ru rv fx fy
  ·cases e with
   | non=>unfold Rep at he;subst he;exact absurd rfl fy
   | bl b=>unfold Rep at he;subst he;exact absurd rfl fy
   | int b=>unfold Rep at he;subst he;exact absurd rfl fy
   | str b=>unfold Rep at he;subst he;exact absurd rfl fy
   | lst es=>
    unfold Rep at he
    obtain⟨a,ys,rfl,hq,_⟩:=he
    cases rv
    obtain⟨_,_,p,_⟩:=I.list hq
    rcases zir hd fx with ⟨b,rfl,rfl⟩ | ⟨b,rfl,rfl⟩ | ⟨b,rfl,rfl⟩ | ⟨rfl,rfl⟩
    ·cases ru;unfold pyEq;exact EqAt.bool_list b p.isList (by omega)
    ·obtain⟨t,rfl⟩:=ru;unfold pyEq;exact EqAt.int_list b t p.isList (by omega)
    ·obtain⟨t,rfl⟩:=ru;unfold pyEq;exact EqAt.str_list b t p.isList (by omega)
    ·cases ru;unfold pyEq;exact EqAt.none_list p.isList (by omega)
   | tup es=>
    unfold Rep at he
    obtain⟨a,ys,rfl,hq,_⟩:=he
    cases rv
    obtain⟨_,_,p,_⟩:=I.tuple hq
    rcases zir hd fx with ⟨b,rfl,rfl⟩ | ⟨b,rfl,rfl⟩ | ⟨b,rfl,rfl⟩ | ⟨rfl,rfl⟩
    ·cases ru;unfold pyEq;exact EqAt.bool_tuple b p (by omega)
    ·obtain⟨t,rfl⟩:=ru;unfold pyEq;exact EqAt.int_tuple b t p (by omega)
    ·obtain⟨t,rfl⟩:=ru;unfold pyEq;exact EqAt.str_tuple b t p (by omega)
    ·cases ru;unfold pyEq;exact EqAt.none_tuple p (by omega)
 | succ n ih=>
  intro d e A x y u v hn hu hd he ru rv
  by_cases h0:dep d<=n
  ·exact ih d e A x y u v h0 (by omega) hd he ru rv
  ·cases d with
   | non=>unfold dep at h0;omega
   | bl b=>unfold dep at h0;omega
   | int b=>unfold dep at h0;omega
   | str b=>unfold dep at h0;omega
   | lst ds=>
    unfold dep at hn
    have hd0:=hd
    unfold Rep at hd
    obtain⟨a,xs,rfl,hx,rx⟩:=hd
    cases ru
    obtain⟨its,vx,px,zx⟩:=I.list hx
    cases e with
    | non=>unfold Rep at he;subst he;cases rv;unfold pyEq;exact EqAt.list_none px.isList (by omega)
    | bl b=>unfold Rep at he;subst he;cases rv;unfold pyEq;exact EqAt.list_bool b px.isList (by omega)
    | int b=>unfold Rep at he;subst he;obtain⟨t,rfl⟩:=rv;unfold pyEq;exact EqAt.list_int b t px.isList (by omega)
    | str b=>unfold Rep at he;subst he;obtain⟨t,rfl⟩:=rv;unfold pyEq;exact EqAt.list_str b t px.isList (by omega)
    | tup es=>
     unfold Rep at he
     obtain⟨b,ys,rfl,hy,ry⟩:=he
     cases rv
     obtain⟨jts,vy,py,zy⟩:=I.tuple hy
     unfold pyEq
     exact EqAt.list_tuple px.isList py (by omega)
    | lst es=>
     have he0:=he
     unfold Rep at he
     obtain⟨b,ys,rfl,hy,ry⟩:=he
     cases rv
     obtain⟨jts,vy,py,zy⟩:=I.list hy
     by_cases hab:a=b
     ·subst hab
      rw[Rep.inj I _ _ hd0 he0,zem]
      exact EqAt.same _
     ·refine EqAt.of_refs hab ?_
      unfold pyEq
      have l1:=rx.length
      have l2:=ry.length
      have l3:=vx.length
      have l4:=vy.length
      by_cases hl:ds.length=es.length
      ·have q:=RcAt.lists (A:=A) (e:=λj=>pyEq (ds.getD j .non) (es.getD j .non)) px.isList py.isList (by simp only[zst];omega) (by omega)
        (zgs rx ry vx vy λd e x y u v hm h1 h2 h3 h4=>ih d e A.in1 x y u v (Nat.le_trans (zfl hm) (by omega)) (by show A.units+1+n<cLine;omega) h1 h2 h3 h4)
       rw[show its.toArray.size=ds.length by rw[zst];omega,zeo hl] at q
       exact q
      ·rw[show zb1 ds es=false by
        cases h:zb1 ds es with
        | false=>rfl
        | true=>exact absurd (zen h) hl]
       exact RcAt.lists_lengths px.isList py.isList (by simp only[zst,bne_iff_ne];omega) (by omega)
   | tup ds=>
    unfold dep at hn
    have hd0:=hd
    unfold Rep at hd
    obtain⟨a,xs,rfl,hx,rx⟩:=hd
    cases ru
    obtain⟨its,vx,px,zx⟩:=I.tuple hx
    cases e with
    | non=>unfold Rep at he;subst he;cases rv;unfold pyEq;exact EqAt.tuple_none px (by omega)
    | bl b=>unfold Rep at he;subst he;cases rv;unfold pyEq;exact EqAt.tuple_bool b px (by omega)
    | int b=>unfold Rep at he;subst he;obtain⟨t,rfl⟩:=rv;unfold pyEq;exact EqAt.tuple_int b t px (by omega)
    | str b=>unfold Rep at he;subst he;obtain⟨t,rfl⟩:=rv;unfold pyEq;exact EqAt.tuple_str b t px (by omega)
    | lst es=>
     unfold Rep at he
     obtain⟨b,ys,rfl,hy,ry⟩:=he
     cases rv
     obtain⟨jts,vy,py,zy⟩:=I.list hy
     unfold pyEq
     exact EqAt.tuple_list px py.isList (by omega)
    | tup es=>
     have he0:=he
     unfold Rep at he
     obtain⟨b,ys,rfl,hy,ry⟩:=he
     cases rv
     obtain⟨jts,vy,py,zy⟩:=I.tuple hy
     by_cases hab:a=b
     ·subst hab
      rw[Rep.inj I _ _ hd0 he0,zem]
      exact EqAt.same _
     ·refine EqAt.of_refs hab ?_
      unfold pyEq
      have l1:=rx.length
      have l2:=ry.length
      have l3:=vx.length
      have l4:=vy.length
      have q:=RcAt.tuples (A:=A) (e:=λj=>pyEq (ds.getD j .non) (es.getD j .non)) px py (by omega)
        (zgs rx ry vx vy λd e x y u v hm h1 h2 h3 h4=>ih d e A.in1 x y u v (Nat.le_trans (zfl hm) (by omega)) (by show A.units+1+n<cLine;omega) h1 h2 h3 h4)
      by_cases hl:ds.length=es.length
      ·rw[show min its.toArray.size jts.toArray.size=ds.length by rw[zst,zst];omega,zeo hl,show (its.toArray.size == jts.toArray.size)=true by rw[zst,zst,beq_iff_eq];omega,Bool.and_true] at q
       exact q
      ·rw[show zb1 ds es=false by
        cases h:zb1 ds es with
        | false=>rfl
        | true=>exact absurd (zen h) hl]
       rw[show (its.toArray.size == jts.toArray.size)=false by rw[zst,zst,beq_eq_false_iff_ne];omega,Bool.and_false] at q
       exact q
theorem zoY(I:Inv X pins σ H s)(hn:dep d<=n)(hu:A.units+n<cLine)(hd:Rep X.K H d (.ref a))(he:Rep X.K H e (.ref b)):RcAt A s (.ref a) (.ref b) (pyEq d e)/\RcNeAt A s (.ref a) (.ref b) (!pyEq d e):=by
 cases d with
 | non=>unfold Rep at hd;cases hd
 | bl _=>unfold Rep at hd;cases hd
 | int _=>unfold Rep at hd;cases hd
 | str _=>unfold Rep at hd;cases hd
 | lst ds=>
  unfold dep at hn
  unfold Rep at hd
  obtain⟨_,xs,e1,hx,rx⟩:=hd
  cases e1
  obtain⟨its,vx,px,zx⟩:=I.list hx
  cases e with
  | non=>unfold Rep at he;cases he
  | bl _=>unfold Rep at he;cases he
  | int _=>unfold Rep at he;cases he
  | str _=>unfold Rep at he;cases he
  | tup es=>
   unfold Rep at he
   obtain⟨_,ys,e1,hy,ry⟩:=he
   cases e1
   obtain⟨jts,vy,py,zy⟩:=I.tuple hy
   unfold pyEq
   exact⟨RcAt.list_tuple px.isList py (by omega),RcNeAt.list_tuple px.isList py (by omega)⟩
  | lst es=>
   unfold Rep at he
   obtain⟨_,ys,e1,hy,ry⟩:=he
   cases e1
   obtain⟨jts,vy,py,zy⟩:=I.list hy
   unfold pyEq
   have l1:=rx.length
   have l2:=ry.length
   have l3:=vx.length
   have l4:=vy.length
   by_cases hl:ds.length=es.length
   ·have it:=zgs (s:=s) (A:=A.in1) rx ry vx vy λd e x y u v hm h1 h2 h3 h4=>zoX I (n - 1) d e A.in1 x y u v (Nat.le_trans (zfl hm) (by omega)) (by show A.units+1+(n - 1)<cLine;omega) h1 h2 h3 h4
    have q:=RcAt.lists (A:=A) px.isList py.isList (by simp only[zst];omega) (by omega) it
    have q2:=RcNeAt.lists (A:=A) px.isList py.isList (by simp only[zst];omega) (by omega) it
    rw[show its.toArray.size=ds.length by rw[zst];omega,zeo hl] at q q2
    exact⟨q,q2⟩
   ·rw[show zb1 ds es=false by
     cases h:zb1 ds es with
     | false=>rfl
     | true=>exact absurd (zen h) hl]
    exact⟨RcAt.lists_lengths px.isList py.isList (by simp only[zst,bne_iff_ne];omega) (by omega),RcNeAt.lists_lengths px.isList py.isList (by simp only[zst,bne_iff_ne];omega) (by omega)⟩
 | tup ds=>
  unfold dep at hn
  unfold Rep at hd
  obtain⟨_,xs,e1,hx,rx⟩:=hd
  cases e1
  obtain⟨its,vx,px,zx⟩:=I.tuple hx
  cases e with
  | non=>unfold Rep at he;cases he
  | bl _=>unfold Rep at he;cases he
  | int _=>unfold Rep at he;cases he
  | str _=>unfold Rep at he;cases he
  | lst es=>
   unfold Rep at he
   obtain⟨_,ys,e1,hy,ry⟩:=he
   cases e1
   obtain⟨jts,vy,py,zy⟩:=I.list hy
   unfold pyEq
   exact⟨RcAt.tuple_list px py.isList (by omega),RcNeAt.tuple_list px py.isList (by omega)⟩
  | tup es=>
   unfold Rep at he
   obtain⟨_,ys,e1,hy,ry⟩:=he
   cases e1
   obtain⟨jts,vy,py,zy⟩:=I.tuple hy
   unfold pyEq
   have l1:=rx.length
   have l2:=ry.length
   have l3:=vx.length
   have l4:=vy.length
   have it:=zgs (s:=s) (A:=A.in1) rx ry vx vy λd e x y u v hm h1 h2 h3 h4=>zoX I (n - 1) d e A.in1 x y u v (Nat.le_trans (zfl hm) (by omega)) (by show A.units+1+(n - 1)<cLine;omega) h1 h2 h3 h4
   have q:=RcAt.tuples (A:=A) px py (by omega) it
   have q2:=RcNeAt.tuples (A:=A) px py (by omega) it
   by_cases hl:ds.length=es.length
   ·rw[show min its.toArray.size jts.toArray.size=ds.length by rw[zst,zst];omega,zeo hl,show (its.toArray.size == jts.toArray.size)=true by rw[zst,zst,beq_iff_eq];omega,Bool.and_true] at q q2
    exact⟨q,q2⟩
   ·rw[show zb1 ds es=false by
     cases h:zb1 ds es with
     | false=>rfl
     | true=>exact absurd (zen h) hl]
    rw[show (its.toArray.size == jts.toArray.size)=false by rw[zst,zst,beq_eq_false_iff_ne];omega,Bool.and_false] at q q2
    exact⟨q,q2⟩
end

def rEqD (K:Fg)(neg:Bool):R2:=λx y H Q=>∃ a b d e,x=.ref a/\y=.ref b/\Rep K H d (.ref a)/\Rep K H e (.ref b)/\dep d<=60/\Q (.bl (if neg then !pyEq d e else pyEq d e)) H
section
variable {X:Cx}{k:Nat}
theorem zq5 (hr:Room k X.A):OpR X (compareOp .Eq) (rEqD X.K false):=by
 intro pins s σ H x y v u Q I rx ry h
 obtain⟨a,b,d,e,rfl,rfl,hd,he,hn,q⟩:=h
 cases rx;cases ry
 exact (zoY I (A:=X.A) hn (by have:=hr.units;omega) hd he).1 X.prog X.w X.xe _ ⟨.bl _,H,I,rfl,q⟩
theorem zq6 (hr:Room k X.A):OpR X (compareOp .NotEq) (rEqD X.K true):=by
 intro pins s σ H x y v u Q I rx ry h
 obtain⟨a,b,d,e,rfl,rfl,hd,he,hn,q⟩:=h
 cases rx;cases ry
 exact (zoY I (A:=X.A) hn (by have:=hr.units;omega) hd he).2 X.prog X.w X.xe _ ⟨.bl _,H,I,rfl,q⟩
theorem zkc:zcd X (.builtin "isinstance") (λxs H Q=>∃ x c t b,xs=[x,.ty c]/\TyOf X.K H x t/\PySem.W.kitOne X.K t (.type c)=some b/\Q (.bl b) H):=by
 intro pins s σ H xs us Q I r h
 obtain⟨x,c,t,b,rfl,ty,e,q⟩:=h
 obtain⟨u,v,rfl,ru,rv⟩:=znN r
 cases rv
 exact zmo I ru ty e λtk=>⟨.bl b,H,I.tok tk,rfl,q⟩
end

mutual
def RepF (H:Hp):D->V->List Addr->Prop
 | .non,v,fp=>v=.non/\fp=[]
 | .bl b,v,fp=>v=.bl b/\fp=[]
 | .int i,v,fp=>v=.int i/\fp=[]
 | .str x,v,fp=>v=.str x/\fp=[]
 | .lst ds,v,fp=>∃ a xs r,v=.ref a/\fp=a::r/\H a=some (.lst xs)/\zaj H ds xs r
 | .tup ds,v,fp=>∃ a xs,v=.ref a/\H a=some (.tup xs)/\zaj H ds xs fp
def zaj (H:Hp):List D->List V->List Addr->Prop
 | [],vs,fp=>vs=[]/\fp=[]
 | d::ds,vs,fp=>∃ v r f g,vs=v::r/\fp=f++g/\RepF H d v f/\zaj H ds r g
end
mutual
theorem RepF.rep {K:Fg}{H:Hp} : ∀ (d:D) {v:V}{fp:List Addr},RepF H d v fp->Rep K H d v
 | .non,_,_,h=>by unfold RepF at h;unfold Rep;exact h.1
 | .bl _,_,_,h=>by unfold RepF at h;unfold Rep;exact h.1
 | .int _,_,_,h=>by unfold RepF at h;unfold Rep;exact h.1
 | .str _,_,_,h=>by unfold RepF at h;unfold Rep;exact h.1
 | .lst ds,_,_,h=>by
  unfold RepF at h;unfold Rep
  obtain⟨a,xs,r,h1,_,h2,h3⟩:=h
  exact⟨a,xs,h1,SqL.of h2,zaj.reps ds h3⟩
 | .tup ds,_,_,h=>by
  unfold RepF at h;unfold Rep
  obtain⟨a,xs,h1,h2,h3⟩:=h
  exact⟨a,xs,h1,SqT.of h2,zaj.reps ds h3⟩
theorem zaj.reps {K:Fg}{H:Hp} : ∀ (ds:List D) {vs:List V}{fp:List Addr},zaj H ds vs fp->Reps K H ds vs
 | [],_,_,h=>by unfold zaj at h;unfold Reps;exact h.1
 | d::ds,_,_,h=>by
  unfold zaj at h;unfold Reps
  obtain⟨v,r,f,g,h1,_,h2,h3⟩:=h
  exact⟨v,r,h1,RepF.rep d h2,zaj.reps ds h3⟩
end
def Tups (H H':Hp):Prop:=∀ b xs,H b=some (.tup xs)->H' b=some (.tup xs)
theorem Same.tups(e:Same H H'):Tups H H':=λ_ _ h=>e _ _ h
theorem Tups.trans(a:Tups H H1)(b:Tups H1 H2):Tups H H2:=λc o h=>b c o (a c o h)
variable {o:HO}
theorem zgt(h:∀ xs,H a≠some (.tup xs)):Tups H (upd H a o):=λb xs e=>by rw[zai (λz=>h xs (by rw[<-z];exact e))];exact e
theorem zdp(h:H a=some (.lst ys)):Tups H (upd H a o):=zgt λxs e=>by rw[h] at e;cases e
mutual
theorem RepF.frame {H H':Hp}(tk:Tups H H'):∀ (d:D) {v:V}{fp:List Addr},(∀ a∈fp,H' a=H a)->RepF H d v fp->RepF H' d v fp
 | .non,_,_,_,h=>by unfold RepF at *;exact h
 | .bl _,_,_,_,h=>by unfold RepF at *;exact h
 | .int _,_,_,_,h=>by unfold RepF at *;exact h
 | .str _,_,_,_,h=>by unfold RepF at *;exact h
 | .lst ds,_,_,k,h=>by
  unfold RepF at *
  obtain⟨a,xs,r,h1,h0,h2,h3⟩:=h
  subst h0
  exact⟨a,xs,r,h1,rfl,(k a List.mem_cons_self).trans h2,zaj.frame tk ds (λb hb=>k b (List.mem_cons_of_mem _ hb)) h3⟩
 | .tup ds,_,_,k,h=>by
  unfold RepF at *
  obtain⟨a,xs,h1,h2,h3⟩:=h
  exact⟨a,xs,h1,tk _ _ h2,zaj.frame tk ds k h3⟩
theorem zaj.frame {H H':Hp}(tk:Tups H H'):∀ (ds:List D) {vs:List V}{fp:List Addr},(∀ a∈fp,H' a=H a)->zaj H ds vs fp->zaj H' ds vs fp
 | [],_,_,_,h=>by unfold zaj at *;exact h
 | d::ds,_,_,k,h=>by
  unfold zaj at *
  obtain⟨v,r,f,g,h1,h0,h2,h3⟩:=h
  subst h0
  exact⟨v,r,f,g,h1,rfl,RepF.frame tk d (λb hb=>k b (List.mem_append_left _ hb)) h2,zaj.frame tk ds (λb hb=>k b (List.mem_append_right _ hb)) h3⟩
end
mutual
theorem RepF.has {H:Hp} : ∀ (d:D) {v:V}{fp:List Addr},RepF H d v fp->∀ a∈fp,∃ o,H a=some o
 | .non,_,_,h,a,m=>by unfold RepF at h;rw[h.2] at m;cases m
 | .bl _,_,_,h,a,m=>by unfold RepF at h;rw[h.2] at m;cases m
 | .int _,_,_,h,a,m=>by unfold RepF at h;rw[h.2] at m;cases m
 | .str _,_,_,h,a,m=>by unfold RepF at h;rw[h.2] at m;cases m
 | .lst ds,_,_,h,b,m=>by
  unfold RepF at h
  obtain⟨a,xs,r,h1,h0,h2,h3⟩:=h
  subst h0
  rcases List.mem_cons.mp m with m | m
  ·subst m;exact⟨_,h2⟩
  ·exact zaj.has ds h3 b m
 | .tup ds,_,_,h,b,m=>by
  unfold RepF at h
  obtain⟨a,xs,h1,h2,h3⟩:=h
  exact zaj.has ds h3 b m
theorem zaj.has {H:Hp} : ∀ (ds:List D) {vs:List V}{fp:List Addr},zaj H ds vs fp->∀ a∈fp,∃ o,H a=some o
 | [],_,_,h,a,m=>by unfold zaj at h;rw[h.2] at m;cases m
 | d::ds,_,_,h,b,m=>by
  unfold zaj at h
  obtain⟨v,r,f,g,h1,h0,h2,h3⟩:=h
  subst h0
  rcases zma.mp m with m | m
  ·exact RepF.has d h2 b m
  ·exact zaj.has ds h3 b m
end
theorem zaj.length: ∀ {ds:List D}{vs:List V}{fp:List Addr},zaj H ds vs fp->ds.length=vs.length
 | [],_,_,h=>by unfold zaj at h;rw[h.1];rfl
 | d::ds,_,_,h=>by
  unfold zaj at h
  obtain⟨v,r,f,g,rfl,_,_,h3⟩:=h
  simp[zaj.length h3]
theorem zaj.snoc: ∀ {ds:List D}{vs:List V}{fp:List Addr}{d:D}{v:V}{f:List Addr},zaj H ds vs fp->RepF H d v f->zaj H (ds++[d]) (vs++[v]) (fp++f)
 | [],_,_,d,v,f,h,q=>by
  unfold zaj at h
  obtain⟨rfl,rfl⟩:=h
  show zaj H [d] [v] ([]++f)
  unfold zaj
  exact⟨v,[],f,[],rfl,by simp,q,by unfold zaj;exact⟨rfl,rfl⟩⟩
 | c::ds,_,_,d,v,f,h,q=>by
  unfold zaj at h
  obtain⟨u,r,f1,g1,rfl,rfl,h2,h3⟩:=h
  rw[List.cons_append,List.cons_append,List.append_assoc]
  unfold zaj
  exact⟨u,_,f1,_,rfl,rfl,h2,zaj.snoc h3 q⟩
theorem zaj.ints: ∀ {ns:List Int},zaj H (ns.map D.int) (ns.map V.int) []
 | []=>by unfold List.map zaj;exact⟨rfl,rfl⟩
 | n::ns=>by
  rw[zmc,zmc]
  unfold zaj
  exact⟨_,_,[],[],rfl,rfl,by unfold RepF;exact⟨rfl,rfl⟩,zaj.ints⟩
theorem zaj.ints_eq: ∀ {ns:List Int}{vs:List V}{fp:List Addr},zaj H (ns.map D.int) vs fp->vs=ns.map V.int/\fp=[]
 | [],_,_,h=>by unfold List.map zaj at h;exact h
 | n::ns,_,_,h=>by
  rw[zmc] at h
  unfold zaj at h
  obtain⟨v,r,f,g,rfl,rfl,h1,h2⟩:=h
  unfold RepF at h1
  obtain⟨rfl,rfl⟩:=h1
  obtain⟨rfl,rfl⟩:=zaj.ints_eq h2
  exact⟨rfl,rfl⟩
theorem zgu:∀ ns:List Int,dep (.lst (ns.map D.int))<=1
 | []=>by unfold List.map dep deps;exact Nat.le_refl _
 | n::ns=>by
  have ih:=zgu ns
  unfold dep at ih ⊢
  rw[zmc]
  unfold deps dep
  omega
def New (H H':Hp)(d:D)(v:V):Prop:=∃ fp,RepF H' d v fp/\fp.Nodup/\∀ a∈fp,H a=none
abbrev nums (ns:List Int):D:=.lst (ns.map D.int)
theorem New.rep(h:New H H' d v):Rep K H' d v:=let ⟨_,h,_⟩:=h;RepF.rep d h
variable {i:Int}
theorem New.int: New H H' (.int i) (.int i):=⟨[],by unfold RepF;exact⟨rfl,rfl⟩,List.nodup_nil,λ_ m=>by cases m⟩
theorem New.bl{i:Bool}: New H H' (.bl i) (.bl i):=⟨[],by unfold RepF;exact⟨rfl,rfl⟩,List.nodup_nil,λ_ m=>by cases m⟩
theorem New.str{i:Str}: New H H' (.str i) (.str i):=⟨[],by unfold RepF;exact⟨rfl,rfl⟩,List.nodup_nil,λ_ m=>by cases m⟩
theorem New.non: New H H' .non .non:=⟨[],by unfold RepF;exact⟨rfl,rfl⟩,List.nodup_nil,λ_ m=>by cases m⟩
variable {H0:Hp}
theorem New.back(e:Same H0 H)(h:New H H' d v):New H0 H' d v:=by
 obtain⟨fp,h1,h2,h3⟩:=h
 exact⟨fp,h1,h2,λa m=>e.free (h3 a m)⟩
theorem New.same(e:Same H' H2)(h:New H H' d v):New H H2 d v:=by
 obtain⟨fp,h1,h2,h3⟩:=h
 refine⟨fp,RepF.frame e.tups d (λa m=>?_) h1,h2,h3⟩
 obtain⟨o,ho⟩:=RepF.has d h1 a m
 rw[ho,e a o ho]
theorem New.iif: New H H' (nums ns) v↔∃ a,v=.ref a/\H a=none/\H' a=some (.lst (ns.map V.int)):=by
 constructor
 ·rintro⟨fp,h1,h2,h3⟩
  unfold RepF at h1
  obtain⟨a,xs,r,e1,e2,e3,e4⟩:=h1
  obtain⟨rfl,rfl⟩:=zaj.ints_eq e4
  subst e2
  exact⟨a,e1,h3 a List.mem_cons_self,e3⟩
 ·rintro⟨a,e1,e2,e3⟩
  refine⟨[a],?_,by simp,λb m=>by rw[zms.mp m];exact e2⟩
  unfold RepF
  exact⟨a,_,[],e1,rfl,e3,zaj.ints⟩
theorem za8: Rep K H (nums ns) v↔∃ a,v=.ref a/\SqL K H a (ns.map V.int):=by
 unfold Rep
 constructor
 ·rintro⟨a,xs,e1,e2,e3⟩
  rw[Reps.ints.mp e3] at e2
  exact⟨a,e1,e2⟩
 ·rintro⟨a,e1,e2⟩
  exact⟨a,_,e1,e2,Reps.ints.mpr rfl⟩
variable {p:Addr}
theorem zad(h:H p=none)(o:HO):Same H (upd H p o):=λb u q=>by rw[zai (zan q h)];exact q
variable {fp:List Addr}
theorem New.lst(h:zaj H' ds vs fp)(nd:fp.Nodup)(hf:∀ b∈fp,H1 b=none)(ha:H1 a=none)(na:a∉fp)(hH:H' a=some (.lst vs)):New H1 H' (.lst ds) (.ref a):=by
 refine⟨a::fp,?_,List.nodup_cons.mpr ⟨na,nd⟩,λb m=>?_⟩
 ·unfold RepF;exact⟨a,vs,fp,rfl,rfl,hH,h⟩
 ·rcases List.mem_cons.mp m with m | m
  ·subst m;exact ha
  ·exact hf b m
theorem New.tup(h:zaj H' ds vs fp)(nd:fp.Nodup)(hf:∀ b∈fp,H1 b=none)(hH:H' a=some (.tup vs)):New H1 H' (.tup ds) (.ref a):=by
 refine⟨fp,?_,nd,hf⟩
 unfold RepF;exact⟨a,vs,rfl,hH,h⟩
structure Goes (J:It)(H1:Hp)(n:Nat)(P:Nat->V->Hp->Prop):Prop where
 go:∀ i H,i<n->Same H1 H->J.go i H
 stop:∀ H,Same H1 H->J.stop n H
 yld:∀ i H x H',i<n->Same H1 H->J.yld i H x H'->Same H H'/\P i x H'
theorem zaX(h:SqL K H1 a xs):Goes (Itl K a) H1 xs.length (λi x _=>xs[i]?=some x) where
 go:=λi H hi e=>⟨xs,xs[i],e.seq h,by simp[hi]⟩
 stop:=λH e=>⟨xs,e.seq h,Nat.le_refl _⟩
 yld:=λi H x H' hi e q=>by
  obtain⟨rfl,q⟩:=q
  exact⟨Same.refl _,q xs (e.seq h)⟩
theorem zfm(h:SqT K H1 a xs):Goes (Itt K a) H1 xs.length (λi x _=>xs[i]?=some x) where
 go:=λi H hi e=>⟨xs,xs[i],e.tup h,by simp[hi]⟩
 stop:=λH e=>⟨xs,e.tup h,Nat.le_refl _⟩
 yld:=λi H x H' hi e q=>by
  obtain⟨rfl,q⟩:=q
  exact⟨Same.refl _,q xs (e.tup h)⟩
variable {lo:Int}
theorem zh1: Goes (Itr lo n) H1 n (λi x _=>x=.int (lo+i)) where
 go:=λi H hi e=>hi
 stop:=λH e=>Nat.le_refl _
 yld:=λi H x H' hi e q=>by
  obtain⟨rfl,q⟩:=q
  exact⟨Same.refl _,q⟩
theorem zgv(h:SqL K H1 a xs)(h2:SqL K H1 b ys)(hn:n=min xs.length ys.length):
  Goes (Itz K a b) H1 n (λi v H=>∃ T x y,v=.ref T/\H T=some (.tup [x,y])/\xs[i]?=some x/\ys[i]?=some y) where
 go:=λi H hi e=>⟨xs,ys,xs[i]'(by omega),ys[i]'(by omega),e.seq h,e.seq h2,by simp,by simp⟩
 stop:=λH e=>⟨xs,ys,e.seq h,e.seq h2,by
  rcases Nat.le_total xs.length ys.length with z | z
  ·exact .inl (by simp;omega)
  ·exact .inr (by simp;omega)⟩
 yld:=λi H x H' hi e q=>by
  obtain⟨T,nT,rfl,q⟩:=q
  have i1:i<xs.length:=by omega
  have i2:i<ys.length:=by omega
  have:=q xs ys xs[i] ys[i] (e.seq h) (e.seq h2) (by simp) (by simp)
  subst this
  exact⟨zad nT _,T,_,_,rfl,zaa,by simp,by simp⟩
theorem zmQ(h:SqL K H1 a xs):
  Goes (Itn K a) H1 xs.length (λi v H=>∃ T x,v=.ref T/\H T=some (.tup [.int i,x])/\xs[i]?=some x) where
 go:=λi H hi e=>⟨xs,xs[i],e.seq h,by simp[hi]⟩
 stop:=λH e=>⟨xs,e.seq h,Nat.le_refl _⟩
 yld:=λi H x H' hi e q=>by
  obtain⟨T,nT,rfl,q⟩:=q
  have:=q xs xs[i] (e.seq h) (by simp)
  subst this
  exact⟨zad nT _,T,_,rfl,zaa,by simp⟩
def zk2 (J:It)(g:TG)(tt:TT)(te:TE)(σ0:St)(H1:Hp)(Q:VK):Prop:=∀ D,H1 D=none->
 ∃ W:Nat->Nat->List V->Hp->Prop,(∃ m,W 0 m [] (upd H1 D (.lst [])))/\∀ i m ys H,W i m ys H->H D=some (.lst ys)/\
  ((J.stop i H/\Q (.ref D) H)\/(J.go i H/\ys.length<sizeLine/\∃ N:List V->Hp->Prop,(∀ ys' H',N ys' H'->∃ m',m'<m/\W (i+1) m' ys' H')/\
   ∀ x H',J.yld i H x H'->g x σ0 H' λσ2 H2=>tt σ2 H2 λb H3=>if b=true then te σ2 H3 λy H4=>H4 D=some (.lst ys)/\N (ys++[y]) (upd H4 D (.lst (ys++[y]))) else N ys H3))
def zn5 (J:It)(g:TG)(tb:TS)(D:Ends)(σ:St)(H1:Hp):Prop:=∃ W:Nat->Nat->St->Hp->Prop,(∃ m,W 0 m σ H1)/\∀ i m σ H,W i m σ H->
 (J.stop i H/\D.nx σ H)\/(J.go i H/\∃ N:St->Hp->Prop,(∀ σ' H',N σ' H'->∃ m',m'<m/\W (i+1) m' σ' H')/\∀ x H',J.yld i H x H'->g x σ H' λσ2 H2=>tb {D with nx:=N,ct:=N,bk:=D.nx} σ2 H2)
variable {J:It}{g:TG}{te:TE}{σ0:St}
theorem zaY{P:Nat->V->Hp->Prop}(wk:Goes J H1 n P)(ds:List D)(hn:ds.length=n)(hz:n<=sizeLine)(step:∀ i x d H' (R:VK),i<n->ds[i]?=some d->Same H1 H'->P i x H'->(∀ y H3,Same H' H3->New H' H3 d y->R y H3)->g x σ0 H' λσ2 H2=>te σ2 H2 R)(fin:∀ v H',Same H1 H'->New H1 H' (.lst ds) v->Q v H'):
  zk2 J g zpA te σ0 H1 Q:=by
 intro Da hD
 refine⟨λi m ys H=>m=n - i/\i<=n/\Same H1 H/\H Da=some (.lst ys)/\∃ fp,zaj H (ds.take i) ys fp/\fp.Nodup/\Da∉fp/\∀ b∈fp,H1 b=none,⟨n,rfl,Nat.zero_le _,zad hD _,zaa,[],?_,List.nodup_nil,by simp,λ_ m=>by cases m⟩,?_⟩
 ·rw[List.take_zero];unfold zaj;exact⟨rfl,rfl⟩
 rintro i m ys H ⟨rfl,hi,hs,hH,fp,hr,nd,na,hf⟩
 refine⟨hH,?_⟩
 have hl:=hr.length
 rw[List.length_take] at hl
 by_cases hlt:i<n
 ·refine .inr ⟨wk.go i H hlt hs,by omega,λys' H'=>(n - (i+1)<n - i/\i+1<=n/\Same H1 H'/\H' Da=some (.lst ys')/\∃ fp,zaj H' (ds.take (i+1)) ys' fp/\fp.Nodup/\Da∉fp/\∀ b∈fp,H1 b=none),λys' H' ⟨q1,q2,q3,q4,q5⟩=>⟨n - (i+1),q1,rfl,q2,q3,q4,q5⟩,λx H' hy=>?_⟩
  obtain⟨s1,hp⟩:=wk.yld i H x H' hlt hs hy
  have hi':i<ds.length:=by omega
  refine step i x ds[i] H' _ hlt (by simp) (hs.trans s1) hp λy H3 s3 hn3=>?_
  have hD3:H3 Da=some (.lst ys):=s3 _ _ (s1 _ _ hH)
  refine⟨hD3,by omega,hlt,?_,zaa,?_⟩
  ·intro b o e
   rw[zai (zan e hD)]
   exact s3 _ _ (s1 _ _ (hs _ _ e))
  ·obtain⟨fq,h1,h2,h3⟩:=hn3
   have keep:∀ b∈fp,(upd H3 Da (.lst (ys++[y]))) b=H b:=λb hb=>by
    obtain⟨o,ho⟩:=zaj.has _ hr b hb
    rw[zai (show b≠Da from λz=>na (by rw[<-z];exact hb)),ho]
    exact s3 _ _ (s1 _ _ ho)
   have nDq:Da∉fq:=λz=>by
    have:=h3 Da z
    rw[s1 _ _ hH] at this;cases this
   have tk2:Tups H3 (upd H3 Da (.lst (ys++[y]))):=zdp hD3
   have tk1:Tups H (upd H3 Da (.lst (ys++[y]))):=((s1.trans s3).tups).trans tk2
   have keep2:∀ b∈fq,(upd H3 Da (.lst (ys++[y]))) b=H3 b:=λb hb=>by rw[zai (show b≠Da from λz=>nDq (by rw[<-z];exact hb))]
   refine⟨fp++fq,?_,?_,?_,?_⟩
   ·have:=(zaj.frame tk1 _ keep hr).snoc (RepF.frame tk2 _ keep2 h1)
    rw[List.take_add_one,show ds[i]?.toList=[ds[i]] by simp[hi']]
    exact this
   ·refine List.nodup_append.mpr ⟨nd,h2,λa ha b hb z=>?_⟩
    subst z
    obtain⟨o,ho⟩:=zaj.has _ hr a ha
    have:=h3 a hb
    rw[s1 _ _ ho] at this;cases this
   ·exact λz=>(zma.mp z).elim na nDq
   ·intro b hb
    rcases zma.mp hb with z | z
    ·exact hf b z
    ·exact (hs.trans s1).free (h3 b z)
 ·have e:i=n:=by omega
  subst e
  refine .inl ⟨wk.stop H hs,fin _ _ hs ?_⟩
  rw[List.take_of_length_le (by omega)] at hr
  exact New.lst hr nd hf hD na hH
variable {tt:TT}
theorem zmR{P:Nat->V->Hp->Prop}(wk:Goes J H1 n P)(k:Nat->Bool)(d:Nat->D)(hz:n<=sizeLine)(step:∀ i x H' (R1:VK) (R2:Hp->Prop),i<n->Same H1 H'->P i x H'->(k i=true->∀ y H3,Same H' H3->New H' H3 (d i) y->R1 y H3)->(k i=false->∀ H3,Same H' H3->R2 H3)->
   g x σ0 H' λσ2 H2=>tt σ2 H2 λb H3=>if b=true then te σ2 H3 R1 else R2 H3)(fin:∀ v H',Same H1 H'->New H1 H' (.lst (((List.range n).filter k).map d)) v->Q v H'):
  zk2 J g tt te σ0 H1 Q:=by
 intro Da hD
 refine⟨λi m ys H=>m=n - i/\i<=n/\Same H1 H/\H Da=some (.lst ys)/\∃ fp,zaj H (((List.range i).filter k).map d) ys fp/\fp.Nodup/\Da∉fp/\∀ b∈fp,H1 b=none,⟨n,rfl,Nat.zero_le _,zad hD _,zaa,[],?_,List.nodup_nil,by simp,λ_ m=>by cases m⟩,?_⟩
 ·simp only[List.range_zero,List.filter_nil,List.map_nil];unfold zaj;exact⟨rfl,rfl⟩
 rintro i m ys H ⟨rfl,hi,hs,hH,fp,hr,nd,na,hf⟩
 refine⟨hH,?_⟩
 have hl:=hr.length
 have hl2:((List.range i).filter k).length<=i:=by
  have:=List.length_filter_le k (List.range i)
  rwa [List.length_range] at this
 rw[zlm] at hl
 by_cases hlt:i<n
 ·refine .inr ⟨wk.go i H hlt hs,by omega,λys' H'=>(n - (i+1)<n - i/\i+1<=n/\Same H1 H'/\H' Da=some (.lst ys')/\∃ fp,zaj H' (((List.range (i+1)).filter k).map d) ys' fp/\fp.Nodup/\Da∉fp/\∀ b∈fp,H1 b=none),λys' H' ⟨q1,q2,q3,q4,q5⟩=>⟨n - (i+1),q1,rfl,q2,q3,q4,q5⟩,λx H' hy=>?_⟩
  obtain⟨s1,hp⟩:=wk.yld i H x H' hlt hs hy
  refine step i x H' _ _ hlt (hs.trans s1) hp (λhk y H3 s3 hn3=>?_) (λhk H3 s3=>?_)
  ·have hD3:H3 Da=some (.lst ys):=s3 _ _ (s1 _ _ hH)
   refine⟨hD3,by omega,hlt,?_,zaa,?_⟩
   ·intro b o e
    rw[zai (zan e hD)]
    exact s3 _ _ (s1 _ _ (hs _ _ e))
   ·obtain⟨fq,h1,h2,h3⟩:=hn3
    have keep:∀ b∈fp,(upd H3 Da (.lst (ys++[y]))) b=H b:=λb hb=>by
     obtain⟨o,ho⟩:=zaj.has _ hr b hb
     rw[zai (show b≠Da from λz=>na (by rw[<-z];exact hb)),ho]
     exact s3 _ _ (s1 _ _ ho)
    have nDq:Da∉fq:=λz=>by
     have:=h3 Da z
     rw[s1 _ _ hH] at this;cases this
    have tk2:Tups H3 (upd H3 Da (.lst (ys++[y]))):=zdp hD3
    have tk1:Tups H (upd H3 Da (.lst (ys++[y]))):=((s1.trans s3).tups).trans tk2
    have keep2:∀ b∈fq,(upd H3 Da (.lst (ys++[y]))) b=H3 b:=λb hb=>by rw[zai (show b≠Da from λz=>nDq (by rw[<-z];exact hb))]
    refine⟨fp++fq,?_,?_,?_,?_⟩
    ·have:=(zaj.frame tk1 _ keep hr).snoc (RepF.frame tk2 _ keep2 h1)
     rw[List.range_succ,List.filter_append,List.map_append,List.filter_cons,hk]
     exact this
    ·refine List.nodup_append.mpr ⟨nd,h2,λa ha b hb z=>?_⟩
     subst z
     obtain⟨o,ho⟩:=zaj.has _ hr a ha
     have:=h3 a hb
     rw[s1 _ _ ho] at this;cases this
    ·exact λz=>(zma.mp z).elim na nDq
    ·intro b hb
     rcases zma.mp hb with z | z
     ·exact hf b z
     ·exact (hs.trans s1).free (h3 b z)
  ·refine⟨by omega,hlt,hs.trans (s1.trans s3),s3 _ _ (s1 _ _ hH),fp,?_,nd,na,hf⟩
   rw[List.range_succ,List.filter_append,List.map_append,List.filter_cons,hk]
   simp only[Bool.false_eq_true,if_false,List.filter_nil,List.map_nil,List.append_nil]
   refine zaj.frame (s1.trans s3).tups _ (λb hb=>?_) hr
   obtain⟨o,ho⟩:=zaj.has _ hr b hb
   rw[ho]
   exact s3 _ _ (s1 _ _ ho)
 ·have e:i=n:=by omega
  subst e
  exact .inl ⟨wk.stop H hs,fin _ _ hs (New.lst hr nd hf hD na hH)⟩
variable {tb:TS}
theorem zfM{P:Nat->V->Hp->Prop}{D:Ends}(wk:Goes J H1 n P)(Pv:Nat->St->Hp->Prop)(h0:Pv 0 σ H1)(hl:∀ i σ H,Pv i σ H->Same H1 H)(hs:∀ i x σ H H',i<n->Pv i σ H->Same H H'->P i x H'->g x σ H' λσ2 H2=>tb {D with nx:=Pv (i+1),ct:=Pv (i+1),bk:=D.nx} σ2 H2)(hd:∀ σ H,Pv n σ H->D.nx σ H):
  zn5 J g tb D σ H1:=by
 refine⟨λi m σ H=>m=n - i/\i<=n/\Pv i σ H,⟨n,by simp,Nat.zero_le _,h0⟩,?_⟩
 rintro i m σ H ⟨rfl,hi,p⟩
 have e:=hl i σ H p
 by_cases hlt:i<n
 ·refine .inr ⟨wk.go i H hlt e,Pv (i+1),λσ' H' p'=>⟨n - (i+1),by omega,rfl,hlt,p'⟩,λx H' y=>?_⟩
  obtain⟨s1,hp⟩:=wk.yld i H x H' hlt e y
  exact hs i x σ H H' hlt p s1 hp
 ·have e':i=n:=by omega
  subst e'
  exact .inl ⟨wk.stop H e,hd σ H p⟩

inductive E3 {α1 α2 α3:Type}(p:α1->α2->α3->Prop):Prop
 | mk (a1:α1) (a2:α2) (a3:α3) (h:p a1 a2 a3):E3 p
inductive A3 (p1 p2 p3:Prop):Prop
 | mk (h1:p1) (h2:p2) (h3:p3):A3 p1 p2 p3
inductive A4 (p1 p2 p3 p4:Prop):Prop
 | mk (h1:p1) (h2:p2) (h3:p3) (h4:p4):A4 p1 p2 p3 p4
inductive A5 (p1 p2 p3 p4 p5:Prop):Prop
 | mk (h1:p1) (h2:p2) (h3:p3) (h4:p4) (h5:p5):A5 p1 p2 p3 p4 p5
inductive A6 (p1 p2 p3 p4 p5 p6:Prop):Prop
 | mk (h1:p1) (h2:p2) (h3:p3) (h4:p4) (h5:p5) (h6:p6):A6 p1 p2 p3 p4 p5 p6
inductive A7 (p1 p2 p3 p4 p5 p6 p7:Prop):Prop
 | mk (h1:p1) (h2:p2) (h3:p3) (h4:p4) (h5:p5) (h6:p6) (h7:p7):A7 p1 p2 p3 p4 p5 p6 p7
inductive A8 (p1 p2 p3 p4 p5 p6 p7 p8:Prop):Prop
 | mk (h1:p1) (h2:p2) (h3:p3) (h4:p4) (h5:p5) (h6:p6) (h7:p7) (h8:p8):A8 p1 p2 p3 p4 p5 p6 p7 p8
structure Fn (P:Program)(w:World)(K:Fg)(mg:Str->Option Value)(base:Heap)(x:Str)(ps:List Str)(k:Nat)(sp:Sp):Prop where
 ex:∃ f fd,FnOk P w K mg base CX0 k f fd ps sp/\zef K fd ps []/\PySem.W.keepIn K (.ref f)=true/\mg x=some (.ref f)
section
variable {X:Cx}{k j:Nat}{ps:List Str}{sp:Sp}{x:Str}{p pos:Pos}{e:Expr}{es:List Expr}{t:TA}
theorem zap (G:Fn X.prog X.w X.K X.mg X.base x ps j sp)(hr:Room k X.A)(hg:Gl X x)(ha:PA X (e::es) t)(hj:j<=k:=by decide)(hdb:(x == ("__debug__" : Str))=false:=by decide)
  (he:starEach (e::es) X.env=(false,eval e X.env)::starEach es X.env:=by rfl) (hpl:(backTo pos (starEach es X.env)).any (·.1)=false:=by rfl):PE X (.Call (.Name x p) (e::es) [] pos) (zhr sp [] E0 t):=by
 obtain⟨f,fd,F,hb,hk,hm⟩:=G.ex
 exact zmq (F.mono hj) hr hg hm hk hb .nil zbi ha hdb he hpl
end
variable {base:Heap}
theorem Fn.of{k:Nat}(F:Fun K x x st f fd)(S:FSc N ps (zaf st))(m:mg x=some (.ref f))(hb:∀ (kV doc pm:Value) (an:Option Addr) (cdv ct:Value) (us:List Value),us.length=ps.length->bindArgs (PySem.W.fnOf x x (zdy st) (zb4 st) (zaf st) .none kV doc pm an cdv ct) ⟨us,[]⟩=pure (ps.zip us))(len:∀ vs H Q E,sp vs H Q E->vs.length=ps.length)(hbody:∀ (cdv:Value) (A:Around) (outer:List Env) (s:Shared) (H:Hp) (vs:List V) (Q:VK) (E:XK),Room k (A.deeper (envOfC x (zaf st) s.heap.objs.size f cdv))->sp vs H Q E->
   ∃ t,PSs (cxOf CX0 P w K mg base N x (zaf st) f cdv A outer s H E).nox (zb4 st) t/\t {nx:=λ_ H'=>Q .non H',rt:=Q} (start N vs) H):Fn P w K mg base x ps (k+1) sp:=
 ⟨f,fd,F.ok S len hbody,F.binds hb,F.kp,m⟩
section
variable {X:Cx}{k:Nat}
def zkd (K:Fg):R2:=λx y H Q=>rI0 (λi j=>.int (i+j)) x y H Q\/rCat x y H Q\/zqM K x y H Q
theorem zpE:OpR X (binaryOp .Add) (zkd X.K):=zqC.or (zqT.or zpr)
def zmS:R2:=λx y H Q=>rI CMul (λi j=>.int (i * j)) x y H Q\/rRep x y H Q
theorem zdq:OpR X (binaryOp .Mult) zmS:=zqD.or zqU
def rEqA (K:Fg):R2:=λx y H Q=>rEq x y H Q\/rEqD K false x y H Q
def rNeA (K:Fg):R2:=λx y H Q=>rNe x y H Q\/rEqD K true x y H Q
theorem zq7 (hr:Room k X.A):OpR X (compareOp .Eq) (rEqA X.K):=op_eq.or (zq5 hr)
theorem zq8 (hr:Room k X.A):OpR X (compareOp .NotEq) (rNeA X.K):=zqE.or (zq6 hr)
end

def rLen (K:Fg):List V->Hp->VK->Prop:=λxs H Q=>∃ p ys,xs=[.ref p]/\(SqL K H p ys\/SqT K H p ys)/\Q (.int ys.length) H
def zke (K:Fg):List V->Hp->VK->Prop:=λxs H Q=>∃ p ys,xs=[.ref p]/\(SqL K H p ys\/SqT K H p ys)/\∀ l,H l=none->Q (.ref l) (upd H l (.lst ys))
def zmT (K:Fg):List V->Hp->VK->Prop:=λxs H Q=>∃ p ys,xs=[.ref p]/\((SqL K H p ys/\∀ l,H l=none->Q (.ref l) (upd H l (.tup ys)))\/(SqT K H p ys/\Q (.ref p) H))
def rIsi (K:Fg):List V->Hp->VK->Prop:=λxs H Q=>∃ x c t b,xs=[x,.ty c]/\TyOf K H x t/\PySem.W.kitOne K t (.type c)=some b/\Q (.bl b) H
def rAll (K:Fg):List V->Hp->VK->Prop:=λxs H Q=>∃ (p:Addr) (bs:List Bool),xs=[.ref p]/\SqL K H p (bs.map V.bl)/\Q (.bl (bs.all id)) H
def rAny (K:Fg):List V->Hp->VK->Prop:=λxs H Q=>∃ (p:Addr) (bs:List Bool),xs=[.ref p]/\SqL K H p (bs.map V.bl)/\Q (.bl (bs.any id)) H
def rMin:List V->Hp->VK->Prop:=λxs H Q=>∃ i j,xs=[.int i,.int j]/\Q (.int (if j<i then j else i)) H
section
variable {X:Cx}
theorem c_len:zcd X (.builtin "len") (rLen X.K):=zi3
theorem zq9:zcd X (.type "list") (zke X.K):=zi4
theorem zpF:zcd X (.type "tuple") (zmT X.K):=zio
theorem c_isi:zcd X (.builtin "isinstance") (rIsi X.K):=zkc
theorem c_all (hc:X.calm=true):zcd X (.builtin "all") (rAll X.K):=zn2 hc
theorem c_any (hc:X.calm=true):zcd X (.builtin "any") (rAny X.K):=zn3 hc
theorem c_min (hc:X.calm=true):zcd X (.builtin "min") rMin:=zmk hc
end

variable {c:TT}{j:Int}{α:Type}
section
variable {K:Fg}{σ:St}{H:Hp}{Q:VK}{ta tb tc:TE}{D:Ends}
theorem zra{i:Nat}(h:σ[i]?=some (some v))(q:Q v H):tVar i σ H Q:=⟨v,h,q⟩
theorem i_c(q:Q v H):tC v σ H Q:=q
theorem i_op {r:R2}(h:ta σ H λx H1=>tb σ H1 λy H2=>r x y H2 Q):tOp r ta tb σ H Q:=h
theorem i_un {r:V->Hp->VK->Prop}(h:ta σ H λx H1=>r x H1 Q):tUn r ta σ H Q:=h
theorem i_rI0{g:Int->Int->V}(q:Q (g i j) H):rI0 g (.int i) (.int j) H Q:=⟨i,j,rfl,rfl,q⟩
theorem i_mod(c:0<j)(q:Q (.int (i % j)) H):rI (λ_ j=>0<j) (λi j=>.int (i % j)) (.int i) (.int j) H Q:=⟨i,j,rfl,rfl,c,q⟩
theorem zn6 (q:Q (.int 1000000000) H):rI CPow (λi j=>.int (i ^ j.toNat)) (.int 10) (.int 9) H Q:=⟨10,9,rfl,rfl,⟨by decide,by decide,by decide⟩,q⟩
theorem zrb(c:0<j)(c2:j<1073741824)(q:Q (.int (i / j)) H):rI CDiv (λi j=>.int (i / j)) (.int i) (.int j) H Q:=⟨i,j,rfl,rfl,⟨c,c2⟩,q⟩
theorem i_rU{g:Int->V}(q:Q (g i) H):rU g (.int i) H Q:=⟨i,rfl,q⟩
theorem zpG(q:Q (.int (i+j)) H):zkd K (.int i) (.int j) H Q:=.inl ⟨i,j,rfl,rfl,q⟩
theorem zbr(h1:H a=some (.lst xs))(h2:H b=some (.lst ys))(z:xs.length+ys.length<=sizeLine)(q:∀ p,H p=none->Q (.ref p) (upd H p (.lst (xs++ys)))):zkd K (.ref a) (.ref b) H Q:=.inr (.inl ⟨a,b,xs,ys,rfl,rfl,h1,h2,z,q⟩)
theorem zis(c:CMul i j)(q:Q (.int (i * j)) H):zmS (.int i) (.int j) H Q:=.inl ⟨i,j,rfl,rfl,c,q⟩
theorem zrc(q:Q (.bl (decide (i=j))) H):rEqA K (.int i) (.int j) H Q:=.inl ⟨rfl,by
 rw[show decide (V.int i=V.int j)=decide (i=j) by rw[decide_eq_decide];exact⟨λz=>by cases z;rfl,λz=>by rw[z]⟩];exact q⟩
theorem i_neI(q:Q (.bl (!decide (i=j))) H):rNeA K (.int i) (.int j) H Q:=.inl ⟨rfl,by
 rw[show decide (V.int i=V.int j)=decide (i=j) by rw[decide_eq_decide];exact⟨λz=>by cases z;rfl,λz=>by rw[z]⟩];exact q⟩
theorem i_eqS {i j:Str}(q:Q (.bl (decide (i=j))) H):rEqA K (.str i) (.str j) H Q:=.inl ⟨rfl,by
 rw[show decide (V.str i=V.str j)=decide (i=j) by rw[decide_eq_decide];exact⟨λz=>by cases z;rfl,λz=>by rw[z]⟩];exact q⟩
variable {d e:L2.D}
theorem zn7(h1:Rep K H d (.ref a))(h2:Rep K H e (.ref b))(n:dep d<=60)(q:Q (.bl (pyEq d e)) H):rEqA K (.ref a) (.ref b) H Q:=.inr ⟨a,b,d,e,rfl,rfl,h1,h2,n,q⟩
theorem i_neD(h1:Rep K H d (.ref a))(h2:Rep K H e (.ref b))(n:dep d<=60)(q:Q (.bl (!pyEq d e)) H):rNeA K (.ref a) (.ref b) H Q:=.inr ⟨a,b,d,e,rfl,rfl,h1,h2,n,q⟩
theorem zrd {Q:Bool->Hp->Prop}(h:ta σ H λx H'=>∃ k,x=.bl k/\Q k H'):zpl ta σ H Q:=h
theorem i_B {Q:Bool->Hp->Prop}(h:ta σ H λx H'=>∃ k,x=.bl k/\Q k H'):tB ta σ H Q:=h
theorem i_bl {P:Bool->Prop}{b:Bool}(h:P b):∃ k,V.bl b=.bl k/\P k:=⟨b,rfl,h⟩
theorem i_nil {Q:List V->Hp->Prop}(h:Q [] H):tNil σ H Q:=h
theorem zre {Q:List V->Hp->Prop}{tr:TA}(h:ta σ H λx H1=>tr σ H1 λxs H2=>Q (x::xs) H2):zc2 ta tr σ H Q:=h
theorem zrf{t:TA}(h:t σ H λvs H1=>sp vs H1 Q E0):zhr sp [] E0 t σ H Q:=by
 have e:(λ(vs:List V) (H1:Hp)=>sp (vs++[]) H1 Q E0)=λvs H1=>sp vs H1 Q E0:=by funext vs H1;rw[List.append_nil]
 show t σ H λvs H1=>sp (vs++[]) H1 Q E0
 rw[e];exact h
theorem i_CB {r:List V->Hp->VK->Prop}{t:TA}(h:t σ H λvs H1=>r vs H1 Q):tCB r t σ H Q:=h
theorem i_lst {t:TA}(h:t σ H λxs H1=>xs.length<=sizeLine/\∀ p,H1 p=none->Q (.ref p) (upd H1 p (.lst xs))):tLst t σ H Q:=h
theorem i_tup {t:TA}(h:t σ H λxs H1=>xs.length<=sizeLine/\∀ p,H1 p=none->Q (.ref p) (upd H1 p (.tup xs))):tTup t σ H Q:=h
theorem i_asg(h:ta σ H λx H1=>g x σ H1 D.nx):tAsg ta g D σ H:=h
theorem zpH{i:Nat}{Q:St->Hp->Prop}(h:Q (σ.set i (some v)) H):znH i v σ H Q:=h
theorem i_ret (h:ta σ H D.rt):tRet ta D σ H:=h
theorem zrg (h:ta σ H λ_ H1=>D.nx σ H1):zl6 ta D σ H:=h
theorem zrh (h:D.nx σ H):zpf D σ H:=h
theorem i_if(h:c σ H λb H1=>if b=true then ta σ H1 Q else tb σ H1 Q):tIf c ta tb σ H Q:=h
theorem zep(h:SqL K H a xs\/SqT K H a xs)(q:Q (.int xs.length) H):rLen K [.ref a] H Q:=⟨a,xs,rfl,h,q⟩
theorem ix0{x:α}{xs:List α}: ixN (x::xs).length 0=some 0:=by
 unfold ixN
 rw[if_pos (Int.le_refl 0),if_pos (by rw[List.length_cons];omega)]
 rfl
theorem zbu{x:α}{xs:List α}: atI (x::xs) (0:Int)=some x:=zaB (j:=0) rfl
theorem zcf(h:SqL K H a xs)(e:atI xs i=some v)(q:Q v H):rIx K (.ref a) (.int i) H Q:=.inl ⟨a,xs,i,v,rfl,rfl,h,e,q⟩
theorem zaJ(h:SqT K H a xs)(e:atI xs i=some v)(q:Q v H):rIx K (.ref a) (.int i) H Q:=.inr (.inl ⟨a,xs,i,v,rfl,rfl,h,e,q⟩)
end
variable {R:It->Hp->Prop}{wi:TI}{tl to:TE}
section
variable {K:Fg}{σ:St}{H:Hp}{Q:VK}{ta tb tc:TE}{D:Ends}
theorem zje{bs:List Bool}(h:SqL K H p (bs.map V.bl))(q:Q (.bl (bs.all id)) H):rAll K [.ref p] H Q:=⟨p,bs,rfl,h,q⟩
theorem i_any{bs:List Bool}(h:SqL K H p (bs.map V.bl))(q:Q (.bl (bs.any id)) H):rAny K [.ref p] H Q:=⟨p,bs,rfl,h,q⟩
theorem i_min(q:Q (.int (if j<i then j else i)) H):rMin [.int i,.int j] H Q:=⟨i,j,rfl,q⟩
theorem zri (h:ta σ H λx H1=>∃ c,x=.bl c/\if c=true then tb σ H1 Q else Q (.bl false) H1):zqw ta tb σ H Q:=h
variable {u:TT}
theorem i_and{t:TT}{Q:Bool->Hp->Prop}(h:t σ H λc H1=>if c=true then u σ H1 Q else Q false H1):tAnd t u σ H Q:=h
theorem i_or{t:TT}{Q:Bool->Hp->Prop}(h:t σ H λc H1=>if c=true then Q true H1 else u σ H1 Q):tOr t u σ H Q:=h
theorem i_not {t:TT}{Q:Bool->Hp->Prop}(h:t σ H λc H1=>Q (!c) H1):tNot t σ H Q:=h
theorem zn8 {x:V}{t:Value}{c:String}{b:Bool}(ty:TyOf K H x t)(e:PySem.W.kitOne K t (.type c)=some b)(q:Q (.bl b) H) :
  rIsi K [x,.ty c] H Q:=⟨x,c,t,b,rfl,ty,e,q⟩
theorem i_for{tb:TS}(h:wi σ H λJ H1=>zn5 J g tb D σ H1):tFor wi g tb D σ H:=h
theorem zrj(h:wi σ H λJ H1=>zk2 J g tt te (zdI ms σ) H1 Q):znZ ms wi g tt te σ H Q:=h
theorem zpI(h:tl σ H λx H1=>∃ a,x=.ref a/\(∃ xs,SqL K H1 a xs)/\R (Itl K a) H1):zph K tl σ H R:=h
theorem zrk(h:tl σ H λx H1=>∃ a,x=.ref a/\(∃ xs,SqT K H1 a xs)/\R (Itt K a) H1):iTup K tl σ H R:=h
theorem i_zip{t:TA}(h:t σ H λvs H1=>∃ a b,vs=[.ref a,.ref b]/\(∃ xs,SqL K H1 a xs)/\(∃ ys,SqL K H1 b ys)/\R (Itz K a b) H1):iZip K t σ H R:=h
theorem zrl{t:TA}(h:t σ H λvs H1=>∃ a xs,vs=[.ref a]/\H1 a=some (.lst xs)/\R (Itn K a) H1):zpC K t σ H R:=h
theorem zrm{t:TA}(h:t σ H λvs H1=>∃ j:Int,vs=[.int j]/\-(2 ^ 62)<=j/\j<2 ^ 62/\R (Itr 0 j.toNat) H1):zqB t σ H R:=h
variable {P:Int->Prop}
theorem zgS(h1:-(2 ^ 62)<=j)(h2:j<2 ^ 62)(h:P j):∃ k:Int,[V.int j]=[.int k]/\-(2 ^ 62)<=k/\k<2 ^ 62/\P k:=⟨j,rfl,h1,h2,h⟩
theorem i_sl {r:V->Option Int->Option Int->Hp->VK->Prop}{tl th:TO}(h:ta σ H λx H1=>tl σ H1 λl H2=>th σ H2 λu H3=>r x l u H3 Q):tSl r ta tl th σ H Q:=h
theorem zn9 {Q:Option Int->Hp->Prop}(h:Q none H):zmv σ H Q:=h
theorem zrn {Q:Option Int->Hp->Prop}(h:ta σ H λx H1=>∃ i,x=.int i/\Q (some i) H1):zqK ta σ H Q:=h
theorem zpJ(h:P i):∃ j,V.int i=.int j/\P j:=⟨i,rfl,h⟩
theorem zro{ti:TE}{t:TSet}{Q:St->Hp->Prop}(h:to σ H λo H1=>ti σ H1 λi H2=>t o i v H2 λH3=>Q σ H3):gSub to ti t v σ H Q:=h
theorem zk3{k:Int}{j:Nat}{Q:Hp->Prop}(h:H a=some (.lst xs))(e:ixN xs.length k=some j)(q:Q (upd H a (.lst (xs.set j v)))):zqQ (.ref a) (.int k) v H Q:=⟨a,xs,k,j,rfl,rfl,h,e,q⟩
theorem zgw(h:SqL K H a ys\/SqT K H a ys)(q:∀ l,H l=none->Q (.ref l) (upd H l (.lst ys))):
  zke K [.ref a] H Q:=⟨a,ys,rfl,h,q⟩
end
variable {ta:TE}{tg:Expr}
section
variable {X:Cx}{k:Nat}{pos:Pos}
theorem zaS (K:Fg)(hK:X.K=K:=by rfl):OpR X (binaryOp .Add) (zkd K):=by subst hK;exact zpE
theorem k_eq (K:Fg)(hr:Room k X.A)(hK:X.K=K:=by rfl):OpR X (compareOp .Eq) (rEqA K):=by subst hK;exact zq7 hr
theorem k_ne (K:Fg)(hr:Room k X.A)(hK:X.K=K:=by rfl):OpR X (compareOp .NotEq) (rNeA K):=by subst hK;exact zq8 hr
theorem k_in (K:Fg)(hK:X.K=K:=by rfl):OpR X (compareOp .In) (rIn K false):=by subst hK;exact zmx
theorem k_ix (K:Fg)(hK:X.K=K:=by rfl):IxR X (rIx K):=by subst hK;exact zqP
def rSl (K:Fg):V->Option Int->Option Int->Hp->VK->Prop:=λx lo hi H Q=>rSlL K x lo hi H Q\/rSlT K x lo hi H Q
theorem k_sl (K:Fg)(hK:X.K=K:=by rfl):SlR X (rSl K):=by subst hK;exact zpu.or zqL
theorem zd0 (K:Fg)(hK:X.K=K:=by rfl):zcd X (.builtin "len") (rLen K):=by subst hK;exact c_len
theorem zk4 (K:Fg)(hK:X.K=K:=by rfl):zcd X (.type "list") (zke K):=by subst hK;exact zq9
theorem zpK (K:Fg)(hK:X.K=K:=by rfl):zcd X (.type "tuple") (zmT K):=by subst hK;exact zpF
theorem k_isi (K:Fg)(hK:X.K=K:=by rfl):zcd X (.builtin "isinstance") (rIsi K):=by subst hK;exact c_isi
theorem zjf (K:Fg)(hc:X.calm=true)(hK:X.K=K:=by rfl):zcd X (.builtin "all") (rAll K):=by subst hK;exact c_all hc
theorem zrp (K:Fg)(hc:X.calm=true)(hK:X.K=K:=by rfl):zcd X (.builtin "any") (rAny K):=by subst hK;exact c_any hc
variable {l:Expr}
theorem zbj(K:Fg)(hl:PE X l tl)(hK:X.K=K:=by rfl):PI X tg l (zph K tl):=by subst hK;exact zpi hl
theorem zjg(K:Fg)(hl:PE X l tl)(hK:X.K=K:=by rfl):PI X tg l (iTup K tl):=by subst hK;exact zqA hl
variable {a:Expr}{ta:TA}{p:Pos}
theorem zk5(K:Fg){b:Expr}(hg:Gl X "zip")(hm:X.mg "zip"=none)(ha:PA X [a,b] ta)(hK:X.K=K:=by rfl)(hs:starEach [a,b] X.env=[(false,eval a X.env),(false,eval b X.env)]:=by rfl)(hs2:starEach [b] X.env=[(false,eval b X.env)]:=by rfl):
  PI X (.Tuple elts kx tpos) (.Call (.Name "zip" p) [a,b] [] pos) (iZip K ta):=by subst hK;exact zq3 hg hm ha hs hs2
theorem zpL(K:Fg)(hg:Gl X "enumerate")(hm:X.mg "enumerate"=none)(ha:PA X [a] ta)(hK:X.K=K:=by rfl)(hs:starEach [a] X.env=[(false,eval a X.env)]:=by rfl):
  PI X (.Tuple elts kx tpos) (.Call (.Name "enumerate" p) [a] [] pos) (zpC K ta):=by subst hK;exact zpD hg hm ha hs
theorem zh2(K:Fg){es:List Expr}{kk:Nat}{t:TGs}(hc:X.calm=true)(h:PGs X es t)(hK:X.K=K:=by rfl)(hn:(assignEach es X.env).length=n:=by rfl)(hst:(assignEach es X.env).findIdx? (·.1)=none:=by rfl):
  PG X (.Tuple es kk pos) (gTup K n t):=by subst hK;exact zqy hc h hn hst
theorem zax (K:Fg){e:Expr}{f:Str}{ta:TE}(he:PE X e ta)(hb:attributeBase e f X.env (eval e X.env)=eval e X.env)(hK:X.K=K:=by rfl):PE X (.Attribute e f pos) (tFld K ta f):=by subst hK;exact zqH he hb
end
theorem zmU{f:Nat->D}{i:Nat}(h:((List.range n).map f)[i]?=some d):d=f i:=by
 rw[zgm] at h
 obtain⟨j,hj,rfl⟩:=zme.mp h
 have hl:=(zge.mp hj).1
 rw[List.length_range] at hl
 have hi:i<n:=hl
 rw[List.getElem?_range hi] at hj
 cases hj;rfl
theorem za4(hg:Gl X x)(hm:∃ t,X.mg x=some (.int i t))(hd:(x == ("__debug__" : Str))=false:=by decide):PE X (.Name x pos) (tC (.int i)):=by
 obtain⟨t,hm⟩:=hm
 exact zl3 hg hm ⟨t,rfl⟩ hd
theorem iteNT{A:Prop}(h:B):if (!true)=true then A else B:=iteF h
theorem iteNF{A:Prop}(h:A):if (!false)=true then A else B:=iteT h
theorem zao(h:n<=1000):n<=sizeLine:=Nat.le_of_lt (zc3 h)
theorem sl(h:Nat.ble n 1000=true):n<=sizeLine:=zao (Nat.le_of_ble_eq_true h)
theorem i_bm{r:V->List V->Hp->VK->Prop}{t:TA}(h:to σ H λx H1=>tyV K T x H1/\t σ H1 λxs H2=>r x xs H2 Q):tBM K T r to t σ H Q:=h
theorem tyL(h:H a=some (.lst xs)):tyV K "list" (.ref a) H:=.inl ⟨rfl,_,SqL.of h⟩
theorem i_app(h:H a=some (.lst xs))(z:xs.length<sizeLine)(q:Q .non (upd H a (.lst (xs++[y])))):zmz (.ref a) [y] H Q:=⟨a,xs,y,rfl,rfl,h,z,q⟩
theorem zaj.bls_eq: ∀ {bs:List Bool}{vs:List V}{fp:List Addr},zaj H (bs.map D.bl) vs fp->vs=bs.map V.bl/\fp=[]
 | [],_,_,h=>by unfold List.map zaj at h;exact h
 | n::ns,_,_,h=>by
  rw[zmc] at h
  unfold zaj at h
  obtain⟨v,r,f,g,rfl,rfl,h1,h2⟩:=h
  unfold RepF at h1
  obtain⟨rfl,rfl⟩:=h1
  obtain⟨rfl,rfl⟩:=zaj.bls_eq h2
  exact⟨rfl,rfl⟩
theorem New.bls{bs:List Bool}(h:New H H' (.lst (bs.map D.bl)) v):∃ a,v=.ref a/\H a=none/\H' a=some (.lst (bs.map V.bl)):=by
 obtain⟨fp,h1,h2,h3⟩:=h
 unfold RepF at h1
 obtain⟨a,xs,r,e1,e2,e3,e4⟩:=h1
 obtain⟨rfl,rfl⟩:=zaj.bls_eq e4
 subst e2
 exact⟨a,e1,h3 a List.mem_cons_self,e3⟩
theorem New.lso(h:New H H' (.lst ds) v):∃ a vs fp,v=.ref a/\H a=none/\H' a=some (.lst vs)/\zaj H' ds vs fp/\fp.Nodup/\a∉fp/\∀ b∈fp,H b=none:=by
 obtain⟨fp,h1,h2,h3⟩:=h
 unfold RepF at h1
 obtain⟨a,xs,r,e1,e2,e3,e4⟩:=h1
 subst e2
 exact⟨a,xs,r,e1,h3 a List.mem_cons_self,e3,e4,(List.nodup_cons.mp h2).2,(List.nodup_cons.mp h2).1,λb m=>h3 b (List.mem_cons_of_mem _ m)⟩
theorem zkf{D:Ends}(Pv:Nat->St->Hp->Prop)(h0:Pv 0 σ H)(hs:∀ i σ H,i<n->Pv i σ H->g (.int (lo+i)) σ H λσ2 H2=>tb {D with nx:=Pv (i+1),ct:=Pv (i+1),bk:=D.nx} σ2 H2)(hd:∀ σ H,Pv n σ H->D.nx σ H):zn5 (Itr lo n) g tb D σ H:=zmb Pv h0 hs hd
theorem zmV{D:Ends}(Pv:Nat->St->Hp->Prop)(h0:Pv 0 σ H)(hl:∀ i σ H,i<=xs.length->Pv i σ H->SqL K H a xs)(hs:∀ i x σ H,xs[i]?=some x->Pv i σ H->g x σ H λσ2 H2=>tb {D with nx:=Pv (i+1),ct:=Pv (i+1),bk:=D.nx} σ2 H2)(hd:∀ σ H,Pv xs.length σ H->D.nx σ H):zn5 (Itl K a) g tb D σ H:=znJ Pv h0 hl hs hd
theorem zmW: ∀ {ds:List D},(∀ d∈ds,dep d<=n)->deps ds<=n
 | [],_=>by unfold deps;exact Nat.zero_le _
 | d::ds,h=>by
  unfold deps
  exact Nat.max_le.mpr ⟨h d List.mem_cons_self,zmW λe he=>h e (List.mem_cons_of_mem _ he)⟩
theorem zjh (ls:List (List Int)):dep (.lst (ls.map nums))<=2:=by
 unfold dep
 refine Nat.succ_le_succ (zmW λd hd=>?_)
 obtain⟨l,_,rfl⟩:=zmm.mp hd
 exact zgu l
theorem boot_len:bootBuiltins "len"=some (.builtin "len"):=PySem.boot_len
theorem zdJ:bootBuiltins "list"=some (.type "list"):=by decide +kernel
theorem zlH:bootBuiltins "tuple"=some (.type "tuple"):=by decide +kernel
theorem zbk:bootBuiltins "isinstance"=some (.builtin "isinstance"):=by decide +kernel
theorem zdr:bootBuiltins "all"=some (.builtin "all"):=by decide +kernel
theorem zk6:bootBuiltins "any"=some (.builtin "any"):=by decide +kernel
theorem zoa:bootBuiltins "min"=some (.builtin "min"):=by decide +kernel
theorem zob{t:Value}: PySem.W.kitOne K t t=some true:=by unfold PySem.W.kitOne;simp
structure Mkr (P:Program)(w:World)(K:Fg)(mg:Str->Option Value)(base:Heap)(x:Str)(C:Addr)(ps:List Str)(k:Nat)(sp:Sp):Prop where
 ex:∃ f fd,Mk K C f/\FnOk P w K mg base CX0 k f fd ps sp/\zef K fd ps []/\mg x=some (.ref C)
section
variable {X:Cx}{k j:Nat}{C:Addr}{ps:List Str}{sp:Sp}{x:Str}{p pos:Pos}{e:Expr}{es:List Expr}{t:TA}
theorem zpM (G:Mkr X.prog X.w X.K X.mg X.base x C ps j sp)(hr:Room k X.A)(hg:Gl X x)(ha:PA X (e::es) t)(hj:j+1<=k:=by decide)(hdb:(x == ("__debug__" : Str))=false:=by decide)
  (he:starEach (e::es) X.env=(false,eval e X.env)::starEach es X.env:=by rfl) (hpl:(backTo pos (starEach es X.env)).any (·.1)=false:=by rfl):PE X (.Call (.Name x p) (e::es) [] pos) (zhs C sp [] E0 t):=by
 obtain⟨f,fd,M,F,hb,hm⟩:=G.ex
 exact zmr M F (hr.mono hj) hg hm hb .nil zbi ha hdb he hpl
theorem zrq(h:t σ H λvs H1=>∀ y dx,H1 y=none->H1 dx=none->dx≠y->sp (.ref y::vs) (upd (upd H1 dx (.own y)) y (.ins C dx [])) (λv H2=>v=.non/\Q (.ref y) H2) E0):zhs C sp [] E0 t σ H Q:=by
 have e:(λ(vs:List V) (H1:Hp)=>∀ y dx,H1 y=none->H1 dx=none->dx≠y->sp (.ref y::(vs++[])) (upd (upd H1 dx (.own y)) y (.ins C dx [])) (λv H2=>v=.non/\Q (.ref y) H2) E0)
   = λvs H1=>∀ y dx,H1 y=none->H1 dx=none->dx≠y->sp (.ref y::vs) (upd (upd H1 dx (.own y)) y (.ins C dx [])) (λv H2=>v=.non/\Q (.ref y) H2) E0:=by funext vs H1;rw[List.append_nil]
 show t σ H λvs H1=>∀ y dx,H1 y=none->H1 dx=none->dx≠y->sp (.ref y::(vs++[])) (upd (upd H1 dx (.own y)) y (.ins C dx [])) (λv H2=>v=.non/\Q (.ref y) H2) E0
 rw[e];exact h
end
section
variable {K:Fg}{σ:St}{H:Hp}{Q:VK}{ta tv:TE}{D:Ends}{f:Str}
theorem i_fld (h:ta σ H λx H1=>FldI K f x H1 Q):tFld K ta f σ H Q:=h
theorem zrr (h:tv σ H λy H1=>ta σ H1 λx H2=>FldS K f y x H2 (D.nx σ)):sFld K ta tv f D σ H:=h
end
theorem zpN{r r':R2}{tb tc:TE}(h:ta σ H λx H1=>tb σ H1 λy H2=>r x y H2 λz H3=>∃ k,z=.bl k/\if k=true then tc σ H3 λw H4=>r' y w H4 Q else Q (.bl false) H3):zmj r r' ta tb tc σ H Q:=h
theorem zaj.nil: zaj H [] [] []:=by unfold zaj;exact⟨rfl,rfl⟩
theorem zaj.cint(h:zaj H ds xs fp):zaj H (.int i::ds) (.int i::xs) fp:=by
 unfold zaj;exact⟨_,_,[],fp,rfl,rfl,by unfold RepF;exact⟨rfl,rfl⟩,h⟩
theorem zaj.cany{f:List Addr}(q:RepF H d v f)(h:zaj H ds xs fp):zaj H (d::ds) (v::xs) (f++fp):=by
 unfold zaj;exact⟨_,_,f,fp,rfl,rfl,q,h⟩
theorem RepF.line(h:H a=some (.lst (ns.map V.int))):RepF H (nums ns) (.ref a) [a]:=by
 unfold RepF;exact⟨a,_,[],rfl,rfl,h,zaj.ints⟩
theorem RepF.pair{t:Addr}(h:H t=some (.tup [.int i,.int j])):RepF H (.tup [.int i,.int j]) (.ref t) []:=by
 unfold RepF;exact⟨t,_,rfl,h,zaj.nil.cint.cint⟩
theorem zaj.lines: ∀ {ls:List (List Int)}{vs:List V}{fp:List Addr},zaj H (ls.map nums) vs fp->vs=fp.map V.ref/\fp.length=ls.length/\∀ (i:Nat) (a:Addr),fp[i]?=some a->∃ l,ls[i]?=some l/\H a=some (.lst (l.map V.int))
 | [],_,_,h=>by
  rw[List.map_nil] at h;unfold zaj at h
  obtain⟨rfl,rfl⟩:=h
  exact⟨rfl,rfl,λi a e=>by simp at e⟩
 | l::ls,_,_,h=>by
  rw[zmc] at h;unfold zaj at h
  obtain⟨v,r,f,g,rfl,rfl,h1,h2⟩:=h
  obtain⟨rfl,e2,e3⟩:=zaj.lines h2
  unfold RepF at h1
  obtain⟨a,xs,r,rfl,rfl,e4,e5⟩:=h1
  obtain⟨rfl,rfl⟩:=zaj.ints_eq e5
  refine⟨rfl,by simp[e2],λi b e=>?_⟩
  cases i with
  | zero=>simp at e;subst e;exact⟨l,rfl,e4⟩
  | succ i=>exact e3 i b (by simpa using e)
theorem zji: PySem.W.kitOne K (.type "int") (.type "list")=some false:=by rfl
theorem zjj: PySem.W.kitOne K (.type "str") (.type "list")=some false:=by rfl
theorem zhv: PySem.W.kitOne K (.type "tuple") (.type "list")=some false:=by rfl
theorem zoc(h:SqL K H a ys)(q:∀ l,H l=none->Q (.ref l) (upd H l (.tup ys))):zmT K [.ref a] H Q:=⟨a,ys,rfl,.inl ⟨h,q⟩⟩
theorem i_in{neg:Bool}{x:V}(h:SqL K H a xs\/SqT K H a xs)(f1:zeP x=true)(f2:xs.all zeP=true)(q:Q (.bl (if neg then !inV x xs else inV x xs)) H):rIn K neg x (.ref a) H Q:=⟨a,xs,rfl,h,f1,f2,q⟩
theorem zb2(hg:Gl X x)(hm:X.mg x=some (.ref a))(hd:(x == ("__debug__" : Str))=false:=by decide):PE X (.Name x pos) (tC (.ref a)):=zl3 hg hm rfl hd
def News (H H':Hp)(ds:List D)(vs:List V):Prop:=∃ fp,zaj H' ds vs fp/\fp.Nodup/\∀ a∈fp,H a=none
theorem News.nil: News H H' [] []:=⟨[],zaj.nil,List.nodup_nil,λ_ m=>by cases m⟩
theorem New.news(h:New H H' (.lst ds) v):∃ a vs,v=.ref a/\H a=none/\H' a=some (.lst vs)/\News H H' ds vs:=by
 obtain⟨a,vs,fp,e1,e2,e3,e4,e5,_,e6⟩:=New.lso h
 exact⟨a,vs,e1,e2,e3,fp,e4,e5,e6⟩
def seqO:HO->Bool
 | .lst _=>true
 | .tup _=>true
 | .frz _ _=>true
 | _=>false
def Sq (H H':Hp):Prop:=∀ b o,H b=some o->seqO o=true->H' b=some o
theorem Same.sq(e:Same H H'):Sq H H':=λb o h _=>e b o h
theorem Sq.trans(a:Sq H H1)(b:Sq H1 H2):Sq H H2:=λc o h q=>b c o (a c o h q) q
theorem zeT{u:HO}(h:H p=some u)(n:seqO u=false):Sq H (upd H p o):=λb w e q=>by
 rw[zai (λz=>by rw[z,h] at e;cases e;rw[n] at q;cases q)];exact e
theorem Sq.lst(e:Sq H H')(h:SqL K H a xs):SqL K H' a xs:=by
 rcases h with (h | ⟨o,h⟩) | h
 ·exact .inl (.inl (e _ _ h rfl))
 ·exact .inl (.inr ⟨o,e _ _ h rfl⟩)
 ·exact .inr h
theorem Sq.tup(e:Sq H H')(h:SqT K H a xs):SqT K H' a xs:=by
 rcases h with (h | ⟨o,h⟩) | h
 ·exact .inl (.inl (e _ _ h rfl))
 ·exact .inl (.inr ⟨o,e _ _ h rfl⟩)
 ·exact .inr h
mutual
theorem Rep.sq {K:Fg}{H H':Hp}(e:Sq H H'):∀ (d:D) {v:V},Rep K H d v->Rep K H' d v
 | .non,_,h=>by unfold Rep at *;exact h
 | .bl _,_,h=>by unfold Rep at *;exact h
 | .int _,_,h=>by unfold Rep at *;exact h
 | .str _,_,h=>by unfold Rep at *;exact h
 | .lst ds,_,h=>by
  unfold Rep at *
  obtain⟨a,xs,h1,h2,h3⟩:=h
  exact⟨a,xs,h1,e.lst h2,Reps.sq e ds h3⟩
 | .tup ds,_,h=>by
  unfold Rep at *
  obtain⟨a,xs,h1,h2,h3⟩:=h
  exact⟨a,xs,h1,e.tup h2,Reps.sq e ds h3⟩
theorem Reps.sq {K:Fg}{H H':Hp}(e:Sq H H'):∀ (ds:List D) {vs:List V},Reps K H ds vs->Reps K H' ds vs
 | [],_,h=>by unfold Reps at *;exact h
 | d::ds,_,h=>by
  unfold Reps at *
  obtain⟨v,r,h1,h2,h3⟩:=h
  exact⟨v,r,h1,Rep.sq e d h2,Reps.sq e ds h3⟩
end
mutual
theorem RepF.sq {H H':Hp}(e:Sq H H'):∀ (d:D) {v:V}{fp:List Addr},RepF H d v fp->RepF H' d v fp
 | .non,_,_,h=>by unfold RepF at *;exact h
 | .bl _,_,_,h=>by unfold RepF at *;exact h
 | .int _,_,_,h=>by unfold RepF at *;exact h
 | .str _,_,_,h=>by unfold RepF at *;exact h
 | .lst ds,_,_,h=>by
  unfold RepF at *
  obtain⟨a,xs,r,h1,h0,h2,h3⟩:=h
  exact⟨a,xs,r,h1,h0,e _ _ h2 rfl,zaj.sq e ds h3⟩
 | .tup ds,_,_,h=>by
  unfold RepF at *
  obtain⟨a,xs,h1,h2,h3⟩:=h
  exact⟨a,xs,h1,e _ _ h2 rfl,zaj.sq e ds h3⟩
theorem zaj.sq {H H':Hp}(e:Sq H H'):∀ (ds:List D) {vs:List V}{fp:List Addr},zaj H ds vs fp->zaj H' ds vs fp
 | [],_,_,h=>by unfold zaj at *;exact h
 | d::ds,_,_,h=>by
  unfold zaj at *
  obtain⟨v,r,f,g,h1,h0,h2,h3⟩:=h
  exact⟨v,r,f,g,h1,h0,RepF.sq e d h2,zaj.sq e ds h3⟩
end
def Free (H H':Hp):Prop:=∀ a,H' a=none->H a=none
theorem Same.fr(e:Same H H'):Free H H':=λ_ h=>e.free h
theorem Free.trans(a:Free H H1)(b:Free H1 H2):Free H H2:=λc h=>a c (b c h)
theorem zds: Free H (upd H p o):=λa h=>by
 by_cases e:a=p
 ·subst e;rw[zaa] at h;cases h
 ·rw[zai e] at h;exact h
theorem News.sq(e:Sq H1 H2)(h:News H H1 ds vs):News H H2 ds vs:=by
 obtain⟨fp,h1,h2,h3⟩:=h
 exact⟨fp,zaj.sq e ds h1,h2,h3⟩
theorem New.sq(e:Sq H1 H2)(h:New H H1 d v):New H H2 d v:=by
 obtain⟨fp,h1,h2,h3⟩:=h
 exact⟨fp,RepF.sq e d h1,h2,h3⟩
theorem News.snoc'(h:News H H1 ds vs)(e:Free H H1)(e2:Same H1 H2)(n:New H1 H2 d v):News H H2 (ds++[d]) (vs++[v]):=by
 obtain⟨fp,h1,h2,h3⟩:=h
 obtain⟨fq,g1,g2,g3⟩:=n
 refine⟨fp++fq,(zaj.sq e2.sq ds h1).snoc g1,List.nodup_append.mpr ⟨h2,g2,λa ha b hb z=>?_⟩,λa m=>?_⟩
 ·subst z
  obtain⟨o,ho⟩:=zaj.has ds h1 a ha
  have:=g3 a hb
  rw[ho] at this;cases this
 ·rcases zma.mp m with m | m
  ·exact h3 a m
  ·exact e a (g3 a m)
def Part (H:Hp)(d:D)(x:V):Prop:=(∃ i,d=.int i/\x=.int i)\/(∃ s,d=.str s/\x=.str s)\/(∃ b l,d=nums l/\x=.ref b/\H b=some (.lst (l.map V.int)))\/∃ b i j,d=.tup [.int i,.int j]/\x=.ref b/\H b=some (.tup [.int i,.int j])
def zc5 (H:Hp)(d:D)(v:V):Prop:=∃ t xs ds,d=.tup ds/\v=.ref t/\H t=some (.tup xs)/\ds.length=xs.length/\ds.length<=8/\∀ (i:Nat) dd x,ds[i]?=some dd->xs[i]?=some x->Part H dd x
theorem Part.sq(e:Sq H H'){x:V}(h:Part H d x):Part H' d x:=by
 rcases h with h | h | ⟨b,l,h1,h2,h3⟩ | ⟨b,i,j,h1,h2,h3⟩
 ·exact .inl h
 ·exact .inr (.inl h)
 ·exact .inr (.inr (.inl ⟨b,l,h1,h2,e _ _ h3 rfl⟩))
 ·exact .inr (.inr (.inr ⟨b,i,j,h1,h2,e _ _ h3 rfl⟩))
theorem zc5.sq(e:Sq H H')(h:zc5 H d v):zc5 H' d v:=by
 obtain⟨t,xs,ds,h1,h2,h3,h4,h5,h6⟩:=h
 exact⟨t,xs,ds,h1,h2,e _ _ h3 rfl,h4,h5,λi dd x e1 e2=>(h6 i dd x e1 e2).sq e⟩
def zmX (d:D):Prop:=(∃ i,d=.int i)\/(∃ s,d=.str s)\/(∃ l,l.length=9/\d=nums l)\/∃ i j,d=.tup [.int i,.int j]
theorem zpO(s:zmX d)(h:RepF H d v fp):Part H d v:=by
 rcases s with ⟨i,rfl⟩ | ⟨i,rfl⟩ | ⟨l,_,rfl⟩ | ⟨i,j,rfl⟩
 ·unfold RepF at h;exact .inl ⟨i,rfl,h.1⟩
 ·unfold RepF at h;exact .inr (.inl ⟨i,rfl,h.1⟩)
 ·unfold RepF at h
  obtain⟨a,xs,r,h1,_,h2,h3⟩:=h
  obtain⟨rfl,_⟩:=zaj.ints_eq h3
  exact .inr (.inr (.inl ⟨a,l,rfl,h1,h2⟩))
 ·unfold RepF at h
  obtain⟨a,xs,h1,h2,h3⟩:=h
  have q:=zaj.ints_eq (ns:=[i,j]) h3
  rw[q.1] at h2
  exact .inr (.inr (.inr ⟨a,i,j,rfl,h1,h2⟩))
theorem zk7: ∀ {ds:List D}{xs:List V}{fp:List Addr},(∀ d∈ds,zmX d)->zaj H ds xs fp->∀ (i:Nat) dd x,ds[i]?=some dd->xs[i]?=some x->Part H dd x
 | [],_,_,_,_,i,dd,x,e,_=>by simp at e
 | d::ds,_,_,s,h,i,dd,x,e1,e2=>by
  unfold zaj at h
  obtain⟨v,r,f,g,rfl,_,h1,h2⟩:=h
  cases i with
  | zero=>simp at e1 e2;subst e1;subst e2;exact zpO (s d List.mem_cons_self) h1
  | succ i=>exact zk7 (λc hc=>s c (List.mem_cons_of_mem _ hc)) h2 i dd x (by simpa using e1) (by simpa using e2)
def Deed (d:D):Prop:=∃ ds,d=.tup ds/\ds.length<=8/\∀ c∈ds,zmX c
theorem zmY(s:Deed d)(h:RepF H d v fp):zc5 H d v:=by
 obtain⟨ds,rfl,h8,hs⟩:=s
 unfold RepF at h
 obtain⟨a,xs,h1,h2,h3⟩:=h
 exact⟨a,xs,ds,rfl,h1,h2,h3.length,h8,zk7 hs h3⟩
def Acc (H:Hp)(da:Addr)(H2:Hp)(ds:List D)(vs:List V):Prop:=∃ fp,H2 da=some (.lst vs)/\zaj H2 ds vs fp/\fp.Nodup/\da∉fp/\∀ b∈fp,H b=none
variable {da:Addr}
theorem Acc.new(a:Acc H da H2 ds vs)(h:H da=none):New H H2 (.lst ds) (.ref da):=by
 obtain⟨fp,h1,h2,h3,h4,h5⟩:=a
 exact New.lst h2 h3 h5 h h4 h1
theorem zoZ{d1 d2 d3 d4:D}(h:zaj H [d1,d2,d3,d4] vs fp):∃ x1 x2 x3 x4 f1 f2 f3 f4,vs=[x1,x2,x3,x4]/\RepF H d1 x1 f1/\RepF H d2 x2 f2/\RepF H d3 x3 f3/\RepF H d4 x4 f4:=by
 unfold zaj at h
 obtain⟨x1,_,f1,_,rfl,_,h1,h⟩:=h
 unfold zaj at h
 obtain⟨x2,_,f2,_,rfl,_,h2,h⟩:=h
 unfold zaj at h
 obtain⟨x3,_,f3,_,rfl,_,h3,h⟩:=h
 unfold zaj at h
 obtain⟨x4,_,f4,_,rfl,_,h4,h⟩:=h
 unfold zaj at h
 obtain⟨rfl,_⟩:=h
 exact⟨x1,x2,x3,x4,f1,f2,f3,f4,rfl,h1,h2,h3,h4⟩
theorem RepF.lso{x:V}(h:RepF H (.lst ds) x fp):∃ b xs r,x=.ref b/\H b=some (.lst xs)/\zaj H ds xs r:=by
 unfold RepF at h
 obtain⟨b,xs,r,e1,_,e3,e4⟩:=h
 exact⟨b,xs,r,e1,e3,e4⟩
theorem zaj.item: ∀ {ds:List D}{xs:List V}{fp:List Addr},zaj H ds xs fp->∀ (i:Nat) d x,ds[i]?=some d->xs[i]?=some x->∃ f,RepF H d x f
 | [],_,_,_,i,d,x,e,_=>by simp at e
 | c::ds,_,_,h,i,d,x,e1,e2=>by
  unfold zaj at h
  obtain⟨v,r,f,g,rfl,_,h1,h2⟩:=h
  cases i with
  | zero=>simp at e1 e2;subst e1;subst e2;exact⟨f,h1⟩
  | succ i=>exact zaj.item h2 i d x (by simpa using e1) (by simpa using e2)
variable {Y:Prop}
theorem zdK{b:Bool}{X:Prop}(h1:b=true->X)(h2:b=false->Y):∃ c,V.bl b=.bl c/\(if c=true then X else Y):=by
 cases b with
 | true=>exact⟨true,rfl,iteT (h1 rfl)⟩
 | false=>exact⟨false,rfl,iteF (h2 rfl)⟩
theorem zeQ{b:Bool}{X:Prop}(h1:b=true->X)(h2:b=false->Y):(if b=true then X else Y):=by
 cases b with
 | true=>exact iteT (h1 rfl)
 | false=>exact iteF (h2 rfl)
theorem zrs(h1:SqT K H a xs)(h2:SqT K H b ys)(nx:xs≠[])(ny:ys≠[])(z:xs.length+ys.length<=sizeLine)(q:∀ p,H p=none->Q (.ref p) (upd H p (.tup (xs++ys)))):zkd K (.ref a) (.ref b) H Q:=
 .inr (.inr ⟨a,b,xs,ys,rfl,rfl,h1,h2,nx,z,λe=>absurd e ny,λ_=>q⟩)
theorem zeq(h:Rep K H (.tup ds) v):∃ a xs,v=.ref a/\SqT K H a xs/\Reps K H ds xs:=by unfold Rep at h;exact h
open PySem.W
theorem zbI.has{h:Heap}(x:zbI P w H h a o):∃ u,h.get? a=some u:=by
 cases o with
 | lst xs=>obtain⟨_,_,_,_,e⟩:=x;exact⟨_,e⟩
 | tup xs=>obtain⟨_,_,_,_,e,_⟩:=x;exact⟨_,e⟩
 | dK kvs=>obtain⟨_,_,_,_,o,_,_,e,_⟩:=x;exact⟨_,e⟩
 | dT kvs=>obtain⟨_,_,_,_,o,_,_,e,_⟩:=x;exact⟨_,e⟩
 | set S n=>obtain⟨o,_,_,_,e,_⟩:=x;exact⟨_,e⟩
 | ins C dx fs=>obtain⟨_,_,_,e,_⟩:=x;exact⟨_,e⟩
 | own y=>obtain⟨_,e⟩:=x;exact⟨_,e⟩
 | xd fs=>obtain⟨_,⟨_,_,_,e,_⟩,_⟩:=x;exact⟨_,e⟩
 | rng lo hi=>obtain⟨_,_,_,e⟩:=x;exact⟨_,e⟩
 | frz ob u=>obtain⟨e,_⟩:=x;exact⟨_,e⟩
 | tbl ps=>exact⟨_,show h.get? a=some _ from x⟩
 | met f y=>exact⟨_,show h.get? a=some _ from x⟩
 | ext φ=>obtain⟨_,⟨_,e⟩,_⟩:=x;exact⟨_,e⟩
def zjk (h:Heap)(e T:Addr)(cls fl:Value):Prop:=∃ oe vs oT ts,h.get? e=some oe/\oe.cls=cls/\oe.dict=none/\oe.data=.fields vs/\vs[1]?=some (.ref T)/\T≠e/\h.get? T=some oT/\oT.data=.fields ts/\ts[3]?=some fl
def zgT (fr as:List Addr)(h h':Heap):Prop:=(∀ b o,h.get? b=some o->b∉fr->b∉as->h'.get? b=some o)/\∀ b o,h.get? b=some o->b∈fr->b∉as->∃ sl,h'.get? b=some {o with slots:=sl}
variable {as:List Addr}
theorem zgT.up{fr:List Addr}{h:Heap}(k:zgT fr as h h'){o:Obj}(e:h.get? b=some o)(n:b∉as):∃ sl,h'.get? b=some {o with slots:=sl}:=by
 by_cases m:b∈fr
 ·exact k.2 b o e m n
 ·exact⟨o.slots,k.1 b o e m n⟩
variable {T L:Addr}{outer:List Env}{oe:Obj}
section
variable {M:Model}{A:Around}{E:Value->Shared->Prop}{s:Shared}
variable {Q:Unit->Shared->Prop}
theorem zjl{vs:Array Value}{head:Value}{hadNext:Bool}(hfr:A.frames=some (env::outer))(hl:s.heap.FunFrames base (env::outer))(hf:env.frame=some L)(he:s.heap.get? e=some oe)(hd:oe.data=.fields vs)(hsz:1<vs.size)(hdi:oe.dict=none)(h:∀ h' T,s.heap.get? T=none->zjk h' e T oe.cls (rawInt L)->zgT (frs (env::outer)) [e] s.heap h'->Q () {s with heap:=h'}):
  wpAny M A (do let a <-frameOf env;let pl <-entryPlaceOf L hadNext;let b <-EntryCells.newEntry head a .none (rawInt L) .none pl;setField (.ref e) 1 b) Q E s:=by
 have hene:e∉(env::outer).filterMap (·.frame):=λhm=>by
  obtain⟨_,o,ho,hnf⟩:=hl.mem hm
  rw[he] at ho;injection ho with ho;subst ho;exact hnf vs hd
 refine wpAny_bind (wpAny_frameOf_fun hfr hl hf λh₁ hs₁=>?_)
 refine wpAny_bind (wpAny_entryPlaceOf λpl hpl=>?_)
 unfold EntryCells.newEntry newFields
 refine wpAny_bind (wpAny_newObj_type ?_ (hpl.sizeOk5 _ _ _ _ _))
 have he₁:h₁.get? e=some oe:=(hs₁.2.1 e hene).trans he
 have he₂:=Heap.get?_push_of_some (h:=h₁) {cls:=.type "traceback",dict:=none,data:=.fields ([head,.ref L,.none,rawInt L,.none]++(if pl.isEmpty then List.replicate 6 Value.none else pl)).toArray} he₁
 refine wpAny_setField he₂ hd hsz (h _ h₁.objs.size (Heap.get?_none_of_le (by rw[hs₁.1];exact Nat.le_refl _)) ?_ ?_)
 ·have hTe:h₁.objs.size≠e:=Nat.ne_of_gt (Heap.lt_size he₁)
  have hd₃:=Obj.data_mapFields hd (·.setIfInBounds 1 (Value.ref h₁.objs.size))
  have he₃:=Heap.get?_update_self (Obj.mapFields (·.setIfInBounds 1 (Value.ref h₁.objs.size))) he₂ (Obj.isFreed_of_fields hd₃)
  have hT₃:=(Heap.get?_update_other (h₁.push {cls:=.type "traceback",dict:=none,data:=.fields ([head,.ref L,.none,rawInt L,.none]++(if pl.isEmpty then List.replicate 6 Value.none else pl)).toArray})
   (Obj.mapFields (·.setIfInBounds 1 (Value.ref h₁.objs.size))) (Ne.symm hTe)).trans (Heap.get?_push_size h₁ rfl)
  refine⟨_,_,_,_,he₃,Obj.cls_mapFields _ _,?_,hd₃,by simp[hsz],hTe,hT₃,rfl,by first | (simp;done) | (rcases hpl with rfl | ⟨_,_,_,_,_,_,_,rfl⟩ <;> simp)⟩
  obtain⟨c,di,dt,sl⟩:=oe
  cases hd
  exact hdi
 ·have keep:∀ b o,b≠e->h₁.get? b=some o->((h₁.push {cls:=.type "traceback",dict:=none,data:=.fields ([head,.ref L,.none,rawInt L,.none]++(if pl.isEmpty then List.replicate 6 Value.none else pl)).toArray}).update e (Obj.mapFields (·.setIfInBounds 1 (Value.ref h₁.objs.size)))).get? b=some o:=λb o hbe hb=>by
   rw[Heap.get?_update_other _ _ (Ne.symm hbe)]
   exact Heap.get?_push_of_some _ hb
  refine⟨λb o eb n1 n2=>keep b o (λz=>n2 (by simp[z])) ((hs₁.2.1 b n1).trans eb),λb o eb m n=>?_⟩
  obtain⟨sl,hsl⟩:=hs₁.2.2 b o eb
  exact⟨sl,keep b _ (λz=>n (by simp[z])) hsl⟩
theorem zgx{fr:List Addr}{cls fl:Value}(F:zjk s.heap e T cls fl)(h:∀ h',zjk h' e T cls .none->zgT fr [T] s.heap h'->Q () {s with heap:=h'}):wpAny M A (setFlight (.ref e) none) Q E s:=by
 obtain⟨oe,vs,oT,ts,he,hcls,hdi,hd,h1,hTe,hT,hdT,h3⟩:=F
 have hsz3:3<ts.size:=(Array.getElem?_eq_some_iff.mp h3).1
 have other:∀ b,b≠T->(s.heap.update T (Obj.mapFields (·.setIfInBounds 3 ((none:Option Addr).elim Value.none λf=>rawInt f)))).get? b=s.heap.get? b:=λb hb=>Heap.get?_update_other _ _ (Ne.symm hb)
 unfold setFlight
 refine wpAny_bind (wpAny_field he hd h1 ?_)
 rw[if_pos (show (Value.ref T != Value.none)=true from by simp)]
 refine wpAny_setField hT hdT hsz3 (h _ ?_ ⟨λb o e n1 n2=>(other b (λz=>n2 (by simp[z]))).trans e,λb o e m n=>⟨o.slots,(other b (λz=>n (by simp[z]))).trans e⟩⟩)
 exact⟨oe,vs,_,_,(other e (Ne.symm hTe)).trans he,hcls,hdi,hd,h1,hTe,Heap.get?_update_self _ hT (Obj.isFreed_of_fields (Obj.data_mapFields hdT _)),Obj.data_mapFields hdT _,by simp[hsz3]⟩
theorem zk8{cls:Value}(hfr:A.frames=some (env::outer))(hl:s.heap.FunFrames base (env::outer))(hf:env.frame=some L)(F:zjk s.heap e T cls .none)(h:∀ h' T',s.heap.get? T'=none->zjk h' e T' cls (rawInt L)->zgT (frs (env::outer)) [e,T] s.heap h'->Q () {s with heap:=h'}):wpAny M A (noteFrame (.ref e) env) Q E s:=by
 obtain⟨oe,vs,oT,ts,he,hcls,hdi,hd,h1,hTe,hT,hdT,h3⟩:=F
 subst hcls
 have hsz3:3<ts.size:=(Array.getElem?_eq_some_iff.mp h3).1
 have other:∀ b,b≠T->(s.heap.update T (Obj.mapFields (·.setIfInBounds 3 Value.none))).get? b=s.heap.get? b:=λb hb=>Heap.get?_update_other _ _ (Ne.symm hb)
 have noRecord:∀ b o,s.heap.get? b=some o->(∀ vs,o.data≠.fields vs)->b≠T:=λb o hb hnf q=>by
  rw[q,hT] at hb;injection hb with hb;subst hb;exact hnf ts hdT
 unfold noteFrame
 simp only[hf]
 refine wpAny_bind (wpAny_field he hd h1 ?_)
 rw[if_pos (show (Value.ref T != Value.none)=true from by simp)]
 refine wpAny_bind (wpAny_field hT hdT h3 ?_)
 rw[if_neg (show ¬ ((Value.none == rawInt L)=true) from by simp[rawInt])]
 refine wpAny_bind (wpAny_setField hT hdT hsz3 ?_)
 refine zjl hfr (hl.of_keeps λb o hb hnf=>⟨o,(other b (noRecord b o hb hnf)).trans hb,rfl⟩) hf ((other e (Ne.symm hTe)).trans he) hd (Array.getElem?_eq_some_iff.mp h1).1 hdi λh' T' n F' k=>?_
 have nT':s.heap.get? T'=none:=by
  by_cases z:T'=T
  ·subst z
   rw[Heap.get?_update_self _ hT (Obj.isFreed_of_fields (Obj.data_mapFields hdT _))] at n
   cases n
  ·rw[<-other T' z];exact n
 refine h h' T' nT' F' ⟨λb o eb n1 n2=>k.1 b o ((other b (λz=>n2 (by simp[z]))).trans eb) n1 (λz=>n2 (by simp at z;simp[z])),λb o eb m n2=>k.2 b o ((other b (λz=>n2 (by simp[z]))).trans eb) m (λz=>n2 (by simp at z;simp[z]))⟩
end
def Fly (h0 h:Heap)(H:Hp)(e:Addr)(cls:Value):Prop:=∃ T,zjk h e T cls .none/\H e=none/\H T=none/\h0.get? e=none/\h0.get? T=none
def CX1 (P:Program)(w:World):CXT:=λouter H s E e s'=>∃ a C H',e=.ref a/\s'.os=s.os/\AllBare s'.gens/\Un (frs outer) [] H H' s.heap s'.heap/\HOk P w H' s'.heap/\Fly s.heap s'.heap H' a C/\E C none H'
variable {s2:Shared}
section
variable {P:Program}{w:World}{K:Fg}{mg:Str->Option Value}{base:Heap}{N:List Str}{qual:Str}{scope:Scope}{f:Addr}{cd:Value}{A:Around}{outer:List Env}{s:Shared}{H:Hp}{E:XK}
theorem zk9(I:Inv X pins σ H2 s2)(hex:X.ex=[])(n:s2.heap.get? b=none):X.s₀.heap.get? b=none:=by
 cases z:X.s₀.heap.get? b with
 | none=>rfl
 | some o=>
  obtain⟨u,hu⟩:=I.base.there b o z (by rw[hex];simp)
  rw[n] at hu;cases hu
theorem zrt(I:Inv X pins σ H2 s2)(n:s2.heap.get? b=none):H2 b=none:=by
 cases z:H2 b with
 | none=>rfl
 | some o=>
  obtain⟨u,hu⟩:=(I.hok b o z).has
  rw[n] at hu;cases hu
variable {C:Value}
theorem zmZ(I:Inv (cxOf (CX1 P w) P w K mg base N qual scope f cd A outer s H E) pins σ H2 s2)(hx:H2 a=none)(hx0:s.heap.get? a=none)(has:∀ b∈as,H2 b=none/\s.heap.get? b=none)(nT:s2.heap.get? T=none)(F:zjk h' a T C .none)(L:zgT (frs (cxOf (CX1 P w) P w K mg base N qual scope f cd A outer s H E).stack) as s2.heap h')(q:E C none H2):CX1 P w outer H s E (.ref a) {s2 with heap:=h'}:=by
 have fr:∀ b,b∈frs (cxOf (CX1 P w) P w K mg base N qual scope f cd A outer s H E).stack->b=s.heap.objs.size\/b∈frs outer:=λb hb=>by
  obtain⟨ev,he,hf⟩:=List.mem_filterMap.mp hb
  rcases List.mem_cons.mp he with z | z
  ·subst z;exact .inl (Option.some.inj hf).symm
  ·exact .inr (List.mem_filterMap.mpr ⟨ev,z,hf⟩)
 have nsz:s.heap.get? s.heap.objs.size=none:=Heap.get?_none_of_le (Nat.le_refl _)
 have hidden:∀ b,s.heap.get? b≠none->b∉as:=λb n m=>n (has b m).2
 refine⟨a,C,H2,rfl,I.os,I.bare,⟨λb o e n nf _=>?_,λb o e n nf _=>?_,λb o e n _=>I.base.free b o e n (by intro m;cases m),λb o e _=>?_,I.base.tups,I.base.frzs,I.base.tbls⟩,λb u e=>?_,⟨T,F,hx,zrt I nT,hx0,zk9 I rfl nT⟩,q⟩
 ·refine L.1 b o (I.base.keep b o e n nf (by intro m;cases m)) (λm=>?_) (hidden b (by rw[e];simp))
  rcases fr b m with z | z
  ·subst z;rw[nsz] at e;cases e
  ·exact nf z
 ·obtain⟨sl,e'⟩:=I.base.slot b o e n nf (by intro m;cases m)
  obtain⟨sl2,e2⟩:=L.up e' (hidden b (by rw[e];simp))
  exact⟨sl2,e2⟩
 ·obtain⟨o2,h2⟩:=I.base.there b o e (by intro m;cases m)
  obtain⟨sl,e5⟩:=L.up h2 (hidden b (by rw[e];simp))
  exact⟨_,e5⟩
 ·refine (I.hok b u e).stay (λc v hc q=>L.1 c v q (λm=>?_) (λm=>?_)) (λ_ q=>q) λ_ _ q=>q
  ·have:=I.stkFree c m
   rcases hc with z | z
   ·subst z;rw[e] at this;cases this
   ·rw[z] at this;cases this
  ·have:=(has c m).1
   rcases hc with z | z
   ·subst z;rw[e] at this;cases this
   ·rw[z] at this;cases this
theorem zod(I:Inv (cxOf (CX1 P w) P w K mg base N qual scope f cd A outer s H E) pins σ H2 s2)(F:Fly s.heap s2.heap H2 a C)(q:E C none H2):(cxOf (CX1 P w) P w K mg base N qual scope f cd A outer s H E).xe (.ref a) s2:=by
 obtain⟨T,F,hx,hT,hx0,hT0⟩:=F
 show wpAny _ _ (leaving _ _) _ _ _
 unfold leaving
 refine wpAny_bind (zk8 (outer:=outer) I.ok.frames I.stack rfl F λh1 T1 n1 F1 k1=>?_)
 refine zgx (fr:=frs (cxOf (CX1 P w) P w K mg base N qual scope f cd A outer s H E).stack) F1 λh2 F2 k2=>?_
 refine zmZ (s2:=s2) (h':=h2) (as:=[a,T]) I hx hx0 (λb m=>?_) n1 F2 ⟨λb o e m n=>k2.1 b o (k1.1 b o e m n) m (λz=>by rw[zms.mp z,n1] at e;cases e),λb o e m n=>?_⟩ q
 ·rcases List.mem_cons.mp m with z | z
  ·subst z;exact⟨hx,hx0⟩
  ·rw[zms.mp z];exact⟨hT,hT0⟩
 ·obtain⟨sl,e1⟩:=k1.2 b o e m n
  obtain⟨sl2,e2⟩:=k2.up e1 (λz=>by rw[zms.mp z,n1] at e;cases e)
  exact⟨sl2,e2⟩
theorem pass1{e:Value}(I:Inv (cxOf (CX1 P w) P w K mg base N qual scope f cd A outer s H E) pins σ H2 s2)(h:CX1 P w (cxOf (CX1 P w) P w K mg base N qual scope f cd A outer s H E).stack H2 s2 E e s3):(cxOf (CX1 P w) P w K mg base N qual scope f cd A outer s H E).xe e s3:=by
 obtain⟨a,C,H3,rfl,os,bare,un,hok,⟨T,F,hx,hT,hx0,hT0⟩,q⟩:=h
 exact zod (I.call' os un hok bare (λb z=>absurd z (by simp))) ⟨T,F,hx,hT,zk9 I rfl hx0,zk9 I rfl hT0⟩ q
theorem zit:zcK (CX1 P w) (cxOf (CX1 P w) P w K mg base N qual scope f cd A outer s H E) E:=λ_ _ _ _ _ _ I h=>pass1 I h
theorem zm0{h3:Heap}{args:List Value}(I:Inv (cxOf (CX1 P w) P w K mg base N qual scope f cd A outer s H E) pins σ H2 s2)(M:Heap.MadeExcOf s2.heap h3 a C args)(q:E C none H2):(cxOf (CX1 P w) P w K mg base N qual scope f cd A outer s H E).xe (.ref a) {s2 with heap:=h3}:=by
 obtain⟨t,he,htn,ht⟩:=M.there
 have I3:Inv (cxOf (CX1 P w) P w K mg base N qual scope f cd A outer s H E) pins σ H2 {s2 with heap:=h3}:=I.un (h':=h3) (t':=s2.toks) (Un.kept M.keeps) (I.hok.kept M.keeps)
 have hx:=zrt I M.new
 have hx0:s.heap.get? a=none:=zk9 I rfl M.new
 show wpAny _ _ (leaving _ _) _ _ _
 unfold leaving noteFrame
 show wpAny _ _ ((do let head <-field (.ref a) 1;_) >>= _) _ _ _
 refine wpAny_bind (wpAny_bind (wpAny_field he rfl (x:=.none) rfl ?_))
 rw[if_neg (by decide)]
 refine zjl (outer:=outer) I3.ok.frames I3.stack rfl he rfl (by simp) rfl λh1 T1 n1 F1 k1=>?_
 refine zgx (fr:=frs (cxOf (CX1 P w) P w K mg base N qual scope f cd A outer s H E).stack) F1 λh2 F2 k2=>?_
 have n1':h3.get? T1=none:=n1
 refine zmZ (s2:={s2 with heap:=h3}) (h':=h2) (as:=[a]) I3 hx hx0 (λb m=>by rw[zms.mp m];exact⟨hx,hx0⟩) n1' F2 ⟨λb o e m n=>k2.1 b o (k1.1 b o e m n) m (λz=>by rw[zms.mp z] at e;rw[show h3.get? T1=some o from e] at n1';cases n1'),λb o e m n=>?_⟩ q
 obtain⟨sl,e1⟩:=k1.2 b o e m n
 obtain⟨sl2,e2⟩:=k2.up e1 (λz=>by rw[zms.mp z] at e;rw[show h3.get? T1=some o from e] at n1';cases n1')
 exact⟨sl2,e2⟩
end
structure Err (K:Fg)(C:Addr)(anc:List Value):Prop where
 ob:∃ nm q N bs hdct sn sub ab col dd k0 k1 k2 k3 k5,K.lookup C=some (excClassObj nm q C N bs anc hdct sn sub ab col dd k0 k1 k2 k3 k5 "ValueError.__new__")
 ex:excIn K C zaR "ValueError.__new__"=true
variable {anc:List Value}
theorem Err.obj{h:Heap}(X:K.In h)(e:Err K C anc):∃ nm q N bs hdct sn sub ab col dd k0 k1 k2 k3 k5 mN,h.get? C=some (excClassObj nm q C N bs anc hdct sn sub ab col dd k0 k1 k2 k3 k5 "ValueError.__new__")/\h.Ns N mN/\mN "__init__"=none/\OwnTail h zaR anc:=by
 obtain⟨⟨nm,q,N,bs,hdct,sn,sub,ab,col,dd,k0,k1,k2,k3,k5,l⟩,x⟩:=e
 unfold excIn at x
 rw[l] at x
 simp only[Bool.and_eq_true,beq_iff_eq,Bool.not_eq_true'] at x
 obtain⟨⟨⟨_,ht⟩,hok⟩,hni⟩:=x
 exact⟨nm,q,N,bs,hdct,sn,sub,ab,col,dd,k0,k1,k2,k3,k5,_,X _ _ l,.of_isNs (isNs_of_in X hok),nsMap_none_of_in X hok hni,tail_of_in X ht⟩
def zo0 (X:Cx)(E:XK):Prop:=∀ (pins:List (Addr × Obj)) (σ:St) (H:Hp) (s:Shared) (h':Heap) (a:Addr) (C:Value) (args:List Value),Inv X pins σ H s->Heap.MadeExcOf s.heap h' a C args->E C none H->X.xe (.ref a) {s with heap:=h'}
variable {E:XK}
theorem zfN{cd:Value}:
  zo0 (cxOf (CX1 P w) P w K mg base N qual scope f cd A outer s H E) E:=λ_ _ _ _ _ _ _ _ I M q=>zm0 I M q
def zo1 (C:Value)(E:XK)(t:TA):TS:=λ_ σ H=>t σ H λvs H1=>vs.length<=sizeLine/\E C none H1
section
variable {X:Cx}{x:Str}{np cpos pos:Pos}{e0:Expr}{rest:List Expr}{C:Addr}{anc:List Value}{E:XK}{t:TA}
theorem zeM (c:Err X.K C anc)(hg:Gl X x)(hm:X.mg x=some (.ref C))(hc:X.calm=true)(ht:zo0 X E)(ha:PA X (e0::rest) t)(he:starEach (e0::rest) X.env=(false,eval e0 X.env)::starEach rest X.env:=by rfl)
  (hpl:(backTo cpos (starEach rest X.env)).any (·.1)=false:=by rfl) (hd:(x == ("__debug__" : Str))=false:=by decide):PS X (.Raise (some (.Call (.Name x np) (e0::rest) [] cpos)) none pos) (zo1 (.ref C) E t):=by
 intro pins s σ H D I h
 obtain⟨nm,q,N,bs,hdct,sn,sub,ab,col,dd,k0,k1,k2,k3,k5,mN,hC,hN,hni,T⟩:=c.obj I.ok.mod.kin
 refine wpAny_Raise_call_subT (C:=C) (nm:=nm) (q:=q) (N:=N) (bs:=bs) (bm:=anc) (hdct:=hdct) (sn:=sn) (sub:=sub) (ab:=ab) (col:=col) (dd:=dd) (k0:=k0) (k1:=k1) (k2:=k2) (k3:=k3) (k5:=k5)
  PySem.F.excBase_ValueError (mN:=mN) (T.hasType PySem.F.excBase_ValueError.hasBase) (I.ok.hd hc) (by rw[he];show (false || (backTo cpos (starEach rest X.env)).any (·.1))=false;rw[hpl];rfl) hni (zdY I hg hm ⟨rfl,?_⟩ hd)
 have h2:=ha cpos pins s σ H _ I h
 rw[he] at h2 ⊢
 refine Calls.evalArgs_plain (wpAny_mono h2 (λus s2 h2=>?_) λ_ _ y=>y)
 obtain⟨vs,H1,I1,r,z,q⟩:=h2
 exact⟨rfl,by rw[<-r.length];exact z,I1.bk _ _ hC,hN.keeps I1.bk,T.keeps I1.bk,λh' e M=>ht pins σ H1 s2 h' e _ _ I1 M q⟩
end
section
variable {P:Program}{w:World}{K:Fg}{mg:Str->Option Value}{base:Heap}
theorem Fun.okx{k:Nat}(F:Fun K x qual st f fd)(S:FSc N ps (zaf st))(len:∀ vs H Q E,sp vs H Q E->vs.length=ps.length)(hbody:∀ (cdv:Value) (A:Around) (outer:List Env) (s:Shared) (H:Hp) (vs:List V) (Q:VK) (E:XK),Room k (A.deeper (envOfC qual (zaf st) s.heap.objs.size f cdv))->sp vs H Q E->
   ∃ t,PSs (cxOf (CX1 P w) P w K mg base N qual (zaf st) f cdv A outer s H E) (zb4 st) t/\t {nx:=λ_ H'=>Q .non H',rt:=Q} (start N vs) H):FnOk P w K mg base (CX1 P w) (k+1) f fd ps sp:=by
 obtain⟨oc,od,kV,doc,pm,an,cdv,ct,osl,rfl,lk,hcd⟩:=F.ex
 exact zqI lk hcd S len λA outer s H vs Q E hr hsp=>hbody cdv A outer s H vs Q E hr hsp
end
structure Fnx (P:Program)(w:World)(K:Fg)(mg:Str->Option Value)(base:Heap)(x:Str)(ps:List Str)(k:Nat)(sp:Sp):Prop where
 ex:∃ f fd,FnOk P w K mg base (CX1 P w) k f fd ps sp/\zef K fd ps []/\PySem.W.keepIn K (.ref f)=true/\mg x=some (.ref f)
structure Mkx (P:Program)(w:World)(K:Fg)(mg:Str->Option Value)(base:Heap)(x:Str)(C:Addr)(ps:List Str)(k:Nat)(sp:Sp):Prop where
 ex:∃ f fd,Mk K C f/\FnOk P w K mg base (CX1 P w) k f fd ps sp/\zef K fd ps []/\mg x=some (.ref C)
structure Mth (CX:CXT)(P:Program)(w:World)(K:Fg)(mg:Str->Option Value)(base:Heap)(C:Addr)(m:Str)(ps:List Str)(k:Nat)(sp:Sp):Prop where
 ex:∃ f fd,Meth K C m f/\FnOk P w K mg base CX k f fd ps sp/\zef K fd ps []
variable {pl:Sem Bool}
section
variable {X:Cx}{CX:CXT}{k j:Nat}{C:Addr}{ps:List Str}{sp:Sp}{E:XK}{x m:Str}{p pos apos:Pos}{e o:Expr}{es:List Expr}{ta:TE}{t:TA}
theorem zru (G:Fnx X.prog X.w X.K X.mg X.base x ps j sp)(hr:Room k X.A)(hg:Gl X x)(hx:zcK (CX1 X.prog X.w) X E)(ha:PA X (e::es) t)(hj:j<=k:=by decide)(hdb:(x == ("__debug__" : Str))=false:=by decide)
  (he:starEach (e::es) X.env=(false,eval e X.env)::starEach es X.env:=by rfl) (hpl:(backTo pos (starEach es X.env)).any (·.1)=false:=by rfl):PE X (.Call (.Name x p) (e::es) [] pos) (zhr sp [] E t):=by
 obtain⟨f,fd,F,hb,hk,hm⟩:=G.ex
 exact zmq (F.mono hj) hr hg hm hk hb .nil hx ha hdb he hpl
theorem zrv (G:Mkx X.prog X.w X.K X.mg X.base x C ps j sp)(hr:Room k X.A)(hg:Gl X x)(hx:zcK (CX1 X.prog X.w) X E)(ha:PA X (e::es) t)(hj:j+1<=k:=by decide)(hdb:(x == ("__debug__" : Str))=false:=by decide)
  (he:starEach (e::es) X.env=(false,eval e X.env)::starEach es X.env:=by rfl) (hpl:(backTo pos (starEach es X.env)).any (·.1)=false:=by rfl):PE X (.Call (.Name x p) (e::es) [] pos) (zhs C sp [] E t):=by
 obtain⟨f,fd,M,F,hb,hm⟩:=G.ex
 exact zmr M F (hr.mono hj) hg hm hb .nil hx ha hdb he hpl
theorem zbc(G:Mth CX X.prog X.w X.K X.mg X.base C m ps j sp)(c:Cls X.K C)(hr:Room k X.A)(hx:zcK CX X E)(he:PE X o ta)(ha:PA X (e::es) t)(hj:j<=k:=by decide)(hst:starEach (e::es) X.env=(false,eval e X.env)::starEach es X.env:=by rfl)(hpl:(backTo pos (starEach es X.env)).any (·.1)=false:=by rfl)(ht:eval (.Call (.Attribute o m apos) (e::es) [] pos) X.env=(do
   let ov <-eval o X.env
   standAt apos.atName
   let (f,first) <-holding [ov] (getMethod ov m pl)
   callWith pos f first (backTo pos (starEach (e::es) X.env)) (backToKw pos (keywordEach [] X.env))):=by rfl):
  PE X (.Call (.Attribute o m apos) (e::es) [] pos) (ziZ C m sp [] E ta t):=by
 obtain⟨f,fd,M,F,hb⟩:=G.ex
 exact zpq he c M (F.mono hj) hr hb .nil hx ha hst hpl ht
theorem zcg(G:Mth CX X.prog X.w X.K X.mg X.base C m ps j sp)(c:Cls X.K C)(hr:Room k X.A)(hx:zcK CX X E)(he:PE X o ta)(hj:j<=k:=by decide)(ht:eval (.Call (.Attribute o m apos) [] [] pos) X.env=(do
   let ov <-eval o X.env
   standAt apos.atName
   let (f,first) <-holding [ov] (getMethod ov m pl)
   callWith pos f first (backTo pos (starEach [] X.env)) (backToKw pos (keywordEach [] X.env))):=by rfl):
  PE X (.Call (.Attribute o m apos) [] [] pos) (ziZ C m sp [] E ta tNil):=by
 obtain⟨f,fd,M,F,hb⟩:=G.ex
 exact znP he c M (F.mono hj) hr hb .nil hx ht
end
section
variable {M:Model}{A:Around}{E:Value->Shared->Prop}{h:Heap}{g:Array GenState}{d:Drawn}{t:Nat}{os:OsState}
variable {nm q nm' q':Str}{C N D N':Addr}{bs bm bs' bm':List Value}{hdct hdct':Bool}{sn sn':List Str}{sub sub':List Value}{ab ab':Bool}{col col':Option Bool}{dd dd':Option Addr}{k0 k1 k2 k3 k5 l0 l1 l2 l3 l5:Option Value}{newId newId':String}
theorem zhw{Q:Bool->Shared->Prop}(hC:h.get? C=some (excClassObj nm q C N bs bm hdct sn sub ab col dd k0 k1 k2 k3 k5 newId))(hD:h.get? D=some (excClassObj nm' q' D N' bs' bm' hdct' sn' sub' ab' col' dd' l0 l1 l2 l3 l5 newId'))(he:h.get? e=some oe)(hcls:oe.cls=.ref C)(hbase:bm'.contains (.type "BaseException")=true)(hq:Q ((Value.ref C::bm).contains (.ref D)) ⟨h,g,d,t,os⟩):wpAny M A (excMatches (.ref e) (.ref D)) Q E ⟨h,g,d,t,os⟩:=by
 have hcB:(Value.ref D::bm').contains (.type "BaseException")=true:=by rw[List.contains_cons,hbase,Bool.or_true]
 have f:=tc_notTuple
 unfold excMatches
 generalize hb:(Value.ref C::bm).contains (.ref D)=b at hq
 repeat (first | (with_reducible refine wpAny_loadPart_at he ?_;rw[hcls]) | with_reducible refine wpAny_loadPart_at hD ?_ | (with_reducible refine wpAny_isSubtype_exc hD ?_;rw[hcB]) | (with_reducible refine wpAny_isSubtype_exc hC ?_;rw[hb]) | wp_step)
 cases b <;> (wp_walk;exact hq)
end
section
variable {X:Cx}{pins:List (Addr × Obj)}{σ:St}{H:Hp}{s:Shared}
def zlI (X:Cx)(pins:List (Addr × Obj))(H:Hp)(b:Addr):Prop:=H b=none/\X.s₀.heap.get? b=none/\b≠X.env.locals/\(∀ x c,X.env.cells.lookup x=some c->c≠b)/\(∀ p∈X.pn++pins,p.1≠b)
theorem zla(I:Inv X pins σ H1 s)(hex:X.ex=[])(n:s.heap.get? b=none)(hH:H b=none):zlI X pins H b:=by
 refine⟨hH,?_,λz=>?_,λx c e z=>?_,λp hp z=>?_⟩
 ·cases q:X.s₀.heap.get? b with
  | none=>rfl
  | some o=>
   obtain⟨u,hu⟩:=I.base.there b o q (by rw[hex];simp)
   rw[n] at hu;cases hu
 ·subst z
  obtain⟨m,⟨o,es,ep,ho,_⟩,_⟩:=I.loc
  rw[n] at ho;cases ho
 ·subst z
  obtain⟨v,o,ho,_⟩:=I.cell x c e
  rw[n] at ho;cases ho
 ·have:=(I.pin p hp).1
  rw[z,n] at this;cases this
theorem Inv.shift(I:Inv X pins σ H s)(keep:∀ b o,s.heap.get? b=some o->b∉frs X.stack->b∉as->h'.get? b=some o)(slot:∀ b o,s.heap.get? b=some o->b∈frs X.stack->b∉as->∃ sl,h'.get? b=some {o with slots:=sl})(has:∀ b∈as,zlI X pins H b):Inv X pins σ H {s with heap:=h'}:=by
 have up:∀ b o,s.heap.get? b=some o->b∉as->∃ sl,h'.get? b=some {o with slots:=sl}:=λb o e n=>by
  by_cases m:b∈frs X.stack
  ·exact slot b o e m n
  ·exact⟨o.slots,keep b o e m n⟩
 have neL:∀ b o,X.s₀.heap.get? b=some o->b≠X.env.locals:=λb o e=>Nat.ne_of_lt (Nat.lt_of_lt_of_le (Heap.lt_size e) I.ok.above)
 have neA:∀ b o,X.s₀.heap.get? b=some o->b∉as:=λb o e m=>by rw[(has b m).2.1] at e;cases e
 have stk:∀ b,b≠X.env.locals->b∉X.fs->b∉frs X.stack:=λb n1 n m=>(List.mem_cons.mp (I.stkSub b m)).elim n1 n
 have cellK:∀ x c,X.env.cells.lookup x=some c->∀ v,s.heap.IsCell c v->h'.IsCell c v:=λx c e v ⟨o,ho,hd⟩=>by
  obtain⟨sl,q⟩:=up c o ho (λz=>(has c z).2.2.2.1 x c e rfl)
  exact⟨_,q,hd⟩
 refine⟨I.ok,I.os,I.bare,⟨λb o e n hb hx=>?_,λb o e n hb hx=>?_,I.base.free,λb o e hx=>?_,I.base.tups,I.base.frzs,I.base.tbls⟩,?_,λx c e=>?_,I.free,I.freeC,λp hp=>?_,λb u e=>?_,I.len⟩
 ·exact keep b o (I.base.keep b o e n hb hx) (stk b (neL b o e) hb) (neA b o e)
 ·obtain⟨sl,e1⟩:=I.base.slot b o e n hb hx
  obtain⟨sl',e2⟩:=up b _ e1 (neA b o e)
  exact⟨sl',e2⟩
 ·obtain⟨o',e1⟩:=I.base.there b o e hx
  obtain⟨sl,e2⟩:=up b o' e1 (neA b o e)
  exact⟨_,e2⟩
 ·obtain⟨m,⟨o,es,ep,ho,r⟩,hl⟩:=I.loc
  obtain⟨sl,hL⟩:=up _ o ho (λz=>(has _ z).2.2.1 rfl)
  refine⟨m,⟨_,es,ep,hL,r⟩,λi x v e1 e2 e3=>?_⟩
  obtain⟨u,r,l⟩:=hl i x v e1 e2 e3
  refine⟨u,r,?_⟩
  rcases l with l | ⟨l,c,e,z⟩
  ·exact .inl l
  ·exact .inr ⟨l,c,e,cellK x c e _ z⟩
 ·obtain⟨v,z⟩:=I.cell x c e
  exact⟨v,cellK x c e v z⟩
 ·obtain⟨e,n,ne,nf,d⟩:=I.pin p hp
  exact⟨keep _ _ e (stk _ ne nf) (λm=>(has _ m).2.2.2.2 p hp rfl),n,ne,nf,d⟩
 ·refine (I.hok b u e).stay (λc v hc q=>keep c v q (λm=>?_) (λm=>?_)) (λ_ q=>q) λ_ _ q=>q
  ·have:=I.stkFree c m
   rcases hc with z | z
   ·subst z;rw[e] at this;cases this
   ·rw[z] at this;cases this
  ·have:=(has c m).1
   rcases hc with z | z
   ·subst z;rw[e] at this;cases this
   ·rw[z] at this;cases this
end
def XP (X:Cx)(pins:List (Addr × Obj))(σ:St)(E:XK)(e:Value)(s':Shared):Prop:=∃ a C H' s1 H1,e=.ref a/\Inv X pins σ H1 s1/\Inv X pins σ H' s'/\Fly s1.heap s'.heap H' a C/\E C none H'
def PEx (X:Cx)(e:Expr)(t:XK->TE):Prop:=
 ∀ (pins:List (Addr × Obj)) (s:Shared) (σ:St) (H:Hp) (Q:VK) (E:XK),Inv X pins σ H s->t E σ H Q->wpAny (model X.prog X.w) X.A (eval e X.env) (EP X pins σ Q) (XP X pins σ E) s
def PSx (X:Cx)(st:Stmt)(t:XK->TS):Prop:=
 ∀ (pins:List (Addr × Obj)) (s:Shared) (σ:St) (H:Hp) (D:Ends) (E:XK),Inv X pins σ H s->t E D σ H->wpAny (model X.prog X.w) X.A (exec st X.env) (SP X pins D) (XP X pins σ E) s
def PSxs (X:Cx)(st:List Stmt)(t:XK->TS):Prop:=
 ∀ (pins:List (Addr × Obj)) (s:Shared) (σ:St) (H:Hp) (D:Ends) (E:XK),Inv X pins σ H s->t E D σ H->wpAny (model X.prog X.w) X.A (execs st X.env) (SP X pins D) (XP X pins σ E) s
variable {M:Model}
theorem nxm{t:Sem α}{Q Q':α->Shared->Prop}{E:Value->Shared->Prop}(h:wpAny M A t Q (λ_ _=>False) s)(hQ:∀ a s,Q a s->Q' a s):wpAny M A t Q' E s:=wpAny_mono h hQ λ_ _ x=>x.elim
section
variable {X:Cx}{k j:Nat}{f C:Addr}{fd:FuncData}{ps:List Str}{sp:Sp}{x m:Str}{p pos apos:Pos}{e o:Expr}{es:List Expr}{ta:TE}{t:TA}{E:XK}{pins:List (Addr × Obj)}{σ:St}{H:Hp}{s:Shared}{Q:VK}{us:List Value}{vs:List V}
theorem zm1 (F:FnOk X.prog X.w X.K X.mg X.base (CX1 X.prog X.w) k f fd ps sp)(hr:Room k X.A)(hb:zef X.K fd ps [])(I:Inv X pins σ H s)(r:Vals vs us)(h:sp vs H Q E) :
  wpAny (model X.prog X.w) X.A (call (.ref f) us) (EP X pins σ Q) (XP X pins σ E) s:=by
 have hl:(us++[]).length=ps.length:=by rw[List.append_nil,<-r.length];exact F.len _ _ _ _ h
 refine wpAny_call (codeAny_mono (F.run X.A X.stack s H ⟨us,[]⟩ us vs Q E hr I.env0 (by have:=hb s us I.kIn hl;rwa [List.append_nil] at this) r h) λr s' hq=>?_)
 cases r with
 | error e=>
  obtain⟨a,C,H3,rfl,os,bare,un,hok,F,q⟩:=hq
  exact⟨a,C,H3,s,H,rfl,I,I.call' os un hok bare (λb z=>absurd z (by simp)),F,q⟩
 | ok fl=>
  cases fl with
  | ret u=>exact I.after hq
  | next=>exact False.elim hq
  | brk=>exact False.elim hq
  | cont=>exact False.elim hq
theorem zrw (G:Fnx X.prog X.w X.K X.mg X.base x ps j sp)(hr:Room k X.A)(hg:Gl X x)(ha:PA X.nox (e::es) t)(hj:j<=k:=by decide)(hdb:(x == ("__debug__" : Str))=false:=by decide)
  (he:starEach (e::es) X.env=(false,eval e X.env)::starEach es X.env:=by rfl) (hpl:(backTo pos (starEach es X.env)).any (·.1)=false:=by rfl):PEx X (.Call (.Name x p) (e::es) [] pos) (λE=>zhr sp [] E t):=by
 obtain⟨f,fd,F,hb,hk,hm⟩:=G.ex
 intro pins s σ H Q E I h
 refine wpAny_Call_Name_kw (zdY I hg hm ?_ hdb)
 refine PySem.W.callWith_K (h₀:=X.base) I.ok.mod.kin hk (nxm (ha pos pins s σ H _ (I.wish _) h) λus s1 ⟨vs,H1,I1,r,q⟩=>⟨I1.unwish.kIn,?_⟩) he hpl
 have q':sp (vs++[]) H1 Q E:=q
 rw[List.append_nil] at q'
 exact zm1 F (hr.mono hj) hb I1.unwish r q'
theorem zpP(G:Mth (CX1 X.prog X.w) X.prog X.w X.K X.mg X.base C m ps j sp)(c:Cls X.K C)(hr:Room k X.A)(ho:PE X.nox o ta)(ha:PA X.nox (e::es) t)(hj:j<=k:=by decide)(hst:starEach (e::es) X.env=(false,eval e X.env)::starEach es X.env:=by rfl)(hpl:(backTo pos (starEach es X.env)).any (·.1)=false:=by rfl)(ht:eval (.Call (.Attribute o m apos) (e::es) [] pos) X.env=(do
   let ov <-eval o X.env
   standAt apos.atName
   let (f,first) <-holding [ov] (getMethod ov m pl)
   callWith pos f first (backTo pos (starEach (e::es) X.env)) (backToKw pos (keywordEach [] X.env))):=by rfl):
  PEx X (.Call (.Attribute o m apos) (e::es) [] pos) (λE=>ziZ C m sp [] E ta t):=by
 obtain⟨f,fd,M,F,hb⟩:=G.ex
 intro pins s σ H Q E I h
 refine PySem.W.methodCall_KW (pl:=pl) (nxm (ho pins s σ H _ (I.wish _) h) λu s1 ⟨x,H1,I1,rx,a,dx,fs,ex,ea,l,q⟩=>?_) ht
 subst ex
 obtain rfl:u=Value.ref a:=rx
 refine zeJ I1.unwish ea c M l ?_
 refine PySem.W.callWith_K (first:=[.ref a]) (h₀:=X.base) I.ok.mod.kin M.kp (nxm (ha pos pins s1 σ H1 _ I1 q) λus s2 ⟨vs,H2,I2,r,q2⟩=>⟨I2.unwish.kIn,?_⟩) hst hpl
 have q':sp (V.ref a::(vs++[])) H2 Q E:=q2
 rw[List.append_nil] at q'
 exact zm1 (us:=.ref a::us) (vs:=.ref a::vs) F (hr.mono hj) hb I2.unwish (.cons rfl r) q'
theorem zrx (G:Mkx X.prog X.w X.K X.mg X.base x C ps j sp)(hr:Room k X.A)(hg:Gl X x)(ha:PA X.nox (e::es) t)(hj:j+1<=k:=by decide)(hdb:(x == ("__debug__" : Str))=false:=by decide)
  (he:starEach (e::es) X.env=(false,eval e X.env)::starEach es X.env:=by rfl) (hpl:(backTo pos (starEach es X.env)).any (·.1)=false:=by rfl):PEx X (.Call (.Name x p) (e::es) [] pos) (λE=>zhs C sp [] E t):=by
 obtain⟨f,fd,M,F,hb,hm⟩:=G.ex
 intro pins s σ H Q E I h
 refine wpAny_Call_Name_kw (zdY I hg hm ?_ hdb)
 refine PySem.W.callWith_K (h₀:=X.base) I.ok.mod.kin M.kp (nxm (ha pos pins s σ H _ (I.wish _) h) λus s1 ⟨vs,H1,I1',r,h⟩=>⟨I1'.unwish.kIn,?_⟩) he hpl
 have I1:=I1'.unwish
 have hq:=h (s1.heap.objs.size+1) s1.heap.objs.size (I1.hok.fresh (Nat.le_succ _)) (I1.hok.fresh (Nat.le_refl _)) (Nat.ne_of_lt (Nat.lt_succ_self _))
 rw[List.append_nil] at hq
 have I2:=Inv.made (C:=C) I1
 have r2:Vals (V.ref (s1.heap.objs.size+1)::vs) (Value.ref (s1.heap.objs.size+1)::us):=.cons rfl r
 have hl:(Value.ref (s1.heap.objs.size+1)::us++[]).length=ps.length:=by
  have e:=r2.length
  rw[F.len _ _ _ _ hq] at e
  rw[List.append_nil]
  exact e.symm
 refine wpAny_call (zkU (f:=f) I1.kIn M.makes M.init (beq_iff_eq.mp M.fn) (codeAny_mono (F.run _ X.stack _ _ ⟨Value.ref (s1.heap.objs.size+1)::us,[]⟩ (Value.ref (s1.heap.objs.size+1)::us) _ _ E ((hr.mono hj).make C us [])
  (I2.env0.make C us []) (by have:=hb _ (Value.ref (s1.heap.objs.size+1)::us) I2.kIn hl;rwa [List.append_nil] at this) r2 hq) λr s' hq'=>?_))
 cases r with
 | error e=>
  obtain⟨a,C',H3,rfl,os,bare,un,hok,F,q⟩:=hq'
  exact⟨a,C',H3,_,_,rfl,I2,I2.call' os un hok bare (λb z=>absurd z (by simp)),F,q⟩
 | ok fl=>
  cases fl with
  | ret u=>
   obtain⟨v,H',I3,rv,ev,q3⟩:=I2.after hq'
   subst ev
   exact⟨rv,⟨V.ref (s1.heap.objs.size+1),H',I3,rfl,q3⟩⟩
  | next=>exact False.elim hq'
  | brk=>exact False.elim hq'
  | cont=>exact False.elim hq'
variable {te:XK->TE}{st:Stmt}{tt uu:XK->TS}
theorem zoe (he:PEx X e te)(hs:swapsWith e none pos.line X.env=pure false:=by rfl):PSx X (.Expr e pos) (λE=>zl6 (te E)):=by
 intro pins s σ H D E I h
 exact wpAny_Expr_any (thn (he pins s σ H _ E I h) λv s1 ⟨x,H1,I1,r1,q1⟩=>⟨σ,H1,I1,q1⟩) I.quiet hs
theorem zry {c:Expr}{a b:List Stmt}{tc:TT}(hc:PT X.nox c tc)(ha:PSxs X a tt)(hb:PSxs X b uu):PSx X (.If c a b pos) (λE=>tIfS tc (tt E) (uu E)):=by
 intro pins s σ H D E I h
 refine wpAny_If (nxm (hc pins s σ H _ (I.wish _) h) λd s1 ⟨H1,I1,q1⟩=>?_)
 cases d with
 | true=>exact ha pins s1 σ H1 D E I1.unwish q1
 | false=>exact hb pins s1 σ H1 D E I1.unwish q1
theorem zof (h1:PSx X st tt):PSxs X [st] tt:=by
 intro pins s σ H D E I h
 refine wpAny_execs_cons (thn (h1 pins s σ H D E I h) λf s1 q=>?_)
 cases f with
 | next=>exact wpAny_execs_nil q
 | ret v=>exact q
 | brk=>exact q
 | cont=>exact q
end
section
variable {X:Cx}{pins:List (Addr × Obj)}{σ:St}{H:Hp}{a:Addr}{C:Value}{s:Shared}
structure Ready (X:Cx)(pins:List (Addr × Obj))(σ:St)(H:Hp)(a:Addr)(C:Value)(s:Shared):Prop where
 ex:∃ (s':Shared) (T T':Addr),Inv X pins σ H s'/\zlI X pins H a/\zlI X pins H T/\s'.heap.get? T'=none/\(∃ h',s={s' with heap:=h'})/\zjk s.heap a T' C .none/\zgT (frs X.stack) [a,T] s'.heap s.heap
theorem Ready.inv (R:Ready X pins σ H a C s):Inv X pins σ H s:=by
 obtain⟨s',T,T',I,ha,hT,_,⟨h',rfl⟩,F,U⟩:=R.ex
 refine I.shift (as:=[a,T]) U.1 U.2 (λb m=>?_)
 rcases List.mem_cons.mp m with z | z
 ·subst z;exact ha
 ·rw[zms.mp z];exact hT
theorem Ready.apart (R:Ready X pins σ H a C s):zlI X pins H a:=by
 obtain⟨s',T,T',I,ha,hT,_,⟨h',rfl⟩,F,U⟩:=R.ex
 exact ha
theorem Ready.obj (R:Ready X pins σ H a C s):∃ oe vs,s.heap.get? a=some oe/\(oe.cls=C/\oe.dict=none)/\oe.data=.fields vs:=by
 obtain⟨s',T,T',I,ha,hT,_,_,F,U⟩:=R.ex
 obtain⟨oe,vs,oT,ts,h1,h2,h3,h4,_⟩:=F
 exact⟨oe,vs,h1,⟨h2,h3⟩,h4⟩
theorem Ready.again{E:Value->Shared->Prop}{Q:Unit->Shared->Prop}(R:Ready X pins σ H a C s)(k:∀ s2,Ready X pins σ H a C s2->Q () s2):wpAny M A (setFlight (.ref a) none) Q E s:=by
 obtain⟨s',T,T',I,ha,hT,n,⟨h',rfl⟩,F,U⟩:=R.ex
 refine zgx (fr:=frs X.stack) F λh2 F2 U2=>k _ ⟨s',T,T',I,ha,hT,n,⟨h2,rfl⟩,F2,⟨λb o e m1 m2=>U2.1 b o (U.1 b o e m1 m2) m1 (λz=>by rw[zms.mp z,n] at e;cases e),λb o e m1 m2=>?_⟩⟩
 obtain⟨sl,e1⟩:=U.2 b o e m1 m2
 obtain⟨sl2,e2⟩:=U2.up e1 (λz=>by rw[zms.mp z,n] at e;cases e)
 exact⟨sl2,e2⟩
theorem zkg{E':Value->Shared->Prop}{e:Value}{Q:Shared->Prop}(hex:X.ex=[])(hst:X.stack=X.env::X.outer)(hf:X.env.frame=some X.env.locals)(h:XP X pins σ E e s)(k:∀ a C H' s3,e=.ref a->Ready X pins σ H' a C s3->E C none H'->Q s3):
  wpAny (model X.prog X.w) X.A (noteFrame e X.env) (λ_ s2=>wpAny (model X.prog X.w) X.A (setFlight e none) (λ_ s3=>Q s3) E' s2) E' s:=by
 obtain⟨a,C,H',s1,H1,rfl,I1,I',⟨T,F,hx,hT,hx0,hT0⟩,q⟩:=h
 have hfr:X.A.frames=some (X.env::X.outer):=by rw[<-hst];exact I'.ok.frames
 refine zk8 (outer:=X.outer) (base:=X.base) hfr (by rw[<-hst];exact I'.stack) hf F λh1 T1 n1 F1 U1=>?_
 rw[<-hst] at U1
 refine zgx (fr:=frs X.stack) F1 λh2 F2 U2=>k a C H' _ rfl ⟨s,T,T1,I',zla I1 hex hx0 hx,zla I1 hex hT0 hT,n1,⟨h2,rfl⟩,F2,⟨λb o e m1 m2=>U2.1 b o (U1.1 b o e m1 m2) m1 (λz=>by rw[zms.mp z,n1] at e;cases e),λb o e m1 m2=>?_⟩⟩ q
 obtain⟨sl,e1⟩:=U1.2 b o e m1 m2
 obtain⟨sl2,e2⟩:=U2.up e1 (λz=>by rw[zms.mp z,n1] at e;cases e)
 exact⟨sl2,e2⟩
def XH (X:Cx)(a:Addr)(o:Obj):Cx:={X with A:=X.A.mark (some (.ref a)),calm:=false,pn:=(a,o)::X.pn,xe:=λ_ _=>False}
variable {o:Obj}
theorem Inv.held(I:Inv X pins σ H s)(ho:s.heap.get? a=some o)(ap:zlI X pins H a)(nc:∀ v,o.data≠.cell v):Inv (XH X a o) pins σ H s:=by
 have ok:=I.ok
 refine⟨⟨ok.mod,ok.kind,ok.glob,ok.blt,ok.above,ok.inj,ok.has,ok.cab,(λz=>absurd z Bool.false_ne_true),ok.frames,ok.stk,ok.exf,ok.bs,ok.bsz,ok.noex,ok.exfs,ok.funs,ok.frf⟩,I.os,I.bare,I.base,I.loc,I.cell,I.free,I.freeC,λp hp=>?_,I.hok,I.len⟩
 have hp':p∈(a,o)::(X.pn++pins):=hp
 rcases List.mem_cons.mp hp' with z | z
 ·subst z
  refine⟨ho,ap.1,ap.2.2.1,λm=>?_,nc⟩
  obtain⟨_,o2,h2,_⟩:=ok.funs.mem m
  have:=ap.2.1
  rw[h2] at this;cases this
 ·exact I.pin p z
theorem Inv.unheld(ok:X.Ok)(I:Inv (XH X a o) pins σ H s):Inv X pins σ H s:=
 ⟨ok,I.os,I.bare,I.base,I.loc,I.cell,I.free,I.freeC,λp hp=>I.pin p (List.mem_cons_of_mem _ hp),I.hok,I.len⟩
end
def PH (X:Cx)(hs:List ExceptHandler)(t:Value->Addr->TS):Prop:=
 ∀ (pins:List (Addr × Obj)) (s:Shared) (σ:St) (H:Hp) (D:Ends) (a:Addr) (C:Value),Ready X pins σ H a C s->t C a D σ H->wpAny (model X.prog X.w) X.A (handleBy (.ref a) X.env hs) (SP X pins D) X.xe s
def tHand (K:Fg)(D:Addr)(th tr:Value->Addr->TS):Value->Addr->TS:=λC a E σ H=>∃ Cc anc,C=.ref Cc/\Err K Cc anc/\if (Value.ref Cc::anc).contains (.ref D)=true then th C a E σ H else tr C a E σ H
def tAs (i:Nat)(t:Value->Addr->TS):Value->Addr->TS:=λC a D σ H=>t C a {nx:=λσ' H'=>D.nx (σ'.set i none) H',rt:=D.rt,bk:=λσ' H'=>D.bk (σ'.set i none) H',ct:=λσ' H'=>D.ct (σ'.set i none) H'} (σ.set i (some (.ref a))) H
variable {th:Value->Addr->TS}
section
variable {X:Cx}{x:Str}{np pos:Pos}{b0:Stmt}{suite:List Stmt}{rest:List ExceptHandler}{D:Addr}{anc:List Value}{tb tr:Value->Addr->TS}
theorem zrz:PH X [] (λ_ _=>zqx):=λ_ _ _ _ _ _ _ _ h=>h.elim
variable {i:Nat}{n:Str}
theorem zfn{E:Value->Shared->Prop}{Q:Unit->Shared->Prop}(I:Inv X pins σ H s)(hN:X.N.Nodup)(hi:X.N[i]?=some n)(hl:X.env.scope.names.lookup n=some .local)(k:∀ s',Inv X pins (σ.set i none) H s'->Q () s'):wpAny M A (do bindName X.env n .none;unbindBehindTheSuite X.env n pos) Q E s:=by
 refine wpAny_bind (wpAny_bindName (zgo I hN hi (.inl hl) (v:=.non) (u:=.none) rfl (λs1 I1=>?_) (.inr hl)))
 have hiσ:i<σ.length:=by rw[I.len];exact (zge.mp hi).1
 obtain⟨m,hn,hv⟩:=id I1.loc
 obtain⟨u,_,lk⟩:=hv i n .non hi (by rw[List.getElem?_set_self hiσ]) (.inl hl)
 have hv':m n=some u:=by
  rcases lk with ⟨_,z⟩ | ⟨z,_⟩
  ·exact z
  ·have hl':X.env.kindOf n=some .local:=hl
   rw[hl'] at z
   rcases z with z | z <;> cases z
 unfold unbindBehindTheSuite
 refine wpAny_onRaise (wpAny_unbindName_local hl hn hv' (by rw[I.ok.kind];rfl) λh' u' hn' hs=>k _ ?_)
 obtain⟨oL,_,_,hoL,_⟩:=id hn
 have neL:∀ b o,X.s₀.heap.get? b=some o->b≠X.env.locals:=λb o e=>Nat.ne_of_lt (Nat.lt_of_lt_of_le (Heap.lt_size e) I.ok.above)
 refine⟨I.ok,I1.os,I1.bare,⟨λb o e n hb hx=>?_,λb o e n hb hx=>?_,I1.base.free,λb o e hx=>?_,I1.base.tups,I1.base.frzs,I1.base.tbls⟩,⟨_,hn',λj y v' e1 e2 e3=>?_⟩,λy c e=>?_,I1.free,I1.freeC,λp hp=>?_,λb ob e=>?_,by rw[List.length_set];exact I.len⟩
 ·exact (hs.2 b (neL b o e)).trans (I1.base.keep b o e n hb hx)
 ·obtain⟨sl,e1⟩:=I1.base.slot b o e n hb hx
  exact⟨sl,(hs.2 b (neL b o e)).trans e1⟩
 ·obtain⟨o',e1⟩:=I1.base.there b o e hx
  exact⟨o',(hs.2 b (neL b o e)).trans e1⟩
 ·by_cases hj:j=i
  ·subst hj
   rw[List.getElem?_set_self hiσ] at e2
   cases e2
  ·rw[List.getElem?_set_ne (Ne.symm hj)] at e2
   obtain⟨u2,r,q⟩:=hv j y v' e1 (by rw[List.getElem?_set_ne (Ne.symm hj)];exact e2) e3
   refine⟨u2,r,?_⟩
   rcases q with ⟨k,e⟩ | ⟨k,c,e,z⟩
   ·refine .inl ⟨k,?_⟩
    have:y≠n:=λe=>hj (zii hN e1 (e ▸ hi))
    simp[this,e]
   ·exact .inr ⟨k,c,e,z.sameBut hs (I1.cne y c e)⟩
 ·obtain⟨w',z⟩:=I1.cell y c e
  exact⟨w',z.sameBut hs (I1.cne y c e)⟩
 ·obtain⟨e,n,ne,nf,d⟩:=I1.pin p hp
  exact⟨(hs.2 p.1 ne).trans e,n,ne,nf,d⟩
 ·refine (I1.hok b ob e).stay (λc w' hc q=>(hs.2 c ?_).trans q) (λ_ q=>q) λ_ _ q=>q
  rintro rfl
  rcases hc with rfl | hc
  ·rw[I1.free] at e;cases e
  ·rw[I1.free] at hc;cases hc
theorem ph_as(eD:Err X.K D anc)(hg:Gl X x)(hm:X.mg x=some (.ref D))(hN:X.N.Nodup)(hi:X.N[i]?=some n)(hl:X.env.scope.names.lookup n=some .local)(hb:∀ a o,o.dict=none->(∀ v,o.data≠.cls v)->PSs (XH X a o) (b0::suite) (tb o.cls a))(hr:PH X rest tr)(hd:(x == ("__debug__" : Str))=false:=by decide):
  PH X (.ExceptHandler (some (.Name x np)) (some n) (b0::suite) pos::rest) (tHand X.K D (tAs i tb) tr):=by
 intro pins s σ H E a C R h
 obtain⟨Cc,ancC,rfl,eC,h⟩:=h
 have I:=R.inv
 obtain⟨oe,vs,ho,⟨hc,_⟩,hdt⟩:=R.obj
 obtain⟨nm,q,N,bs,hdct,sn,sub,ab,col,dd,k0,k1,k2,k3,k5,mN,hC,_,_,TC⟩:=eC.obj I.kIn
 obtain⟨nm',q',N',bs',hdct',sn',sub',ab',col',dd',l0,l1,l2,l3,l5,mN',hD,_,_,TD⟩:=eD.obj I.kIn
 refine wpAny_handleBy_cons (codeAny_handlers_test (zdY (X:=XH X a oe) (I.held ho R.apart (λv z=>by rw[hdt] at z;cases z)) hg hm ?_ hd)) (by intro q;cases q)
 obtain⟨hp,g,d,tk,os⟩:=s
 refine zhw hC hD ho hc (TD.hasType PySem.F.excBase_ValueError.hasBase) ?_
 by_cases b:(Value.ref Cc::ancC).contains (.ref D)=true
 ·rw[if_pos b] at h
  rw[b]
  show codeAny _ _ _ _ _
  refine codeAny_handlers_suite_as (R.again λs2 R2=>?_)
  obtain⟨o2,vs2,ho2,⟨hc2,hi2⟩,hd2⟩:=R2.obj
  rw[<-hc2] at h
  have IH:=R2.inv.held ho2 R2.apart (λv z=>by rw[hd2] at z;cases z)
  refine zgo (X:=XH X a o2) IH hN hi (.inl hl) (v:=.ref a) (u:=.ref a) rfl (λs3 I3=>?_) (.inr hl)
  refine nxm (hb a o2 hi2 (λv z=>by rw[hd2] at z;cases z) pins s3 _ H _ I3 h) λf s4 q=>?_
  show wpAny _ _ _ _ _ _
  cases f with
  | next=>
   obtain⟨σ',H',I4,q⟩:=q
   exact zfn (I4.unheld I.ok) hN hi hl λs5 I5=>⟨_,H',I5,q⟩
  | brk=>
   obtain⟨σ',H',I4,q⟩:=q
   exact zfn (I4.unheld I.ok) hN hi hl λs5 I5=>⟨_,H',I5,q⟩
  | cont=>
   obtain⟨σ',H',I4,q⟩:=q
   exact zfn (I4.unheld I.ok) hN hi hl λs5 I5=>⟨_,H',I5,q⟩
  | ret u=>
   obtain⟨v,σ',H',I4,r,q⟩:=q
   exact zfn (I4.unheld I.ok) hN hi hl λs5 I5=>⟨v,_,H',I5,r,q⟩
 ·rw[if_neg b] at h
  rw[Bool.not_eq_true] at b
  rw[b]
  exact hr pins _ σ H E a _ R h
def tTry (tb:XK->TS)(th:Value->Addr->TS):TS:=λD σ H=>tb (λC _ H'=>∀ a,th C a D σ H') D σ H
theorem zrA{body:List Stmt}{h0:ExceptHandler}{hs:List ExceptHandler}{tx:XK->TS}(hex:X.ex=[])(hst:X.stack=X.env::X.outer)(hf:X.env.frame=some X.env.locals)(hb:PSxs X body tx)(hh:PH X (h0::hs) th):PS X (.Try body (h0::hs) [] [] pos) (tTry tx th):=by
 intro pins s σ H D I h
 refine wpAny_Try_except (wpAny_mono (hb pins s σ H D _ I h) (λf s1 q=>?_) λe s1 q=>?_)
 ·cases f with
  | next=>exact wpAny_execs_nil q
  | ret v=>exact q
  | brk=>exact q
  | cont=>exact q
 ·exact zkg hex hst hf q λa C H' s3 ee R q2=>by
   subst ee
   exact hh pins s3 σ H' D a C R (q2 a)
end
def Pin (X:Cx)(a:Addr)(C:Value):Prop:=∃ o,(a,o)∈X.pn/\o.cls=C/\o.dict=none/\∀ v,o.data≠.cls v
theorem Err.cls(e:Err K C anc):∃ cd,clsIn K C=some cd/\cd.mro=.ref C::anc/\typeIn K (.ref C)=some (.type "type"):=by
 obtain⟨⟨nm,q,N,bs,hdct,sn,sub,ab,col,dd,k0,k1,k2,k3,k5,l⟩,x⟩:=e
 refine⟨_,by unfold clsIn;rw[l],rfl,?_⟩
 show (K.lookup C).map (·.cls)=_
 rw[l];rfl
theorem zpQ{D:Addr}{ancD:List Value}(e:Err K C anc)(d:Err K D ancD):kitOne K (.ref C) (.ref D)=some ((Value.ref C::anc).contains (.ref D)):=by
 obtain⟨cC,c1,c2,c3⟩:=e.cls
 obtain⟨cD,d1,d2,d3⟩:=d.cls
 unfold kitOne
 by_cases z:(Value.ref C == Value.ref D)=true
 ·rw[if_pos z]
  have:Value.ref C=Value.ref D:=eq_of_beq z
  rw[<-this]
  simp
 ·rw[if_neg z]
  unfold kitCls
  simp only[d1,d3]
  unfold subIn mroIn
  simp only[c1,c2]
  simp
  rw[c2]
  simp
def zbn:Nat:=10 ^ 30
theorem zjm(h:i.natAbs<zbn):i.natAbs.log2<1920:=by
 by_cases z:i.natAbs=0
 ·rw[z];decide
 ·refine (Nat.log2_lt z).mpr (Nat.lt_of_lt_of_le h ?_)
  unfold zbn
  exact Nat.le_trans (by decide:10 ^ 30<=2 ^ 100) (Nat.pow_le_pow_right (n:=2) (by decide) (by decide:100<=1920))
section
variable {X:Cx}{pins:List (Addr × Obj)}{σ:St}{H:Hp}{s:Shared}
end
theorem zgU(h:i.natAbs<zbn):(Str.ofString (toString i)).length<=32:=by
 have e:=int_text_length_le10 (k:=30) (by decide) h
 rw[PySem.ofString_length];omega
section
variable {prog:Program}{w:World}{A:Around}{E:Value->Shared->Prop}
end
section
variable {X:Cx}{pos:Pos}
end
theorem zaj.append: ∀ {ds1:List D}{vs1:List V}{f1:List Addr}{ds2:List D}{vs2:List V}{f2:List Addr},zaj H ds1 vs1 f1->zaj H ds2 vs2 f2->zaj H (ds1++ds2) (vs1++vs2) (f1++f2)
 | [],_,_,_,_,_,h1,h2=>by
  unfold zaj at h1
  obtain⟨rfl,rfl⟩:=h1
  exact h2
 | d::ds,_,_,_,_,_,h1,h2=>by
  unfold zaj at h1
  obtain⟨v,r,f,g,rfl,rfl,q1,q2⟩:=h1
  rw[List.append_assoc]
  exact zaj.cany q1 (zaj.append q2 h2)
theorem zaj.cut: ∀ (i:Nat) {ds:List D}{vs:List V}{fp:List Addr},zaj H ds vs fp->∃ f1 f2,fp=f1++f2/\zaj H (ds.take i) (vs.take i) f1/\zaj H (ds.drop i) (vs.drop i) f2
 | 0,ds,vs,fp,h=>⟨[],fp,rfl,zaj.nil,h⟩
 | i+1,[],_,_,h=>by
  unfold zaj at h
  obtain⟨rfl,rfl⟩:=h
  exact⟨[],[],rfl,zaj.nil,zaj.nil⟩
 | i+1,d::ds,_,_,h=>by
  unfold zaj at h
  obtain⟨v,r,f,g,rfl,rfl,q1,q2⟩:=h
  obtain⟨f1,f2,rfl,h1,h2⟩:=zaj.cut i q2
  exact⟨f++f1,f2,(List.append_assoc _ _ _).symm,zaj.cany q1 h1,h2⟩
theorem New.acc(h:New H H' (.lst ds) v):∃ a vs,v=.ref a/\H a=none/\Acc H a H' ds vs:=by
 obtain⟨a,vs,fp,e1,e2,e3,e4,e5,e7,e6⟩:=New.lso h
 exact⟨a,vs,e1,e2,fp,e3,e4,e5,e7,e6⟩
theorem Acc.get(a:Acc H da H2 ds vs):H2 da=some (.lst vs):=by obtain⟨fp,h,_⟩:=a;exact h
theorem Acc.len(a:Acc H da H2 ds vs):ds.length=vs.length:=by obtain⟨fp,_,h,_⟩:=a;exact h.length
variable {sc:Scope}
section
variable {X:Cx}{es:List Expr}{pos:Pos}{te:TE}{t:TA}
theorem zac(h:PE X (.Name x pos) te)(r:PA X es t):PA X (.Name x pos::es) (zc2 te t):=zaQ h r rfl
theorem zam {c:Const}{k:Nat}(h:PE X (.Constant c k pos) te)(r:PA X es t):PA X (.Constant c k pos::es) (zc2 te t):=zaQ h r rfl
variable {a:Expr}
theorem zkh{o:UnaryOp}(h:PE X (.UnaryOp o a pos) te)(r:PA X es t):PA X (.UnaryOp o a pos::es) (zc2 te t):=zaQ h r rfl
variable {b:Expr}
theorem pa_if{c:Expr}(h:PE X (.IfExp a b c pos) te)(r:PA X es t):PA X (.IfExp a b c pos::es) (zc2 te t):=zaQ h r rfl
theorem zc6{g:List Comprehension}(h:PE X (.ListComp a g sc pos) te)(r:PA X es t):PA X (.ListComp a g sc pos::es) (zc2 te t):=zaQ h r rfl
theorem zaD(h:PE X (.Subscript a b pos) te)(r:PA X es t):PA X (.Subscript a b pos::es) (zc2 te t):=zaQ h r rfl
theorem zcL {a:List Expr}(h:PE X (.List a pos) te)(r:PA X es t):PA X (.List a pos::es) (zc2 te t):=zaQ h r rfl
theorem zm2 {a:List Expr}{k:Nat}(h:PE X (.Tuple a k pos) te)(r:PA X es t):PA X (.Tuple a k pos::es) (zc2 te t):=zaQ h r rfl
theorem zcF{o:Operator}(h:PE X (.BinOp a o b pos) te)(r:PA X es t):PA X (.BinOp a o b pos::es) (zc2 te t):=zaQ h r rfl
theorem zaC {f:Expr}{a:List Expr}{k:List Keyword}(h:PE X (.Call f a k pos) te)(r:PA X es t):PA X (.Call f a k pos::es) (zc2 te t):=zaQ h r rfl
theorem za5(h:PE X (.Attribute a x pos) te)(r:PA X es t):PA X (.Attribute a x pos::es) (zc2 te t):=zaQ h r rfl
end
structure QE (X:Cx)(e:Expr)(t:TE):Prop where
 run:PE X e t
structure QA (X:Cx)(es:List Expr)(t:TA):Prop where
 run:PA X es t
structure QS (X:Cx)(st:Stmt)(t:TS):Prop where
 run:PS X st t
structure QSs (X:Cx)(st:List Stmt)(t:TS):Prop where
 run:PSs X st t
section
variable {X:Cx}{e a b:Expr}{es:List Expr}{pos:Pos}{te ta tb:TE}{t:TA}{r:R2}
theorem zc7 (h:QA X es t):QE X (.List es pos) (tLst t):=⟨zaO h.run⟩
theorem zki {k:Nat}(h:QA X es t):QE X (.Tuple es k pos) (tTup t):=⟨zdm h.run⟩
theorem q_op {op:Operator}(ho:OpR X (binaryOp op) r)(ha:QE X a ta)(hb:QE X b tb):QE X (.BinOp a op b pos) (tOp r ta tb):=⟨zaW ho ha.run hb.run⟩
theorem zaT:QA X [] tNil:=⟨zab⟩
theorem zd1(h:QE X (.Name x pos) te)(r:QA X es t):QA X (.Name x pos::es) (zc2 te t):=⟨zaQ h.run r.run rfl⟩
theorem za9 {c:Const}{k:Nat}(h:QE X (.Constant c k pos) te)(r:QA X es t):QA X (.Constant c k pos::es) (zc2 te t):=⟨zaQ h.run r.run rfl⟩
theorem zrB (h:QE X (.Subscript a b pos) te)(r:QA X es t):QA X (.Subscript a b pos::es) (zc2 te t):=⟨zaQ h.run r.run rfl⟩
variable {l:List Expr}
theorem zch(h:QE X (.List l pos) te)(r:QA X es t):QA X (.List l pos::es) (zc2 te t):=⟨zaQ h.run r.run rfl⟩
theorem zgV{k:Nat}(h:QE X (.Tuple l k pos) te)(r:QA X es t):QA X (.Tuple l k pos::es) (zc2 te t):=⟨zaQ h.run r.run rfl⟩
theorem zlb {o:Operator}(h:QE X (.BinOp a o b pos) te)(r:QA X es t):QA X (.BinOp a o b pos::es) (zc2 te t):=⟨zaQ h.run r.run rfl⟩
end
section
variable {X:Cx}{e:Expr}{st:Stmt}{rest a b:List Stmt}{pos:Pos}{te:TE}{t u:TS}{tc:TT}
theorem zkj (h:QS X st t):QSs X [st] t:=⟨zah h.run⟩
theorem zbD (h:QS X st t)(k:QSs X rest u):QSs X (st::rest) (tSeq t u):=⟨zag h.run k.run⟩
end
variable {u:TS}
theorem zh3{t:TS}{D:Ends}(M:St->Hp->Prop)(h:∀ NX:St->Hp->Prop,(∀ σ H,M σ H->NX σ H)->t {D with nx:=NX} σ H)(tail:∀ σ H,M σ H->u D σ H):tSeq t u D σ H:=h _ tail
theorem zcM{t:TS}{D:Ends}(h:∀ Q:Bool->Hp->Prop,Q false H->c σ H Q)(k:u D σ H):tSeq (tIfS c t zpf) u D σ H:=h _ (iteF k)
theorem zjn{t e:TS}{D:Ends}(h:∀ Q:Bool->Hp->Prop,Q true H->c σ H Q)(k:∀ NX:St->Hp->Prop,t {D with nx:=NX} σ H):tSeq (tIfS c t e) u D σ H:=h _ (iteT (k _))
theorem zkk: decide (V.ref a=V.non)=false:=decide_eq_false (by intro z;cases z)
theorem ziu:decide (V.non=V.non)=true:=decide_eq_true rfl
theorem zrC{lo hi:Option Int}(h:SqL K H a xs)(q:∀ p,H p=none->Q (.ref p) (upd H p (.lst (cutV xs lo hi)))):rSl K (.ref a) lo hi H Q:=.inl ⟨a,xs,rfl,h,q⟩
theorem cut_take{k:Nat}(h:k<=xs.length):cutV xs none (some (k:Int))=xs.take k:=by
 unfold cutV
 rw[HT.sIx_none,HT.sIx_nat,List.drop_zero,Nat.sub_zero,Nat.min_eq_left h]
theorem zog{k:Nat}(h:k<=xs.length):cutV xs (some (k:Int)) none=xs.drop k:=by
 unfold cutV
 rw[HT.sIx_none,HT.sIx_nat,Nat.min_eq_left h,List.take_of_length_le (by rw[List.length_drop];exact Nat.le_refl _)]
theorem zm3{k:Int}(h0:0<=k)(h:k<(n:Int)):ixN n k=some k.toNat:=by
 unfold ixN
 rw[if_pos h0,if_pos h]
theorem Same.put{w:Addr}(s:Same H0 H)(h:H0 w=none):Same H0 (upd H w o):=λb u e=>by rw[zai (zan e h)];exact s _ _ e
theorem zlc{xs:List α}{k:Int}{x:α}(h0:0<=k)(h:xs[k.toNat]?=some x):atI xs k=some x:=by
 have:=zaB (j:=k.toNat) h
 rwa [show ((k.toNat:Nat):Int)=k by omega] at this
def Ls (H:Hp)(ka:Addr)(ls:List (List Int)):Prop:=∃ as:List Addr,H ka=some (.lst (as.map V.ref))/\as.length=ls.length/\∀ (i:Nat) a l,as[i]?=some a->ls[i]?=some l->H a=some (.lst (l.map V.int))
variable {l:List Int}
theorem zoh(h1:H a=some (.lst (l.map V.int)))(h2:H a=some (.lst (as.map V.ref))):l=[]:=by
 rw[h1] at h2
 cases l with
 | nil=>rfl
 | cons i l=>
  cases as with
  | nil=>simp at h2
  | cons b as=>simp at h2
variable {ka:Addr}
theorem Ls.same{ls:List (List Int)}(e:Same H H')(h:Ls H ka ls):Ls H' ka ls:=by
 obtain⟨as,h1,h2,h3⟩:=h
 exact⟨as,e _ _ h1,h2,λi a l e1 e2=>e _ _ (h3 i a l e1 e2)⟩
theorem Ls.len{ls:List (List Int)}(h:Ls H ka ls):∃ xs,H ka=some (.lst xs)/\xs.length=ls.length:=by
 obtain⟨as,h1,h2,h3⟩:=h
 exact⟨_,h1,by rw[zlm];exact h2⟩
theorem Ls.out{ls:List (List Int)}(h:Ls H ka ls):∃ xs,H ka=some (.lst xs)/\xs.length=ls.length/\Reps K H (ls.map nums) xs:=by
 obtain⟨as,h1,h2,h3⟩:=h
 refine⟨_,h1,by rw[zlm];exact h2,Reps.of (by simp[h2]) λi d v e1 e2=>?_⟩
 rw[zgm] at e1 e2
 obtain⟨l,hl,rfl⟩:=zme.mp e1
 obtain⟨a,ha,rfl⟩:=zme.mp e2
 exact za8.mpr ⟨a,rfl,SqL.of (h3 i a l ha hl)⟩
theorem Ls.rep{ls:List (List Int)}(h:Ls H ka ls):Rep K H (.lst (ls.map nums)) (.ref ka):=by
 obtain⟨xs,h1,_,h2⟩:=h.out (K:=K)
 unfold Rep
 exact⟨ka,xs,rfl,SqL.of h1,h2⟩
theorem Ls.item{ls:List (List Int)}{i:Nat}{x:V}(h:Ls H ka ls)(e:H ka=some (.lst xs))(hx:xs[i]?=some x):∃ a l,x=.ref a/\ls[i]?=some l/\H a=some (.lst (l.map V.int)):=by
 obtain⟨as,h1,h2,h3⟩:=h
 rw[h1] at e;cases e
 rw[zgm] at hx
 obtain⟨a,ha,rfl⟩:=zme.mp hx
 have hi:=(zge.mp ha).1
 refine⟨a,ls[i]'(by omega),rfl,by simp,h3 i a _ ha (by simp)⟩
theorem New.ls{ls:List (List Int)}(h:New H H' (.lst (ls.map nums)) v):∃ ka,v=.ref ka/\H ka=none/\Ls H' ka ls:=by
 obtain⟨a,vs,fp,rfl,ha,h1,h2,_⟩:=New.lso h
 obtain⟨e1,e2,e3⟩:=zaj.lines h2
 subst e1
 refine⟨a,rfl,ha,fp,h1,e2,λi b l q1 q2=>?_⟩
 obtain⟨l',z1,z2⟩:=e3 i b q1
 rw[q2] at z1;cases z1
 exact z2
variable {ds2:List D}
theorem New.cat{ds1:List D}(n1:New H H1 (.lst ds1) (.ref a))(e1:Same H H1)(s:Same H1 H2)(n2:New H1 H2 (.lst ds2) (.ref b))(h1:H2 a=some (.lst xs))(h2:H2 b=some (.lst ys))(hp:H2 p=none):New H (upd H2 p (.lst (xs++ys))) (.lst (ds1++ds2)) (.ref p):=by
 obtain⟨a',vs,fp,ea,ha,g1,g2,g3,g4,g5⟩:=New.lso n1
 cases ea
 obtain⟨b',vs',fq,eb,hb,k1,k2,k3,k4,k5⟩:=New.lso n2
 cases eb
 have ev:xs=vs:=by rw[s _ _ g1] at h1;injection h1 with h1;injection h1 with h1;exact h1.symm
 have ev':ys=vs':=by rw[k1] at h2;injection h2 with h2;injection h2 with h2;exact h2.symm
 subst ev;subst ev'
 have sp:=zad hp (.lst (xs++ys))
 have hf:∀ b∈fp,∃ o,H1 b=some o:=zaj.has _ g2
 refine New.lst ((zaj.sq (s.trans sp).sq _ g2).append (zaj.sq sp.sq _ k2)) (List.nodup_append.mpr ⟨g3,k3,λx hx y hy z=>?_⟩) (λc hc=>?_) ((e1.trans s).free hp) (λm=>?_) zaa
 ·subst z
  obtain⟨o,ho⟩:=hf x hx
  have:=k5 x hy
  rw[ho] at this;cases this
 ·rcases zma.mp hc with hc | hc
  ·exact g5 c hc
  ·exact e1.free (k5 c hc)
 ·rcases zma.mp m with m | m
  ·obtain⟨o,ho⟩:=hf p m
   rw[s _ _ ho] at hp;cases hp
  ·obtain⟨o,ho⟩:=zaj.has _ k2 p m
   rw[ho] at hp;cases hp
theorem New.item{i:Nat}{x:V}(n:New H H' (.lst ds) (.ref a))(e:H' a=some (.lst xs))(hd:ds[i]?=some d)(hx:xs[i]?=some x):New H H' d x:=by
 obtain⟨a',vs,fp,ea,ha,g1,g2,g3,g4,g5⟩:=New.lso n
 cases ea
 rw[g1] at e;cases e
 obtain⟨f1,f2,rfl,r1,r2⟩:=zaj.cut i g2
 have hi:=(zge.mp hd).1
 have hj:=(zge.mp hx).1
 rw[List.drop_eq_getElem_cons hi,List.drop_eq_getElem_cons hj] at r2
 unfold zaj at r2
 obtain⟨v,r,f,g,e1,rfl,q1,q2⟩:=r2
 cases e1
 rw[List.getElem?_eq_getElem hi] at hd;cases hd
 rw[List.getElem?_eq_getElem hj] at hx;cases hx
 have n2:=(List.nodup_append.mp g3).2.1
 exact⟨f,q1,(List.nodup_append.mp n2).1,λb hb=>g5 b (List.mem_append_right _ (List.mem_append_left _ hb))⟩
theorem New.pairT{w:Int}{ws:List Int}{t:Addr}(n:New H H1 (nums ws) (.ref a))(ht:H1 t=none):New H (upd H1 t (.tup [.int w,.ref a])) (.tup [.int w,nums ws]) (.ref t):=by
 obtain⟨a',e,h1,h2⟩:=New.iif.mp n
 cases e
 have s:=zad ht (.tup [.int w,.ref a])
 refine New.tup (fp:=[a]) (zaj.cint (zaj.cany (f:=[a]) (fp:=[]) (RepF.line (s _ _ h2)) zaj.nil)) (by simp) (λb hb=>?_) zaa
 rw[zms.mp hb];exact h1
section
variable {H0 H:Hp}{ga ka wa:Addr}{goal:List Int}{known:List (List Int)}{ws:List Int}{m n:Nat}
end
theorem zpR{P:Nat->V->Hp->Prop}(wk:Goes J H1 n P)(ls:List (List Int))(hn:ls.length=n)(hz:n<=sizeLine)(h9:∀ l∈ls,l.length=9)(step:∀ i x l H' (R:VK),i<n->ls[i]?=some l->Same H1 H'->P i x H'->(∀ a H3,Same H' H3->H3 a=some (.lst (l.map V.int))->R (.ref a) H3)->g x σ0 H' λσ2 H2=>te σ2 H2 R)(fin:∀ a H',Same H1 H'->H1 a=none->Ls H' a ls->Q (.ref a) H'):zk2 J g zpA te σ0 H1 Q:=by
 intro Da hD
 refine⟨λi m ys H=>m=n - i/\i<=n/\Same H1 H/\H Da=some (.lst ys)/\Ls H Da (ls.take i),⟨n,rfl,Nat.zero_le _,zad hD _,zaa,[],zaa,rfl,λi a l e _=>by simp at e⟩,?_⟩
 rintro i m ys H ⟨rfl,hi,hs,hH,hL⟩
 refine⟨hH,?_⟩
 obtain⟨as,h1,h2,h3⟩:=hL
 have ey:ys=as.map V.ref:=by rw[hH] at h1;injection h1 with h1;injection h1
 subst ey
 rw[List.length_take] at h2
 by_cases hlt:i<n
 ·refine .inr ⟨wk.go i H hlt hs,by rw[zlm];omega,λys' H'=>(n - (i+1)<n - i/\i+1<=n/\Same H1 H'/\H' Da=some (.lst ys')/\Ls H' Da (ls.take (i+1))),λys' H' ⟨q1,q2,q3,q4,q5⟩=>⟨n - (i+1),q1,rfl,q2,q3,q4,q5⟩,λx H' hy=>?_⟩
  obtain⟨s1,hp⟩:=wk.yld i H x H' hlt hs hy
  have hi':i<ls.length:=by omega
  refine step i x ls[i] H' _ hlt (by simp) (hs.trans s1) hp λa H3 s3 ha=>?_
  have hD3:H3 Da=some (.lst (as.map V.ref)):=s3 _ _ (s1 _ _ hH)
  refine⟨hD3,by omega,hlt,λb o e=>?_,zaa,as++[a],by rw[zaa,List.map_append];rfl,by rw[List.length_append,List.length_take];simp;omega,λj b l e1 e2=>?_⟩
  ·rw[zai (zan e hD)]
   exact s3 _ _ (s1 _ _ (hs _ _ e))
  ·have key:H3 b=some (.lst (l.map V.int))/\l.length=9:=by
    refine⟨?_,h9 l (List.mem_of_mem_take (zmg e2))⟩
    rw[List.getElem?_append] at e1
    split at e1
    ·rename_i hj
     have hji:j<i:=by omega
     refine s3 _ _ (s1 _ _ (h3 j b l e1 ?_))
     rw[List.getElem?_take] at e2 ⊢
     rw[if_pos (by omega)] at e2
     rw[if_pos hji];exact e2
    ·rename_i hj
     have hj0:j - as.length=0:=by
      have:=(zge.mp e1).1
      simp at this;omega
     have hji:j=i:=by omega
     rw[hj0] at e1
     simp at e1
     subst e1
     rw[List.getElem?_take,if_pos (by omega),hji,List.getElem?_eq_getElem hi'] at e2
     cases e2
     exact ha
   rw[zai (λz=>by
    have q:=key.1
    rw[z] at q
    have:=zoh q hD3
    rw[this] at key;exact absurd key.2 (by decide))]
   exact key.1
 ·have e:i=n:=by omega
  subst e
  refine .inl ⟨wk.stop H hs,fin _ _ hs hD ⟨as,hH,by omega,λj a l e1 e2=>h3 j a l e1 ?_⟩⟩
  rw[List.take_of_length_le (by omega)];exact e2
theorem hr_u{k:Nat}(hr:Room k A):A.units+1<cLine:=by have:=hr.units;omega
section
variable {σ:St}{H:Hp}{Q:VK}{td ty tx tv:TE}{D:Ends}
theorem zpS (h:td σ H λx H1=>∃ a,x=.ref a/\IsD H1 a/\ty σ H1 λy H2=>tx σ H2 λz H3=>∃ o,DGet H3 a y o/\Q (o.getD z) H3):zoT td ty tx σ H Q:=h
theorem zrD (h:td σ H λx H1=>ty σ H1 λy H2=>∃ a v,x=.ref a/\DGet H2 a y (some v)/\Q v H2):zqY td ty σ H Q:=h
theorem i_din (h:ty σ H λy H1=>td σ H1 λx H2=>∃ a o,x=.ref a/\DGet H2 a y o/\Q (.bl o.isSome) H2):tDIn ty td σ H Q:=h
theorem zoi (h:ty σ H λy H1=>td σ H1 λx H2=>∃ a o,x=.ref a/\DGet H2 a y o/\Q (.bl (!o.isSome)) H2):zmD ty td σ H Q:=h
theorem zrE (h:tv σ H λv H1=>td σ H1 λx H2=>ty σ H2 λy H3=>∃ a H4,x=.ref a/\DPut H3 a y v H4/\D.nx σ H4):zqZ td ty tv D σ H:=h
theorem zh4 {trs:List (TE × TE)}(h:∀ p,H p=none->zgM trs σ (upd H p (.dK [])) λps H2=>H2 p=some (.dK [])/\∃ kvs:List (Key × V),ps=kvs.map (λkv=>(kV kv.1,kv.2))/\kvs.length<=15/\Q (.ref p) (upd H2 p (.dK (zbQ [] kvs)))):zq0 trs σ H Q:=h
variable {R:List (V × V)->Hp->Prop}
theorem zoj(h:R [] H):zgM [] σ H R:=h
theorem zpT{tk:TE}{r:List (TE × TE)}(h:tk σ H λx H1=>tv σ H1 λy H2=>zgM r σ H2 λps H3=>R ((x,y)::ps) H3):zgM ((tk,tv)::r) σ H R:=h
end
theorem Ls.more{na:Addr}{ls ms:List (List Int)}{bs:List Addr}(h:Ls H na ls)(e:H na=some (.lst xs))(hl:bs.length=ms.length)(hb:∀ (i:Nat) a l,bs[i]?=some a->ms[i]?=some l->H a=some (.lst (l.map V.int)))(hp:H p=none):Ls (L2.upd H p (.lst (xs++bs.map V.ref))) p (ls++ms):=by
 obtain⟨as,h1,h2,h3⟩:=h
 rw[h1] at e;cases e
 refine⟨as++bs,by rw[zaa,List.map_append],by simp[h2,hl],λi a l e1 e2=>zad hp _ _ _ ?_⟩
 rw[List.getElem?_append] at e1 e2
 rw[<-h2] at e2
 split at e1
 ·rename_i z;rw[if_pos z] at e2;exact h3 i a l e1 e2
 ·rename_i z;rw[if_neg z] at e2;exact hb _ a l e1 e2
theorem zgy(h:H a=some (.lst (l.map V.int))):∀ (i:Nat) b m,[a][i]?=some b->[l][i]?=some m->H b=some (.lst (m.map V.int)):=λi b m e1 e2=>by
 cases i with
 | zero=>simp at e1 e2;subst e1;subst e2;exact h
 | succ i=>simp at e1
theorem zc8{c:Addr}{k:List Int}(h:H a=some (.lst (l.map V.int)))(h':H c=some (.lst (k.map V.int))):∀ (i:Nat) b m,[a,c][i]?=some b->[l,k][i]?=some m->H b=some (.lst (m.map V.int)):=λi b m e1 e2=>by
 cases i with
 | zero=>simp at e1 e2;subst e1;subst e2;exact h
 | succ i=>
  cases i with
  | zero=>simp at e1 e2;subst e1;subst e2;exact h'
  | succ i=>simp at e1
theorem zdL{bs:List Addr}{ms:List (List Int)}(e:H a=some (.lst (bs.map V.ref)))(hl:bs.length=ms.length)(hb:∀ (i:Nat) b l,bs[i]?=some b->ms[i]?=some l->H b=some (.lst (l.map V.int))):Rep K H (.lst (ms.map nums)) (.ref a):=(show Ls H a ms from ⟨bs,e,hl,hb⟩).rep
def tFs (te:TE):TE:=λσ H Q=>te σ H λx H1=>∃ i:Int,x=.int i/\i.natAbs<zbn/\∀ z,Q (.str z) H1
section
variable {X:Cx}{e:Expr}{te:TE}{a b:Str}{k1 k2:Nat}{p1 p2 p3 pos:Pos}
theorem zrF (he:PE X e te)(ha:a.length<=400)(hb:b.length<=400):PE X (.JoinedStr [.Constant (.str a) k1 p1,.FormattedValue e (-1) none p2,.Constant (.str b) k2 p3] pos) (tFs te):=by
 intro pins s σ H Q I h
 have e0:(Str.empty++a).length=a.length:=by rw[strLen_append];show 0+a.length=_;omega
 refine PySem.wpAny_JoinedStr ?_
 show Joins _ _ _ [eval (.Constant (.str a) k1 p1) X.env,eval (.FormattedValue e (-1) none p2) X.env,eval (.Constant (.str b) k2 p3) X.env] _ _ _
 refine Calls.Constant_str ⟨a,_,rfl,by rw[e0];exact zao (by omega),?_⟩
 refine PySem.wpAny_FormattedValue_plain (thn (he pins _ σ H _ (I.tok _) h) λv s1 ⟨x,H1,I1,rx,i,ex,hi,q⟩=>?_)
 subst ex
 obtain⟨t,rfl⟩:=rx
 have l2:=zgU hi
 have e1:((Str.empty++a)++Str.ofString (toString i)).length=a.length+(Str.ofString (toString i)).length:=by rw[strLen_append,e0]
 have e2:(((Str.empty++a)++Str.ofString (toString i))++b).length=a.length+(Str.ofString (toString i)).length+b.length:=by rw[strLen_append,e1]
 refine PySem.wpAny_formatField_int (zjm hi) ⟨_,_,rfl,by rw[show ((Str.empty++a)++_).length=_ from e1];exact zao (by omega),?_⟩
 refine Calls.Constant_str ⟨b,_,rfl,by rw[show (((Str.empty++a)++_)++b).length=_ from e2];exact zao (by omega),?_⟩
 exact⟨by rw[show (((Str.empty++a)++_)++b).length=_ from e2];exact zao (by omega),.str _,H1,(((I1.tok _).tok _).tok _).tok _,⟨_,rfl⟩,q _⟩
theorem i_fs(h:te σ H λx H1=>∃ i:Int,x=.int i/\i.natAbs<zbn/\∀ z,Q (.str z) H1):tFs te σ H Q:=h
end
theorem zm4: zcK (CX1 P w) X E0:=λ_ _ _ _ _ _ _ h=>by
 obtain⟨_,_,_,_,_,_,_,_,_,h⟩:=h
 exact h.elim
theorem zpU{t:TA}(h:t σ H λvs H1=>sp vs H1 Q E):zhr sp [] E t σ H Q:=by
 have e:(λ(vs:List V) (H1:Hp)=>sp (vs++[]) H1 Q E)=λvs H1=>sp vs H1 Q E:=by funext vs H1;rw[List.append_nil]
 show t σ H λvs H1=>sp (vs++[]) H1 Q E
 rw[e];exact h
theorem zpV{C:Value}{t:TA}{D:Ends}(h:t σ H λvs H1=>vs.length<=sizeLine/\E C none H1):zo1 C E t D σ H:=h
theorem Acc.ext{H3:Hp}{zs:List V}(a:Acc H da H2 ds vs)(f:Free H H2)(s:Same H2 H3)(n:New H2 H3 (.lst ds2) (.ref b))(hb:H3 b=some (.lst zs)):Acc H da (upd H3 da (.lst (vs++zs))) (ds++ds2) (vs++zs):=by
 obtain⟨fp,h1,h2,h3,h4,h5⟩:=a
 obtain⟨b',zs',fq,e,b0,g1,g2,g3,g4,g5⟩:=New.lso n
 cases e
 have ez:zs'=zs:=by rw[g1] at hb;injection hb with hb;injection hb
 subst ez
 have hd3:=s _ _ h1
 have tk:=zdp (o:=.lst (vs++zs')) hd3
 have ndq:da∉fq:=λm=>by have:=g5 da m;rw[h1] at this;cases this
 have k1:∀ c∈fp,(upd H3 da (.lst (vs++zs'))) c=H2 c:=λc hc=>by
  obtain⟨o,ho⟩:=zaj.has ds h2 c hc
  rw[zai (show c≠da from λz=>h4 (by rw[<-z];exact hc)),ho]
  exact s _ _ ho
 have k2:∀ c∈fq,(upd H3 da (.lst (vs++zs'))) c=H3 c:=λc hc=>by rw[zai (show c≠da from λz=>ndq (by rw[<-z];exact hc))]
 refine⟨fp++fq,zaa,(zaj.frame (s.tups.trans tk) ds k1 h2).append (zaj.frame tk ds2 k2 g2),List.nodup_append.mpr ⟨h3,g3,λx hx y hy z=>?_⟩,λm=>(zma.mp m).elim h4 ndq,λc m=>?_⟩
 ·subst z
  obtain⟨o,ho⟩:=zaj.has ds h2 x hx
  have:=g5 x hy
  rw[ho] at this;cases this
 ·rcases zma.mp m with m | m
  ·exact h5 c m
  ·exact f c (g5 c m)
theorem i_try{tb:XK->TS}{D:Ends}(h:tb (λC _ H'=>∀ a,th C a D σ H') D σ H):tTry tb th D σ H:=h
open PySem.Calls
theorem zkl:∀ {ns:List Int}{us:List Value},ns.length=us.length->(∀ (j:Nat) (u:Value),us[j]?=some u->∃ (i:Int) (t:Tok),ns[j]?=some i/\u=Value.int i t)->Vals (ns.map V.int) us
 | [],[],_,_=>.nil
 | [],_::_,e,_=>by simp at e
 | _::_,[],e,_=>by simp at e
 | n::ns,u::us,e,h=>by
  obtain⟨i,t,e1,e2⟩:=h 0 u rfl
  have e1:n=i:=by simpa using e1
  subst e1
  exact .cons ⟨t,e2⟩ (zkl (by simpa using e) λj v hv=>by
   obtain⟨i,t,q1,q2⟩:=h (j+1) v (by simpa using hv)
   exact⟨i,t,by simpa using q1,q2⟩)
def zo2:List V->Hp->VK->Prop:=λxs H Q=>∃ (a:Addr) (kvs:List (Key × V)) (ns:List Int),xs=[.ref a]/\H a=some (.dK kvs)/\kvs.map (·.1)=ns.map Sum.inl/\ns.length<64/\∀ (l:Addr) (ns':List Int),H l=none->ns'.Perm ns->ns'.Pairwise (·<=·)->Q (.ref l) (upd H l (.lst (ns'.map V.int)))
theorem zjo(hc:X.calm=true):zcd X (.builtin "sorted") zo2:=by
 intro pins s σ H xs us Q I r h
 obtain⟨a,kvs,ns,rfl,ha,hk,h64,q⟩:=h
 obtain⟨u,rfl,rx⟩:=zik r
 cases rx
 obtain⟨z,hd,vs,rel,dd⟩:=zj9 I.hok ha
 obtain⟨ep,hat⟩:=dd.dictAt
 have hl:=rel.length
 have lk:kvs.length=ns.length:=by
  have:=congrArg List.length hk
  simpa using this
 refine call_function_entry kind_sorted plain_sorted entry_sorted (args_sorted1 _) ?_
 unfold Builtin.«sorted»
 refine wpAny_bind (m:=checkCount "sorted" 1 1 _) (wpAny_pure ?_)
 refine wpAny_bind (kdu_collect (A:=X.A.in1) (kdl_dict (knd:=zbg X.prog X.w) (kvs:=vs) (ep:=ep) hd) (show X.A.in1.handled=none from I.ok.hd hc) hat (by rw[<-hl];exact z) λh' tk acc hk' hacc=>?_)
 have hla:acc.toList.length=vs.length:=by rw[Array.length_toList];exact hacc.1
 have vl:Vals (ns.map V.int) acc.toList:=zkl (by omega) λj u hu=>by
  obtain⟨k,x,hx,hk2⟩:=hacc.2 j u (by rw[<-Array.getElem?_toList];exact hu)
  have e:(vs.map (·.1))[j]?=some k:=by rw[zgm,hx];rfl
  rw[<-rel.keys,hk,zgm] at e
  obtain⟨i,hi,rfl⟩:=zme.mp e
  rcases zbf (show ziV (Sum.inl i) u=true from hk2) with ⟨i',t,e,rfl⟩ | ⟨x',t,e,rfl⟩
  ·cases e;exact⟨i,t,hi,rfl⟩
  ·cases e
 refine wpAny_bind (wpAny_newList ?_ (by rw[hla,<-hl];exact z))
 have hoL:(h'.push {cls:=.type "list",data:=.seq acc.toList.toArray}).get? h'.objs.size=some (seqObj "list" acc.toList.toArray 0):=Heap.get?_push_size _ rfl
 have I1:Inv X pins σ H {s with heap:=h',toks:=tk}:=I.kept hk'
 refine wpAny_bind (wpAny_holding (wpAny_call_entry slot_list_sort ⟨_,hoL,rfl⟩ entry_list_sort (list_sort_tree hoL (zhW vl) (by omega) λout ns' a1 a2 a3=>⟨_,rfl,?_⟩) (args_list_sort _)))
 refine wpAny_pure ⟨_,rfl,?_⟩
 obtain⟨e,he⟩:=sortedHeap_at (out:=out) hoL
 have zn:(ns'.map V.int).length<=sizeLine:=by rw[zlm,a2.length_eq];exact zao (by omega)
 refine⟨.ref h'.objs.size,_,I1.laid (a:=h'.objs.size) (t':=tk) (λb u hu=>?_) (Nat.le_refl _) (show zbI X.prog X.w _ _ _ (.lst (ns'.map V.int)) from ⟨zn,out.toList,e,zfk a1,by rw[Array.toArray_toList];exact he⟩),rfl,q _ _ I1.fresh a2 a3⟩
 have hu:h'.get? b=some u:=hu
 have hlt:=Heap.lt_size hu
 show (sortedHeap (h'.push {cls:=.type "list",data:=.seq acc.toList.toArray}) h'.objs.size acc.toList out).get? b=some u
 rw[sortedHeap_old (Nat.ne_of_lt hlt) (by rw[size_push'];exact Nat.lt_succ_of_lt hlt)]
 exact Heap.get?_push_of_some _ hu
def zo3:List V->Hp->VK->Prop:=λxs H Q=>∃ (a:Addr) (kvs:List (Key × V)) (ns:List Int),xs=[.ref a]/\H a=some (.dK kvs)/\kvs.map (·.1)=ns.map Sum.inl/\∀ (l:Addr),H l=none->Q (.ref l) (upd H l (.lst (ns.map V.int)))
theorem zlJ(hc:X.calm=true):zcd X (.type "list") zo3:=by
 intro pins s σ H xs us Q I r h
 obtain⟨a,kvs,ns,rfl,ha,hk,q⟩:=h
 obtain⟨u,rfl,rx⟩:=zik r
 cases rx
 obtain⟨z,hd,vs,rel,dd⟩:=zj9 I.hok ha
 obtain⟨ep,hat⟩:=dd.dictAt
 have hl:=rel.length
 have lk:kvs.length=ns.length:=by
  have:=congrArg List.length hk
  simpa using this
 refine kdl_call (kdl_dict (knd:=zbg X.prog X.w) (kvs:=vs) (ep:=ep) hd) (I.ok.hd hc) hat (by rw[<-hl];exact z) λh' tk acc c' hk' hS' hacc=>?_
 have hla:acc.toList.length=vs.length:=by rw[Array.length_toList];exact hacc.1
 have vl:Vals (ns.map V.int) acc.toList:=zkl (by omega) λj u hu=>by
  obtain⟨k,x,hx,hk2⟩:=hacc.2 j u (by rw[<-Array.getElem?_toList];exact hu)
  have e:(vs.map (·.1))[j]?=some k:=by rw[zgm,hx];rfl
  rw[<-rel.keys,hk,zgm] at e
  obtain⟨i,hi,rfl⟩:=zme.mp e
  rcases zbf (show ziV (Sum.inl i) u=true from hk2) with ⟨i',t,e,rfl⟩ | ⟨x',t,e,rfl⟩
  ·cases e;exact⟨i,t,hi,rfl⟩
  ·cases e
 exact⟨.ref s.heap.objs.size,_,I.laid (t':=tk) hk' (Nat.le_refl _) (show zbI X.prog X.w _ _ _ (.lst (ns.map V.int)) from ⟨by rw[zlm];omega,acc.toList,c',vl,by rw[Array.toArray_toList];exact hS'⟩),rfl,q _ I.fresh⟩
variable {kvs:List (Key × V)}
theorem zpW(h:H a=some (.dK kvs))(e:kvs.map (·.1)=ns.map Sum.inl)(q:∀ (l:Addr),H l=none->Q (.ref l) (upd H l (.lst (ns.map V.int)))):zo3 [.ref a] H Q:=⟨a,kvs,ns,rfl,h,e,q⟩
theorem zgW:bootBuiltins "sorted"=some (.builtin "sorted"):=by decide +kernel
theorem zpX(h:H a=some (.dK kvs))(e:kvs.map (·.1)=ns.map Sum.inl)(l:ns.length<64)(q:∀ (l:Addr) (ns':List Int),H l=none->ns'.Perm ns->ns'.Pairwise (·<=·)->Q (.ref l) (upd H l (.lst (ns'.map V.int)))):zo2 [.ref a] H Q:=⟨a,kvs,ns,rfl,h,e,l,q⟩
theorem zgX:∀ {a b:List Int},a.Perm b->a.Pairwise (·<=·)->b.Pairwise (·<=·)->a=b
 | [],b,p,_,_=>by rw[List.nil_perm.mp p]
 | x::a,[],p,_,_=>by have:=p.length_eq;simp at this
 | x::a,y::b,p,h1,h2=>by
  have e:x=y:=by
   have m1:x∈y::b:=p.mem_iff.mp List.mem_cons_self
   have m2:y∈x::a:=p.mem_iff.mpr List.mem_cons_self
   rcases List.mem_cons.mp m1 with z | z
   ·exact z
   rcases List.mem_cons.mp m2 with w | w
   ·exact w.symm
   have u1:=(List.pairwise_cons.mp h2).1 x z
   have u2:=(List.pairwise_cons.mp h1).1 y w
   omega
  subst e
  rw[zgX (List.perm_cons x |>.mp p) (List.pairwise_cons.mp h1).2 (List.pairwise_cons.mp h2).2]
theorem zrG(h:∀ p,H p=none->Q (.ref p) (upd H p (.dK []))):zoR σ H Q:=h
theorem zjp {κ:Type}[DecidableEq κ](k j:κ):∀ kvs:List (κ × V),valV (zeg kvs k) j=if j=k then none else valV kvs j
 | []=>by simp[zeg,valV]
 | p::r=>by
  have ih:=zjp k j r
  by_cases e:p.1=k
  ·rw[zmJ e,ih]
   by_cases z:j=k
   ·rw[if_pos z,if_pos z]
   ·rw[if_neg z,if_neg z,zbC (λw=>z (w.symm.trans e))]
  ·rw[zmK e]
   by_cases w:p.1=j
   ·rw[zbK w,zbK w,if_neg (λz=>e (w.trans z))]
   ·rw[zbC w,zbC w,ih]
section
variable {X:Cx}{e:Expr}{te:TE}{a:Str}{k1:Nat}{p1 p2 pos:Pos}
theorem zld (he:PE X e te)(ha:a.length<=400):PE X (.JoinedStr [.Constant (.str a) k1 p1,.FormattedValue e (-1) none p2] pos) (tFs te):=by
 intro pins s σ H Q I h
 have e0:(Str.empty++a).length=a.length:=by rw[strLen_append];show 0+a.length=_;omega
 refine PySem.wpAny_JoinedStr ?_
 show Joins _ _ _ [eval (.Constant (.str a) k1 p1) X.env,eval (.FormattedValue e (-1) none p2) X.env] _ _ _
 refine Calls.Constant_str ⟨a,_,rfl,by rw[e0];exact zao (by omega),?_⟩
 refine PySem.wpAny_FormattedValue_plain (thn (he pins _ σ H _ (I.tok _) h) λv s1 ⟨x,H1,I1,rx,i,ex,hi,q⟩=>?_)
 subst ex
 obtain⟨t,rfl⟩:=rx
 have l2:=zgU hi
 have e1:((Str.empty++a)++Str.ofString (toString i)).length=a.length+(Str.ofString (toString i)).length:=by rw[strLen_append,e0]
 refine PySem.wpAny_formatField_int (zjm hi) ⟨_,_,rfl,by rw[show ((Str.empty++a)++_).length=_ from e1];exact zao (by omega),?_⟩
 exact⟨by rw[show ((Str.empty++a)++_).length=_ from e1];exact zao (by omega),.str _,H1,((I1.tok _).tok _).tok _,⟨_,rfl⟩,q _⟩
end
section
variable {X:Cx}{k j:Nat}{C:Addr}{ps:List Str}{sp:Sp}{x:Str}{p pos:Pos}
theorem zrH (G:Mkr X.prog X.w X.K X.mg X.base x C ps j sp)(hr:Room k X.A)(hg:Gl X x)(hj:j+1<=k:=by decide)(hdb:(x == ("__debug__" : Str))=false:=by decide):PE X (.Call (.Name x p) [] [] pos) (zhs C sp [] E0 tNil):=by
 obtain⟨f,fd,M,F,hb,hm⟩:=G.ex
 exact znQ M F (hr.mono hj) hg hm hb .nil zbi hdb
end
theorem zrI{m:Str}{t:TA}(h:ta σ H λx H1=>MethI C m x H1 (t σ H1 λvs H2=>sp (x::vs) H2 Q E)):ziZ C m sp [] E ta t σ H Q:=by
 have e:(λ(x:V) (vs:List V) (H2:Hp)=>sp (x::(vs++[])) H2 Q E)=λx vs H2=>sp (x::vs) H2 Q E:=by funext x vs H2;rw[List.append_nil]
 show ta σ H λx H1=>MethI C m x H1 (t σ H1 λvs H2=>(λ(x:V) (vs:List V) (H2:Hp)=>sp (x::(vs++[])) H2 Q E) x vs H2)
 rw[e];exact h
theorem zpY{td ty tx:TE}(h:td σ H λx H1=>∃ a,x=.ref a/\IsD H1 a/\ty σ H1 λy H2=>tx σ H2 λz H3=>∃ kvs k,H3 a=some (.dK kvs)/\y=kV k/\(∀ v,valV kvs k=some v->Q v (upd H3 a (.dK (zeg kvs k))))/\(valV kvs k=none->Q z H3)):zoU td ty tx σ H Q:=h
theorem ndS(h:N.Nodup:=by decide +kernel):N.Nodup:=h
theorem COk.m(kind:scope.kind=.function:=by rfl)(nocell:∀ y∈scope.names,y.2≠.cell:=by decide +kernel)(nm:∀ y∈scope.names,y.2=.local->scope.names.lookup y.1=some .local:=by decide +kernel)(fr:∀ y∈scope.names,y.2=.free->sc0.names.lookup y.1=some .cell\/sc0.names.lookup y.1=some .free:=by decide +kernel)(len:ms.length=N'.length:=by rfl)(sl:zgR N scope N' ms (N.map some)=true:=by decide +kernel):COk sc0 N scope N' ms:=COk.mk' kind nocell nm fr len sl
section
variable {X:Cx}{k:Nat}{pins:List (Addr × Obj)}{σ:St}{H:Hp}{s:Shared}
end
def tTru (K:Fg)(ta:TE):TT:=λσ H Q=>ta σ H λx H'=>∃ k,TruV K x H' k/\Q k H'
theorem zrJ{a:Expr}(K:Fg)(ha:PE X a ta)(hK:X.K=K:=by rfl)(he:∀ whole,isTrue a X.env whole=(do let v <-whole;standAt a.pos;holding [v] (truthy v)):=by intro _;rfl):PT X a (tTru K ta):=by subst hK;exact znM ha he
theorem i_tru{Q:Bool->Hp->Prop}(h:ta σ H λx H'=>∃ k,TruV K x H' k/\Q k H'):tTru K ta σ H Q:=h
theorem zo4{P:Bool->Prop}(h:SqL K H a xs)(q:P (!xs.isEmpty)):∃ k,TruV K (.ref a) H k/\P k:=⟨_,.inl ⟨xs,h,rfl⟩,q⟩
theorem i_pop(h:H a=some (.lst xs))(e:xs[xs.length - 1]?=some y)(q:Q y (upd H a (.lst xs.dropLast))):rPop (.ref a) [] H Q:=⟨a,xs,y,rfl,rfl,h,e,q⟩
theorem zrK(h:H a=some (.lst (y::xs)))(q:Q y (upd H a (.lst xs))):zoQ (.ref a) [.int 0] H Q:=⟨a,y::xs,0,0,y,rfl,rfl,h,by decide,by decide,by unfold seqIndex?;simp,rfl,q⟩
mutual
theorem RepF.hasL {H:Hp} : ∀ (d:D) {v:V}{fp:List Addr},RepF H d v fp->∀ a∈fp,∃ xs,H a=some (.lst xs)
 | .non,_,_,h,a,m=>by unfold RepF at h;rw[h.2] at m;cases m
 | .bl _,_,_,h,a,m=>by unfold RepF at h;rw[h.2] at m;cases m
 | .int _,_,_,h,a,m=>by unfold RepF at h;rw[h.2] at m;cases m
 | .str _,_,_,h,a,m=>by unfold RepF at h;rw[h.2] at m;cases m
 | .lst ds,_,_,h,b,m=>by
  unfold RepF at h
  obtain⟨a,xs,r,h1,h0,h2,h3⟩:=h
  subst h0
  rcases List.mem_cons.mp m with rfl | m
  ·exact⟨_,h2⟩
  ·exact zaj.hasL ds h3 b m
 | .tup ds,_,_,h,b,m=>by
  unfold RepF at h
  obtain⟨a,xs,h1,h2,h3⟩:=h
  exact zaj.hasL ds h3 b m
theorem zaj.hasL {H:Hp} : ∀ (ds:List D) {vs:List V}{fp:List Addr},zaj H ds vs fp->∀ a∈fp,∃ xs,H a=some (.lst xs)
 | [],_,_,h,a,m=>by unfold zaj at h;rw[h.2] at m;cases m
 | d::ds,_,_,h,b,m=>by
  unfold zaj at h
  obtain⟨v,r,f,g,h1,h0,h2,h3⟩:=h
  subst h0
  rcases zma.mp m with m | m
  ·exact RepF.hasL d h2 b m
  ·exact zaj.hasL ds h3 b m
end
structure Kn (u:TS)(D:Ends)(NX:St->Hp->Prop):Prop where
 on:∀ σ H,u D σ H->NX σ H
theorem zo5{t:TS}{D:Ends}(h:∀ NX:St->Hp->Prop,Kn u D NX->t {D with nx:=NX} σ H):tSeq t u D σ H:=h _ ⟨λ_ _ q=>q⟩
theorem goOn{D:Ends}{NX:St->Hp->Prop}(k:Kn u D NX)(h:u D σ H):NX σ H:=k.on _ _ h
theorem i_ifK{t:TS}{D:Ends}(h:∀ T:St->Hp->Prop,Kn t D T->∀ U:St->Hp->Prop,Kn u D U->c σ H λb H1=>if b=true then T σ H1 else U σ H1):tIfS c t u D σ H:=h _ ⟨λ_ _ q=>q⟩ _ ⟨λ_ _ q=>q⟩
theorem zrL{n q:Str}{ps:Arguments}{b:List Stmt}(h:zaH K a=some (zpc n q ps b sc))(hc:zal K a q=true):
  ∃ oc od sl kV dc pm an cd ct,K.lookup a=some ⟨oc,od,.func (fnOf n q ps b sc .none kV dc pm an cd ct),sl⟩/\codeIn K cd q=true/\keepIn K (.ref a)=true:=by
 unfold zaH at h
 unfold zal at hc
 split at h
 ·rename_i oc od f sl e
  rw[e] at hc
  simp only[Bool.and_eq_true] at hc
  obtain⟨c1,c2⟩:=hc
  obtain⟨f1,f2,f3,f4,f5,f6,f7,f8,f9,f10,f11,f12,f13,f14,f15⟩:=f
  have h:=Option.some.inj h
  unfold zpc at h
  simp only[Prod.mk.injEq] at h
  obtain⟨rfl,rfl,rfl,rfl,rfl,rfl,rfl,rfl,rfl⟩:=h
  exact⟨oc,od,sl,_,_,_,_,_,_,e,c1,c2⟩
 ·cases h
theorem exc_of{bm:List Value}{newId:String}(h:zf2 K C bm newId=true):
  ∃ nm q N bs hdct sn sub ab col dd k0 k1 k2 k3 k5,K.lookup C=some (excClassObj nm q C N bs bm hdct sn sub ab col dd k0 k1 k2 k3 k5 newId):=by
 unfold zf2 at h
 split at h
 ·rename_i cl dd c sl e
  simp only[Bool.and_eq_true] at h
  obtain⟨⟨⟨h1,h2⟩,h3⟩,h4⟩:=h
  obtain⟨c1,c2,c3,c4,c5,c6,c7,c8,c9,c10,c11⟩:=c
  have h1:=eq_of_beq h1
  have h2:c3=.ref C::bm:=eq_of_beq h2
  have h30:c11=false:=by cases c11 <;> first | rfl | cases h3
  subst h1 h2 h30
  split at h4
  ·rename_i k0 k1 k2 k3 v k5 es
   have h4:=eq_of_beq h4
   subst h4
   have es:sl=#[k0,k1,k2,k3,some (.builtin newId),k5]:=by rw[<-Array.toArray_toList (xs:=sl),es]
   subst es
   exact⟨_,_,_,_,_,_,_,_,_,_,_,_,_,_,_,e⟩
  ·cases h4
 ·cases h
theorem tup_of{vs:List Value}(h:zhQ K a vs=true):∃ dd n ss,K.lookup a=some ⟨.type "tuple",dd,.seq vs.toArray n,ss⟩:=by
 unfold zhQ at h
 split at h
 ·rename_i cl dd xs n ss e
  simp only[Bool.and_eq_true] at h
  obtain⟨h1,h2⟩:=h
  have h1:=eq_of_beq h1
  have h2:xs.toList=vs:=eq_of_beq h2
  subst h1 h2
  exact⟨dd,n,ss,by rw[Array.toArray_toList];exact e⟩
 ·cases h
theorem walk_ofE{l:PySem.W.OpenLaw}{k:Nat}{q:Program}{loose:List Str}{XP:(Str->Option Value)->Heap->Prop}{YP:World->Heap->Prop}{d:DefRec}{S:Fg->Prop}{sp:Fg->Sp}(hn:l.most=some n)(hn2:n<=sizeLine)(hdf:d.params.defaults=[])(hr:Room k callerA)(hY:∀ (w:World) (h:Heap),YP w h->∃ K:Fg,K.In h/\S K)(F:∀ (w:World) (K:Fg) (mg:Str->Option Value) (fa:Addr) (h:Heap),S K->K.In h->h.Ns mainGlobals mg->mg d.name=some (.ref fa)->
   ∃ fd:FuncData,(∀ (s:Shared) (u:Value),BindsTo s fd ⟨[u],[]⟩ [(x,u)])/\
    ∀ base:Heap,K.In base->base.Ns mainGlobals mg->FnOk l.prog w K mg base CX k fa fd [x] (sp K))(hsp:∀ (K:Fg) (H:Hp) (a:Addr) (ns:List Int),ns.length<=n->Only H->SqL K H a (ns.map V.int)->sp K [.ref a] H (λv _=>v=.bl true) λ_ _ _=>False)(hCX:∀ (H:Hp) (s:Shared) (e:Value) (s':Shared),CX [] H s (λ_ _ _=>False) e s'->False):
  PySem.W.WalkO q loose XP YP l.row.toRowW d [] (λf vs=>PySem.call f vs):=by
 refine Att.attach_call hn hdf λw s₀ s₁ mg mb fa o pm cd doc a vs ns G Y ho hd hcd hmg hobj hints hlen hg=>?_
 obtain⟨K,KX,hS⟩:=hY w _ Y
 obtain⟨fd,hb,hF⟩:=F w K mg fa _ hS KX G.T.g hmg
 exact znW KX G.T.g G.T.b G.T.builtins G.T.nolimit hg hobj hints (Nat.le_trans hlen hn2) hr hF hb (λH hO hS=>hsp K H a ns hlen hO hS) λH e s'=>hCX H s₁ e s'
end L2

set_option maxHeartbeats 0
namespace L2
open PySem PySem.Spec PySem.Calls PyProof.Rows
section
variable {prog:Program}{w:World}{A:Around}{E:Value->Shared->Prop}{h:Heap}{g:Array GenState}{d:Drawn}{t:Nat}{os:OsState}{a:Addr}{o:Obj}
end
section
variable {prog:Program}{w:World}{A:Around}{E:Value->Shared->Prop}{h:Heap}{g:Array GenState}{d:Drawn}{t:Nat}{os:OsState}{a:Addr}{o:Obj}{its:Array Value}{n:Nat}
end
section
variable {prog:Program}{w:World}{K:Type} [DecidableEq K] {knd:KeyKind prog w K}{A:Around}
end
section
variable {prog:Program}{w:World}{K:Type} [DecidableEq K] {knd:KeyKind prog w K}{A:Around}{E:Value->Shared->Prop}{s:Shared}
end
open PySem.W
def zrM:R2:=λx y H Q=>∃ i j,x=.bl i/\y=.bl j/\Q (.bl (!decide (i=j))) H
theorem zm5 {X:Cx} : OpR X (compareOp .IsNot) zrM:=by
 intro pins s σ H x y v u Q I rx ry h
 obtain⟨i,j,rfl,rfl,q⟩:=h
 cases rx
 cases ry
 exact isnot_bool (zbb I q (by cases i <;> cases j <;> rfl))
variable {H:Hp}
theorem zo6{Q:VK}{i j:Bool}(q:Q (.bl (!decide (i=j))) H):zrM (.bl i) (.bl j) H Q:=⟨i,j,rfl,rfl,q⟩
section
variable {prog:Program}{w:World}{A:Around}{E:Value->Shared->Prop}{s:Shared}{R:Result->Shared->Prop}
end
section
variable {prog:Program}{w:World}{A:Around}{E:Value->Shared->Prop}{s:Shared}{K:Fg}{x C D:Addr}{ox:Obj}{od:Obj}{odo:Option Obj}{name:Str}
theorem zok {Q:Option Value->Shared->Prop}(X:K.In s.heap)(I:InstAt s.heap x ox D odo)(hga:findIn K (.ref D) "__getattribute__"=some (some (.builtin "BaseException.__getattribute__")))(hk:findIn K (.ref D) "__getattr__"=some none)(hb:mroIn K D (.type "BaseException")=some true)
  (hf:findObj K D odo "__class__"=some (.bind (.builtin "getset_descriptor.__get__") (.builtin "object.__class__"))) (hm:mroIn K D (.type "object")=some true)
  (h:Q (some (.ref D)) {s with toks:=s.toks+1}) :
  wpAny (model prog w) A (getAttr? (.ref x) "__class__") Q E s:=by
 obtain⟨hh,g,d,t,os⟩:=s
 have L0:=I.type (M:=model prog w)
 have L1:=looks_findIn (M:=model prog w) X hga
 have L2:=looks_findIn (M:=model prog w) X hk
 unfold getAttr? getAttrBy? getAttrBy
 refine wpAny_bind (wpAny_mkText (wpAny_bind (wpAny_attempt (wpAny_holding (wpAny_bind (L0.at (wpAny_bind (L1.at ?_))))))))
 show wpAny _ _ (getAttrByItsOwn _ _ _ _ _ _) _ _ _
 unfold getAttrByItsOwn hookBefore
 rw[show (if onTheHeap (Value.ref D)=true then typeLookup (.ref D) "__getattr__" else pure none)=typeLookup (.ref D) "__getattr__" from rfl]
 refine wpAny_bind (L2.at (wpAny_bind (wpAny_attempt (wpAny_holding ?_))))
 show wpAny _ _ (boundAndCalled _ _ _) _ _ _
 unfold boundAndCalled
 have f3:=PySem.F.excAttr_ValueError.ga.bind (.ref x)
 rw[f3]
 refine wpAny_bind (wpAny_pure ?_)
 have L3:=looks_mroIn (M:=model prog w) X hb
 refine wpAny_call (codeAny_call_builtin PySem.F.excAttr_ValueError.ga.plain F.entry_bexc_ga ?_)
 have hkd:builtinKind "BaseException.__getattribute__"=some .slot:=by decide +kernel
 have hsplit:splitId "BaseException.__getattribute__"=some ("BaseException","__getattribute__"):=by decide +kernel
 have ha:=F.args_bexc_ga (.ref x) (.str "__class__" t)
 have L4:=looks_find (M:=model prog w) X I hf
 simp only[checkBuiltinCall,hkd,hsplit,List.cons_append,List.nil_append]
 unfold isInstance
 repeat lk
 refine wpAny_run (class_get (s:=⟨hh,g,d,t+1,os⟩) (ox:=ox) (od:=odo) X I hm ?_)
 refine wpAny_pure (wpAny_pure ?_)
 exact handed_on rfl (wpAny_pure h)
end
structure ErrIs2 (K:Fg)(C:Addr):Prop where
 ga:findIn K (.ref C) "__getattribute__"=some (some (.builtin "BaseException.__getattribute__"))
 gk:findIn K (.ref C) "__getattr__"=some none
 ha:findIn K (.ref C) "__class__"=some (some (.builtin "object.__class__"))
 hn:specialIn K (.builtin "object.__class__") "__get__"=some (some (.builtin "getset_descriptor.__get__"))
 htk:takesIn K (.builtin "object.__class__")=some true
 hm:mroIn K C (.type "object")=some true
 hb:mroIn K C (.type "BaseException")=some true
variable {K:Fg}{C:Addr}{anc:List Value}
theorem zjq{a:Addr}{o:Obj}(e:Err K C anc)(i:ErrIs2 K C)(hc:o.cls=.ref C)(hd:o.dict=none)(hn:∀ v,o.data≠.cls v):KitX K (.ref a) (.ref C) (λh=>h.get? a=some o):=by
 obtain⟨cC,c1,c2,c3⟩:=e.cls
 have inst:∀ h:Heap,h.get? a=some o->InstAt h a o C none:=λh ho=>⟨ho,hc,by unfold notCls;split <;> simp_all,by rw[hd];trivial⟩
 refine⟨λM h _ ho=>(inst h ho).type,λM h X ho=>?_,λh tp dd its n sl X htp=>?_,λ{prog w A E Q s} X ho k=>?_⟩
 ·unfold clsIn at c1
  split at c1
  ·rename_i c' d' cd' sl' hl
   intro A' Q' E' s' k q
   unfold isType loadHead
   exact wpAny_bind (wpAny_loadPart (k _ _ (X _ _ hl)) (wpAny_pure q))
  ·cases c1
 ·refine Bool.eq_false_iff.mpr λq=>?_
  have e:C=tp:=Value.ref.inj (beq_iff_eq.mp q)
  subst e
  unfold clsIn at c1
  split at c1
  ·rename_i c' d' cd' sl' hl
   have z:=(X _ _ hl).symm.trans htp
   cases z
  ·cases c1
 ·have hf:findObj K C none "__class__"=some (.bind (.builtin "getset_descriptor.__get__") (.builtin "object.__class__")):=by
   unfold findObj
   rw[c1,Option.bind_some,i.ha,Option.bind_some]
   simp[i.hn,i.htk]
  exact zok X (inst _ ho) i.ga i.gk i.hb hf i.hm k
theorem zm6 {X:Cx} : zcd X (.builtin "isinstance") (λxs H Q=>∃ a C D anc ancD,xs=[.ref a,.ref D]/\Pin X a (.ref C)/\Err X.K C anc/\ErrIs2 X.K C/\Err X.K D ancD/\Q (.bl ((Value.ref C::anc).contains (.ref D))) H):=by
 intro pins s σ H xs us Q I r h
 obtain⟨a,C,D,anc,ancD,rfl,⟨o,hp,hc,hd,hn⟩,eC,iC,eD,q⟩:=h
 obtain⟨u,v,rfl,ru,rv⟩:=znN r
 cases ru;cases rv
 exact kia_one (zjq eC iC hc hd hn) I.kIn (I.pin (a,o) (List.mem_append_left _ hp)).1 (zpQ eC eD) (λz=>nomatch z) λtk=>⟨.bl _,H,I.tok tk,rfl,q⟩
structure RoomH (k:Nat)(A:Around):Prop where
 dp:A.depth+3 * k+5<recursionLimit
 un:A.units+16 * k+200<cLine
 gd:A.guards=some []
variable {A:Around}
theorem Room.h{k:Nat}(r:Room k A)(v:Option Value):RoomH k (A.mark v):=⟨r.dp,r.un,r.gd⟩
theorem RoomH.deeper{k:Nat}(r:RoomH (k+1) A)(env:Env):RoomH k (A.deeper env):=
 ⟨by have:=r.dp;show A.depth+1+3 * k+5<_;omega,by have:=r.un;show A.units+3+16 * k+200<_;omega,r.gd⟩
theorem RoomH.depth{k:Nat}(r:RoomH k A):A.depth<recursionLimit:=by have:=r.dp;omega
def cxH (CX:CXT)(P:Program)(w:World)(K:Fg)(mg:Str->Option Value)(base:Heap)(N:List Str)(qual:Str)(scope:Scope)(f:Addr)(cd:Value)(A:Around)(outer:List Env)(s:Shared)(H:Hp)(E:XK)(x0:Addr)(o0:Obj):Cx:=
 {cxOf CX P w K mg base N qual scope f cd A outer s H E with calm:=false,pn:=[(x0,o0)]}
structure FnOkH (P:Program)(w:World)(K:Fg)(mg:Str->Option Value)(base:Heap)(CX:CXT)(k:Nat)(f:Addr)(fd:FuncData)(ps:List Str)(sp:Value->Addr->Sp):Prop where
 len:∀ c x vs H Q E,sp c x vs H Q E->vs.length=ps.length
 run:∀ (A:Around) (outer:List Env) (s:Shared) (H:Hp) (args:Args) (us:List Value) (vs:List V) (Q:VK) (E:XK) (x0:Addr) (o0:Obj),RoomH k A->Env0 P w K mg base A outer s H->s.heap.get? x0=some o0->H x0=none->x0∉frs outer->(∀ v,o0.data≠.cell v)->o0.dict=none->(∀ v,o0.data≠.cls v)->BindsTo s fd args (ps.zip us)->Vals vs us->sp o0.cls x0 vs H Q E->
  codeAny (model P w) A (.call (.ref f) args) (CR CX outer P w H s Q E) s
variable {CX:CXT}{P:Program}{w:World}{mg:Str->Option Value}{base:Heap}{N ps:List Str}{qual:Str}{scope:Scope}{f:Addr}
theorem zlK{cd:Value}{outer:List Env}{s s1:Shared}{E:XK}{us:List Value}{vs:List V}(S:FSc N ps scope){x0:Addr}{o0:Obj}(ho:s.heap.get? x0=some o0)(hH:H x0=none)(hF:x0∉frs outer)(hC:∀ v,o0.data≠.cell v)(e0:Env0 P w K mg base A outer s H)(hl:vs.length=ps.length)(r:Vals vs us)(x:InCallC s s.heap.objs.size (bindL (envOfC qual scope s.heap.objs.size f cd).kindOf (ps.zip us) λ_=>none) (cellsFrom (s.heap.objs.size+1) scope.names []) (bindC (envOfC qual scope s.heap.objs.size f cd).kindOf (ps.zip us) λ_=>none) s1):
  Inv (cxH CX P w K mg base N qual scope f cd A outer s H E x0 o0) [] (start N vs) H s1:=by
 have hpl:ps.length<=N.length:=by have:=congrArg List.length S.pre;rw[List.length_take] at this;omega
 obtain⟨h1,tk,rfl,hk⟩:=x.done
 have noA:∀ b:Addr,b∉(cxH CX P w K mg base N qual scope f cd A outer s H E x0 o0).ex:=λb z=>absurd (show b∈([]:List Addr) from z) (by simp)
 refine⟨⟨e0.mod,S.kind,rfl,rfl,Nat.le_refl _,λy z c h1 h2=>?_,λy hy=>?_,λy c _ h=>?_,(λz=>absurd z Bool.false_ne_true),Around.frames_deeper e0.frames,.inr ⟨rfl,rfl⟩,λb z=>absurd z (noA b),e0.bs,e0.bsz,λb _ _=>noA b,λb z=>absurd z (noA b),e0.funs,e0.frf⟩,
  rfl,e0.bare,Un.kept hk,⟨_,x.toInCall.ns,λi y v h1 h2 h3=>?_⟩,λy c h=>⟨_,x.cell y c h⟩,e0.hok.fresh (Nat.le_refl _),λy c h=>?_,λp hp=>?_,e0.hok.kept hk,?_⟩
 ·exact name_of_addr x.apart (PySem.mem_of_lookup h1) (PySem.mem_of_lookup h2)
 ·have hy:scope.names.lookup y=some .cell\/scope.names.lookup y=some .free:=hy
  rcases hy with hy | hy
  ·exact zgp hy
  ·exact absurd rfl (S.nofree _ (PySem.mem_of_lookup hy))
 ·exact Nat.le_of_lt (x.above y c (PySem.mem_of_lookup h))
 ·have hi:i<vs.length:=by
   unfold start at h2
   by_cases hi:i<vs.length
   ·exact hi
   ·rw[List.getElem?_append_right (by simpa using hi)] at h2
    rw[List.getElem?_replicate] at h2
    split at h2 <;> cases h2
  have ha:vs[i]?=some v:=by
   unfold start at h2
   rw[List.getElem?_append_left (by simpa using hi),zgm] at h2
   cases e:vs[i]? with
   | none=>rw[e] at h2;cases h2
   | some a=>rw[e] at h2;cases h2;rfl
  obtain⟨u,hu,rv⟩:=r.get ha
  have hp:ps[i]?=some y:=by
   rw[<-S.pre,List.getElem?_take_of_lt (by omega)];exact h1
  have ndP:ps.Nodup:=by rw[<-S.pre];exact S.nd.sublist (List.take_sublist _ _)
  refine⟨u,rv,?_⟩
  rcases S.par y (zmg hp) with k | k
  ·exact .inl ⟨k,zgG ndP hp hu k⟩
  ·obtain⟨c,e⟩:=zgp (n:=s.heap.objs.size+1) k
   refine .inr ⟨.inl k,c,e,?_⟩
   have q:=x.cell y c e
   rw[zgH ndP hp hu (by show scope.names.lookup y≠_;rw[k];decide)] at q
   exact q
 ·exact e0.hok.fresh (Nat.le_of_lt (x.above y c (PySem.mem_of_lookup h)))
 ·have hp:p∈[(x0,o0)]:=hp
  rw[zms.mp hp]
  exact⟨hk _ _ ho,hH,Nat.ne_of_lt (Heap.lt_size ho),hF,hC⟩
 ·unfold start
  show _=N.length
  rw[List.length_append,zlm,List.length_replicate]
  omega
variable {body:List Stmt}{sp:Value->Addr->Sp}
theorem zrN{k:Nat}{name:Str}{params:Arguments}{dV kV doc pm cdv ct oc:Value}{an od:Option Addr}{osl:Array (Option Value)}(lk:K.lookup f=some ⟨oc,od,.func (PySem.W.fnOf name qual params body scope dV kV doc pm an cdv ct),osl⟩)(hcd:PySem.W.codeIn K cdv qual=true)(S:FSc N ps scope)(len:∀ c x vs H Q E,sp c x vs H Q E->vs.length=ps.length)(hbody:∀ (A:Around) (outer:List Env) (s:Shared) (H:Hp) (vs:List V) (Q:VK) (E:XK) (x0:Addr) (o0:Obj),RoomH k (A.deeper (envOfC qual scope s.heap.objs.size f cdv))->o0.dict=none->(∀ v,o0.data≠.cls v)->sp o0.cls x0 vs H Q E->
   ∃ t,PSs (cxH CX P w K mg base N qual scope f cdv A outer s H E x0 o0) body t/\t {nx:=λ_ H'=>Q .non H',rt:=Q} (start N vs) H):
  FnOkH P w K mg base CX (k+1) f (PySem.W.fnOf name qual params body scope dV kV doc pm an cdv ct) ps sp:=by
 refine⟨len,λA outer s H args us vs Q E x0 o0 hr e0 ho hH hF hC hd hn hb r hsp=>?_⟩
 have hl:=len _ _ _ _ _ _ hsp
 have KX:K.In s.heap:=e0.mod.kin.keeps λb o e=>(e0.bs b o e).1
 have lim:s.heap.NoLimit:=e0.mod.nolimit.keeps λb o e=>(e0.bs b o e).1
 have hkind:∀ y∈ps.zip us,scope.names.lookup y.1=some .local\/(scope.names.lookup y.1=some .cell/\((cellsFrom (s.heap.objs.size+1) scope.names []).lookup y.1).isSome=true):=λ⟨n,v⟩ hy=>by
  rcases S.par n (List.of_mem_zip hy).1 with q | q
  ·exact .inl q
  ·exact .inr ⟨q,PySem.W.cellsFrom_some _ _ _ (.inl q)⟩
 refine codeAny_call_function hr.depth (KX _ _ lk) rfl S.co S.gen rfl (PySem.W.codeRec_of KX hcd) (hb _ _ _ _ ?_)
 refine wpAny_newFunctionEnv_cells S.kind hkind λenv he s1 x=>?_
 subst he
 refine⟨lim.keeps x.toInCall.keep,codeAny_func ?_⟩
 obtain⟨t,ht,hq⟩:=hbody A outer s H vs Q E x0 o0 (hr.deeper _) hd hn hsp
 have I:Inv (cxH CX P w K mg base N qual scope f cdv A outer s H E x0 o0) [] (start N vs) H s1:=zlK S ho hH hF hC e0 hl r x
 refine wpAny_mono (ht [] s1 (start N vs) H _ I hq) (λfl s' hs=>?_) λe s' hs=>hs
 have fin:∀ {σ':St}{H':Hp}{v:V}{u:Value},Inv (cxH CX P w K mg base N qual scope f cdv A outer s H E x0 o0) [] σ' H' s'->RelV v u->Q v H'->CE outer P w H s Q u s':=
  λ{σ' H' v u} J rv q=>⟨v,H',J.os,J.bare,J.base,J.hok,rv,q⟩
 cases fl with
 | ret u=>
  obtain⟨v,σ',H',J,rv,q⟩:=hs
  exact fin J rv q
 | next=>
  obtain⟨σ',H',J,q⟩:=hs
  exact fin (v:=V.non) (u:=Value.none) J rfl q
 | brk=>
  obtain⟨_,_,_,q⟩:=hs
  exact False.elim q
 | cont=>
  obtain⟨_,_,_,q⟩:=hs
  exact False.elim q
section
variable {X:Cx}{CX:CXT}{k:Nat}{f:Addr}{fd:FuncData}{ps:List Str}{sp:Value->Addr->Sp}{E:XK}{x:Str}{p pos:Pos}{e:Expr}{es:List Expr}{t:TA}{a:Addr}{o:Obj}
theorem zol (F:FnOkH X.prog X.w X.K X.mg X.base CX k f fd ps sp)(hr:Room k X.A)(hg:Gl X x)(hm:X.mg x=some (.ref f))(hk:PySem.W.keepIn X.K (.ref f)=true)(hb:zef X.K fd ps [])(hx:zcK CX (XH X a o) E)(hd:o.dict=none)(hn:∀ v,o.data≠.cls v)
  (ha:PA (XH X a o) (e::es) t) (hdb:(x == ("__debug__" : Str))=false:=by decide) (he:starEach (e::es) X.env=(false,eval e X.env)::starEach es X.env:=by rfl) (hpl:(backTo pos (starEach es X.env)).any (·.1)=false:=by rfl) :
  PE (XH X a o) (.Call (.Name x p) (e::es) [] pos) (zhr (sp o.cls a) [] E t):=by
 intro pins s σ H Q I h
 refine wpAny_Call_Name_kw (zdY I hg hm ?_ hdb)
 refine PySem.W.callWith_K (h₀:=X.base) I.ok.mod.kin hk (thn (ha pos pins s σ H _ I h) λus s1 ⟨vs,H1,I1,r,q⟩=>⟨I1.kIn,?_⟩) he hpl
 have q:sp o.cls a (vs++[]) H1 Q E:=q
 rw[List.append_nil] at q
 have hl:us.length=ps.length:=by rw[<-r.length];exact F.len _ _ _ _ _ _ q
 have pin:=I1.pin (a,o) (List.mem_append_left _ (.head _))
 have hF:a∉frs X.stack:=by
  rcases I1.ok.stk with z | ⟨z,zf⟩
  ·have z:X.stack=X.outer:=z
   rw[z];exact pin.2.2.2.1
  ·have z:X.stack=X.env::X.outer:=z
   have zf:X.env.frame=some X.env.locals:=zf
   rw[z]
   unfold frs
   rw[List.filterMap_cons,zf]
   exact λy=>by
    rcases List.mem_cons.mp y with w | w
    ·exact pin.2.2.1 w
    ·exact pin.2.2.2.1 w
 have hb':=hb s1 us I1.kIn (by rw[List.append_nil];exact hl)
 rw[List.append_nil] at hb'
 refine wpAny_call (codeAny_mono (F.run (XH X a o).A X.stack s1 H1 ⟨us,[]⟩ us vs Q E a o (hr.h _) I1.env0 pin.1 pin.2.1 hF pin.2.2.2.2 hd hn hb' r q) λr s' hq=>?_)
 cases r with
 | error e=>exact hx pins σ H1 s1 e s' I1 hq
 | ok fl=>
  cases fl with
  | ret u=>exact I1.after hq
  | next=>exact False.elim hq
  | brk=>exact False.elim hq
  | cont=>exact False.elim hq
end
open PySem.SeqAt
def zpZ:V->List V->Hp->VK->Prop:=λx vs H Q=>∃ (l:Addr) (bs:List Bool),x=.ref l/\vs=[.bl true]/\H l=some (.lst (bs.map V.bl))/\Q (.int (bs.countP id:Nat)) H
def zp0:V->List V->Hp->VK->Prop:=λx vs H Q=>∃ (l:Addr) (bs:List Bool) (j:Nat),x=.ref l/\vs=[.bl true]/\H l=some (.lst (bs.map V.bl))/\bs[j]?=some true/\(∀ m,m<j->bs[m]?=some false)/\j<1000/\Q (.int (j:Int)) H
theorem ziv:∀ {bs:List Bool}{us:List Value},Vals (bs.map V.bl) us->us=bs.map Value.bool
 | [],_,h=>by cases h;rfl
 | b::bs,_,h=>by
  cases h with
  | cons h1 h2=>cases h1;rw[ziv h2];rfl
theorem eqT {bs:List Bool}{y:Value}(hy:y∈(bs.map Value.bool).toArray)(A:Around)(s:Shared):EqAt A s y (.bool true) (isBoolOf true y):=by
 simp only[List.mem_toArray,zmm] at hy
 obtain⟨b,_,rfl⟩:=hy
 exact EqAt.bool_bool b true
variable {X:Cx}
theorem zm7:MtM X "list.count" zpZ:=by
 intro pins s σ H x vs v us Q I rx rv h
 obtain⟨l,bs,rfl,rfl,hH,q⟩:=h
 cases rx
 obtain⟨u,rfl,ru⟩:=rv.one
 cases ru
 obtain⟨z,its,n,r,hl,e⟩:=I.lstM hH
 have ei:=ziv r
 subst ei
 refine call_meets F.slot_list_count ⟨_,e,rfl⟩ F.entry_list_count (F.args_list_count_2 _ _) (list_countAt l (bs.map Value.bool).toArray n none #[] (.bool true) (isBoolOf true)) ⟨e,λy hy=>eqT hy _ _,?_⟩
 have h1:(bs.map Value.bool).toArray.toList.countP (isBoolOf true)=bs.countP id:=by
  rw[List.countP_map]
  congr 1
  funext b
  cases b <;> rfl
 rw[h1]
 exact⟨.int _,H,I.tok _,⟨_,rfl⟩,q⟩
theorem zm8:MtM X "list.index" zp0:=by
 intro pins s σ H x vs v us Q I rx rv h
 obtain⟨l,bs,j,rfl,rfl,hH,hj,hm,hk,q⟩:=h
 cases rx
 obtain⟨u,rfl,ru⟩:=rv.one
 cases ru
 obtain⟨z,its,n,r,hl,e⟩:=I.lstM hH
 have ei:=ziv r
 subst ei
 obtain⟨jl,je⟩:=zge.mp hj
 refine call_meets F.slot_list_index ⟨_,e,rfl⟩ F.entry_list_index (F.args_list_index_2 _ _) (list_indexAt l (bs.map Value.bool).toArray n none #[] (.bool true) (isBoolOf true) j (by simpa using jl) (by omega) ?_ ?_) ⟨e,λy hy=>eqT hy _ _,⟨.int _,H,I.tok _,⟨_,rfl⟩,q⟩⟩
 ·simp only[List.getElem_toArray,List.getElem_map,je];rfl
 ·intro m hm1 hm2
  have hml:m<bs.length:=by simpa using hm1
  have:=hm m hm2
  rw[List.getElem?_eq_getElem hml] at this
  cases this':bs[m] with
  | true=>rw[this'] at this;cases this
  | false=>simp only[List.getElem_toArray,List.getElem_map,this'];rfl
theorem zom{c:String}(e:Err K C anc)(hc:kitMeta c=true):kitOne K (.ref C) (.type c)=some (anc.contains (.type c)):=by
 obtain⟨cC,c1,c2,c3⟩:=e.cls
 unfold kitOne
 rw[if_neg (by simp)]
 unfold kitCls
 simp only[hc,if_true]
 unfold subIn mroIn
 simp only[c1,c2]
 simp
 rw[c2]
 simp
theorem zm9: zcd X (.builtin "isinstance") (λxs H Q=>∃ a C anc c,xs=[.ref a,.ty c]/\kitMeta c=true/\Pin X a (.ref C)/\Err X.K C anc/\ErrIs2 X.K C/\Q (.bl (anc.contains (.type c))) H):=by
 intro pins s σ H xs us Q I r h
 obtain⟨a,C,anc,c,rfl,hm,⟨o,hp,hc,hd,hn⟩,eC,iC,q⟩:=h
 obtain⟨u,v,rfl,ru,rv⟩:=znN r
 cases ru;cases rv
 exact kia_one (zjq eC iC hc hd hn) I.kIn (I.pin (a,o) (List.mem_append_left _ hp)).1 (zom eC hm) (λz=>nomatch z) λtk=>⟨.bl _,H,I.tok tk,rfl,q⟩
def rIsx2 (K:Fg)(a:Addr)(c:Value):List V->Hp->VK->Prop:=λxs H Q=>∃ C D anc ancD,xs=[.ref a,.ref D]/\c=.ref C/\Err K C anc/\ErrIs2 K C/\Err K D ancD/\Q (.bl ((Value.ref C::anc).contains (.ref D))) H
def rIsxT (K:Fg)(a:Addr)(c:Value):List V->Hp->VK->Prop:=λxs H Q=>∃ C anc n,xs=[.ref a,.ty n]/\kitMeta n=true/\c=.ref C/\Err K C anc/\ErrIs2 K C/\Q (.bl (anc.contains (.type n))) H
section
variable {CX:CXT}{P:Program}{w:World}{K:Fg}{mg:Str->Option Value}{base:Heap}{N:List Str}{qual:Str}{scope:Scope}{f:Addr}{cd:Value}{A:Around}{outer:List Env}{s:Shared}{H:Hp}{E:XK}{x0:Addr}{o0:Obj}
theorem zjr (hd:o0.dict=none)(hn:∀ v,o0.data≠.cls v):zcd (cxH CX P w K mg base N qual scope f cd A outer s H E x0 o0) (.builtin "isinstance") (rIsx2 K x0 o0.cls):=λpins s σ H xs us Q I r h=>by
 obtain⟨C,D,anc,ancD,rfl,hc,eC,iC,eD,q⟩:=h
 exact zm6 pins s σ H _ us Q I r ⟨x0,C,D,anc,ancD,rfl,⟨o0,.head _,hc,hd,hn⟩,eC,iC,eD,q⟩
theorem zrO (hd:o0.dict=none)(hn:∀ v,o0.data≠.cls v):zcd (cxH CX P w K mg base N qual scope f cd A outer s H E x0 o0) (.builtin "isinstance") (rIsxT K x0 o0.cls):=λpins s σ H xs us Q I r h=>by
 obtain⟨C,anc,n,rfl,hm,hc,eC,iC,q⟩:=h
 exact zm9 pins s σ H _ us Q I r ⟨x0,C,anc,n,rfl,hm,⟨o0,.head _,hc,hd,hn⟩,eC,iC,q⟩
end
theorem zgY:bootBuiltins "ValueError"=some (.type "ValueError"):=by decide +kernel
structure FnH (P:Program)(w:World)(K:Fg)(mg:Str->Option Value)(base:Heap)(x:Str)(ps:List Str)(k:Nat)(sp:Value->Addr->Sp):Prop where
 ex:∃ f fd,FnOkH P w K mg base CX0 k f fd ps sp/\zef K fd ps []/\PySem.W.keepIn K (.ref f)=true/\mg x=some (.ref f)
variable {fd:FuncData}
theorem FnH.of{x:Str}{st:Stmt}{k:Nat}(F:Fun K x x st f fd)(S:FSc N ps (zaf st))(m:mg x=some (.ref f))(hb:∀ (kV doc pm:Value) (an:Option Addr) (cdv ct:Value) (us:List Value),us.length=ps.length->bindArgs (PySem.W.fnOf x x (zdy st) (zb4 st) (zaf st) .none kV doc pm an cdv ct) ⟨us,[]⟩=pure (ps.zip us))(len:∀ c x vs H Q E,sp c x vs H Q E->vs.length=ps.length)(hbody:∀ (cdv:Value) (A:Around) (outer:List Env) (s:Shared) (H:Hp) (vs:List V) (Q:VK) (E:XK) (x0:Addr) (o0:Obj),RoomH k (A.deeper (envOfC x (zaf st) s.heap.objs.size f cdv))->o0.dict=none->(∀ v,o0.data≠.cls v)->sp o0.cls x0 vs H Q E->
   ∃ t,PSs (cxH CX0 P w K mg base N x (zaf st) f cdv A outer s H E x0 o0) (zb4 st) t/\t {nx:=λ_ H'=>Q .non H',rt:=Q} (start N vs) H):FnH P w K mg base x ps (k+1) sp:=by
 refine⟨f,fd,?_,F.binds hb,F.kp,m⟩
 obtain⟨oc,od,kV,doc,pm,an,cdv,ct,osl,rfl,lk,hcd⟩:=F.ex
 exact zrN lk hcd S len λA outer s H vs Q E x0 o0 hr hd hn hsp=>hbody cdv A outer s H vs Q E x0 o0 hr hd hn hsp
section
variable {X:Cx}{k j:Nat}{ps:List Str}{sp:Value->Addr->Sp}{x:Str}{p pos:Pos}{e:Expr}{es:List Expr}{t:TA}{a:Addr}{o:Obj}
theorem RoomH.le{k:Nat}(r:RoomH k A)(h:j<=k):RoomH j A:=⟨by have:=r.dp;omega,by have:=r.un;omega,r.gd⟩
theorem FnOkH.mono(F:FnOkH P w K mg base CX j f fd ps sp)(h:j<=k):FnOkH P w K mg base CX k f fd ps sp:=
 ⟨F.len,λA outer s H args us vs Q E x0 o0 hr=>F.run A outer s H args us vs Q E x0 o0 (hr.le h)⟩
theorem zrP (G:FnH X.prog X.w X.K X.mg X.base x ps j sp)(hr:Room k X.A)(hg:Gl X x)(hd:o.dict=none)(hn:∀ v,o.data≠.cls v)(ha:PA (XH X a o) (e::es) t)(hj:j<=k:=by decide)(hdb:(x == ("__debug__" : Str))=false:=by decide)
  (he:starEach (e::es) X.env=(false,eval e X.env)::starEach es X.env:=by rfl) (hpl:(backTo pos (starEach es X.env)).any (·.1)=false:=by rfl):PE (XH X a o) (.Call (.Name x p) (e::es) [] pos) (zhr (sp o.cls a) [] E0 t):=by
 obtain⟨f,fd,F,hb,hk,hm⟩:=G.ex
 exact zol (F.mono hj) hr hg hm hk hb zbi hd hn ha hdb he hpl
end
structure QEx (X:Cx)(e:Expr)(t:XK->TE):Prop where
 run:PEx X e t
structure QSx (X:Cx)(st:Stmt)(t:XK->TS):Prop where
 run:PSx X st t
structure QSxs (X:Cx)(st:List Stmt)(t:XK->TS):Prop where
 run:PSxs X st t
variable {es:List Expr}{te:TE}{pos:Pos}
section
variable {X:Cx}{C:Addr}{ps:List Str}{j k:Nat}{sp:Sp}{x m:Str}{o e:Expr}{es:List Expr}{ta:TE}{t:TA}{p pos apos:Pos}{te:XK->TE}{st:Stmt}{tt uu:XK->TS}
theorem qx_fn (G:Fnx X.prog X.w X.K X.mg X.base x ps j sp)(hr:Room k X.A)(hg:Gl X x)(ha:QA X.nox (e::es) t)(hj:j<=k:=by decide)(hdb:(x == ("__debug__" : Str))=false:=by decide)
  (he:starEach (e::es) X.env=(false,eval e X.env)::starEach es X.env:=by rfl) (hpl:(backTo pos (starEach es X.env)).any (·.1)=false:=by rfl):QEx X (.Call (.Name x p) (e::es) [] pos) (λE=>zhr sp [] E t):=⟨zrw G hr hg ha.run hj hdb he hpl⟩
theorem qx_mk (G:Mkx X.prog X.w X.K X.mg X.base x C ps j sp)(hr:Room k X.A)(hg:Gl X x)(ha:QA X.nox (e::es) t)(hj:j+1<=k:=by decide)(hdb:(x == ("__debug__" : Str))=false:=by decide)
  (he:starEach (e::es) X.env=(false,eval e X.env)::starEach es X.env:=by rfl) (hpl:(backTo pos (starEach es X.env)).any (·.1)=false:=by rfl):QEx X (.Call (.Name x p) (e::es) [] pos) (λE=>zhs C sp [] E t):=⟨zrx G hr hg ha.run hj hdb he hpl⟩
theorem zle {pl:Sem Bool}(G:Mth (CX1 X.prog X.w) X.prog X.w X.K X.mg X.base C m ps j sp)(c:Cls X.K C)(hr:Room k X.A)(ho:QE X.nox o ta)(ha:QA X.nox (e::es) t)(hj:j<=k:=by decide)
  (hst:starEach (e::es) X.env=(false,eval e X.env)::starEach es X.env:=by rfl) (hpl:(backTo pos (starEach es X.env)).any (·.1)=false:=by rfl)
  (ht:eval (.Call (.Attribute o m apos) (e::es) [] pos) X.env=(do
   let ov <-eval o X.env
   standAt apos.atName
   let (f,first) <-holding [ov] (getMethod ov m pl)
   callWith pos f first (backTo pos (starEach (e::es) X.env)) (backToKw pos (keywordEach [] X.env))):=by rfl):QEx X (.Call (.Attribute o m apos) (e::es) [] pos) (λE=>ziZ C m sp [] E ta t):=⟨zpP G c hr ho.run ha.run hj hst hpl ht⟩
theorem zp1{ks:List (Option Expr)}{vs:List Expr}{te:TE}{t:TA}(h:QE X (.Dict ks vs pos) te)(r:QA X es t):QA X (.Dict ks vs pos::es) (zc2 te t):=⟨zaQ h.run r.run rfl⟩
theorem qa_un{op:UnaryOp}{a:Expr}{te:TE}{t:TA}(h:QE X (.UnaryOp op a pos) te)(r:QA X es t):QA X (.UnaryOp op a pos::es) (zc2 te t):=⟨zaQ h.run r.run rfl⟩
theorem zeN (he:QEx X e te)(hs:swapsWith e none pos.line X.env=pure false:=by rfl):QSx X (.Expr e pos) (λE=>zl6 (te E)):=⟨zoe he.run hs⟩
theorem zjs {c:Expr}{a b:List Stmt}{tc:TT}(hc:PT X.nox c tc)(ha:QSxs X a tt)(hb:QSxs X b uu):QSx X (.If c a b pos) (λE=>tIfS tc (tt E) (uu E)):=⟨zry hc ha.run hb.run⟩
theorem zci (h1:QSx X st tt):QSxs X [st] tt:=⟨zof h1.run⟩
theorem zrQ{h0:ExceptHandler}{hs:List ExceptHandler}{tx:XK->TS}{th:Value->Addr->TS}(hex:X.ex=[])(hst:X.stack=X.env::X.outer)(hf:X.env.frame=some X.env.locals)(hb:QSxs X body tx)(hh:PH X (h0::hs) th):QS X (.Try body (h0::hs) [] [] pos) (tTry tx th):=⟨zrA hex hst hf hb.run hh⟩
end
def zrR:List V->Hp->VK->Prop:=λxs H Q=>∃ (a:Addr) (ns:List Int),xs=[.ref a]/\H a=some (.lst (ns.map V.int))/\ns.length<64/\∀ (l:Addr) (ns':List Int),H l=none->ns'.Perm ns->ns'.Pairwise (·<=·)->Q (.ref l) (upd H l (.lst (ns'.map V.int)))
theorem zkm: zcd X (.builtin "sorted") zrR:=by
 intro pins s σ H xs us Q I r h
 obtain⟨a,ns,rfl,ha,h64,q⟩:=h
 obtain⟨u,rfl,rx⟩:=zik r
 cases rx
 obtain⟨z,its,n,rv,hl,e⟩:=I.lstM ha
 have hl':its.length=ns.length:=by rw[<-hl,zlm]
 refine sorted_ints (vs:=its) ⟨_,e,rfl,n,rfl⟩ (zhW rv) (by omega) λout ns' a1 a2 a3=>?_
 have hsz:((s.heap.push (seqObj "list" #[] 0)).update s.heap.objs.size (Obj.mapSeq (·++its.toArray))).objs.size=s.heap.objs.size+1:=by
  rw[Heap.size_update,size_push']
 have hoL:(((s.heap.push (seqObj "list" #[] 0)).update s.heap.objs.size (Obj.mapSeq (·++its.toArray))).push (seqObj "list" its.toArray 0)).get? (s.heap.objs.size+1)=some (seqObj "list" its.toArray 0):=by
  rw[<-hsz];exact Heap.get?_push_size _ rfl
 obtain⟨e',he⟩:=sortedHeap_at (out:=out) hoL
 have zn:(ns'.map V.int).length<=sizeLine:=by rw[zlm,a2.length_eq];exact zao (by omega)
 refine⟨.ref (s.heap.objs.size+1),_,I.laid (a:=s.heap.objs.size+1) (t':=s.toks) (λb u hu=>?_) (Nat.le_succ _) (show zbI X.prog X.w _ _ _ (.lst (ns'.map V.int)) from ⟨zn,out.toList,e',zfk a1,by rw[Array.toArray_toList];exact he⟩),rfl,q _ _ (I.hok.fresh (Nat.le_succ _)) a2 a3⟩
 have hlt:=Heap.lt_size hu
 show (sortedHeap (((s.heap.push (seqObj "list" #[] 0)).update s.heap.objs.size (Obj.mapSeq (·++its.toArray))).push (seqObj "list" its.toArray 0)) (s.heap.objs.size+1) its out).get? b=some u
 rw[sortedHeap_old (Nat.ne_of_lt (Nat.lt_succ_of_lt hlt)) (by rw[size_push',hsz];exact Nat.lt_succ_of_lt (Nat.lt_succ_of_lt hlt))]
 refine Heap.get?_push_of_some _ ?_
 rw[Heap.get?_update_ne _ _ _ _ (Nat.ne_of_lt hlt)]
 exact Heap.get?_push_of_some _ hu
end L2

namespace My
def cell (ns:List Int)(k:Int):Int:=ns.getD k.toNat 0
def dot:List Int->List Int->Int
 | f::fs,n::ns=>f * n+dot fs ns
 | _,_=>0
def zdt (l ns:List Int):Int:=l.headD 0+dot l.tail ns
theorem zfo:∀ (fs ns:List Int) (i:Nat) (f n:Int),fs[i]?=some f->ns[i]?=some n->dot (fs.take (i+1)) (ns.take (i+1))=dot (fs.take i) (ns.take i)+f * n
 | [],_,i,f,n,h,_=>by simp at h
 | _::_,[],i,f,n,_,h=>by simp at h
 | a::fs,b::ns,0,f,n,h1,h2=>by
  simp at h1 h2
  subst h1;subst h2
  simp[dot]
 | a::fs,b::ns,i+1,f,n,h1,h2=>by
  have ih:=zfo fs ns i f n (by simpa using h1) (by simpa using h2)
  simp only[List.take_succ_cons,dot]
  rw[ih,Int.add_assoc]
def zaF (i:Int):List Int:=0::(List.range 8).map λ(k:Nat)=>if (0+(k:Int))=i then 1 else 0
def addW (w:Int)(t l:List Int):List Int:=List.zipWith (λs n=>s+n * w) t l
def zjt (ps:List (List Int × Int))(t:List Int):List Int:=ps.foldl (λt p=>addW p.2 t p.1) t
def zcs (ls:List (List Int))(ws:List Int):List Int:=zjt (ls.zip ws) (List.replicate 9 0)
def zkn (c:Int):List Int->List Int
 | []=>[]
 | x::r=>(x+c)::r
def zaV (line:List Int)(eight:List (List Int)):List Int:=zkn (line.headD 0) (zcs eight line.tail)
variable {w:Int}{l:List Int}
theorem zgZ{t:List Int}(h1:t.length=9)(h2:l.length=9):(addW w t l).length=9:=by
 unfold addW;rw[List.length_zipWith,h1,h2];rfl
theorem zer:∀ (ps:List (List Int × Int)) (t:List Int),t.length=9->(∀ p∈ps,p.1.length=9)->(zjt ps t).length=9
 | [],t,h,_=>h
 | p::ps,t,h,hp=>zer ps _ (zgZ h (hp p List.mem_cons_self)) λq hq=>hp q (List.mem_cons_of_mem _ hq)
variable {ws:List Int}
theorem zna{ls:List (List Int)}(h:∀ l∈ls,l.length=9):∀ p∈ls.zip ws,p.1.length=9:=λp hp=>h p.1 (List.of_mem_zip hp).1
theorem za2{ls:List (List Int)}(h:∀ l∈ls,l.length=9):(zcs ls ws).length=9:=zer _ _ (by simp) (zna h)
theorem zlL (ps:List (List Int × Int))(p:List Int × Int)(t:List Int):zjt (ps++[p]) t=addW p.2 (zjt ps t) p.1:=by
 unfold zjt;rw[List.foldl_append];rfl
variable {i:Nat}
theorem zp2{ls:List (List Int)}(h1:ls[i]?=some l)(h2:ws[i]?=some w):(ls.zip ws)[i]?.toList=[(l,w)]:=by
 rw[(List.getElem?_zip_eq_some (z:=(l,w))).mpr ⟨h1,h2⟩];rfl
theorem ze2 (h:Int)(t ns:List Int):zdt (h::t) ns=h+dot t ns:=rfl
open PySem L2
def zaz (ls:List (List Int)):D:=.lst (ls.map nums)
def zlf:List Int:=[0,1,2,3,4,5,0,1]
def zdM:List (List Int):=zlf.map zaF
def dueL (leaves:List (List Int))(notes:List (List (List Int)))(place:Int):List (List Int):=if place=(notes.length:Int) then leaves.map λl=>zaV l zdM else notes.getD place.toNat []
theorem znb {i:Int} : ∀ n∈zaF i,n=0\/n=1:=λn h=>by
 rcases List.mem_cons.mp h with h | h
 ·exact .inl h
 ·obtain⟨k,_,rfl⟩:=zmm.mp h
  split
  ·exact .inr rfl
  ·exact .inl rfl
theorem zlM:∀ l∈zdM,l.length=9:=λl h=>by
 obtain⟨i,_,rfl⟩:=zmm.mp h
 simp[zaF]
theorem zlN:∀ l∈zdM,∀ n∈l,n=0\/n=1:=λl h n hn=>by
 obtain⟨i,_,rfl⟩:=zmm.mp h
 exact znb n hn
inductive Dd where
 | set (hand:Int) (line:List Int) | part (hand:Int) (line:List Int) (by':Int) | draw (hand low high:Int)
 | turn (line:List Int) (place:Int) | hold (line:List Int) | call (number g0 g1 t0 t1:Int)
def toD:Dd->D
 | .set h l=>.tup [.str "set",.int h,nums l]
 | .part h l b=>.tup [.str "part",.int h,nums l,.int b]
 | .draw h lo hi=>.tup [.str "draw",.int h,.int lo,.int hi]
 | .turn l p=>.tup [.str "turn",nums l,.int p]
 | .hold l=>.tup [.str "hold",nums l]
 | .call n g0 g1 t0 t1=>.tup [.str "call",.int n,.tup [.int g0,.int g1],.tup [.int t0,.int t1]]
def zg0:Dd->Prop
 | .set _ l=>l.length=9
 | .part _ l _=>l.length=9
 | .turn l _=>l.length=9
 | .hold l=>l.length=9
 | _=>True
def btw (a b c:Int):Bool:=decide (a<=b) && decide (b<=c)
def zeU (n:Int):Bool:=btw (-1000000000) n 1000000000
def zes (spots:List Nat)(l:List Int):Bool:=(l.map zeU).all id && (spots.map λs=>decide (l.getD s 0=0)).all id
def zdz (spots:List Nat)(ls:List (List Int)):Bool:=decide ((ls.length:Int)<=2) && (ls.map (zes spots)).all id
def zcj (h:Int):Bool:=btw 0 h 3
def zbF (n:Int):Dd->Bool
 | .set h l=>zcj h && zes [7,8] l
 | .part h l b=>zcj h && (zes [7,8] l && btw 1 b 1000)
 | .draw h lo hi=>zcj h && (zeU lo && (zeU hi && decide (lo<=hi)))
 | .turn l p=>zes [7,8] l && btw 0 p n
 | .hold l=>zes [7,8] l
 | .call m g0 g1 t0 t1=>([zcj g0,zcj g1].all id && [zcj t0,zcj t1].all id) && (btw 0 m 99 && !decide (t0=t1))
def zg1 (needs leaves:List (List Int)):Bool:=zdz [1,2,3,4,7,8] needs && zdz [1,2,3,4] leaves
def ze3 (deeds:List Dd):Bool:=btw 1 (deeds.length:Int) 8 && (deeds.map (zbF (deeds.length:Int))).all id
def ze4 (deeds:List Dd)(notes:List (List (List Int))):Bool:=decide ((notes.length:Int)=(deeds.length:Int)) && (notes.map (zdz [7,8])).all id
def zeb (needs leaves:List (List Int))(deeds:List Dd)(notes:List (List (List Int))):Bool:=zg1 needs leaves && (ze3 deeds && ze4 deeds notes)
def negs (ws:List Int):List Int:=ws.map λw=>-w
def znc (goal:List Int)(hyps:List (List Int))(whole:Int)(ws:List Int):List Int:=zcs (goal::hyps) (whole::negs ws)
def zrS (goal:List Int)(hyps:List (List Int))(whole:Int)(ws:List Int):Bool:=decide (-whole<(znc goal hyps whole ws).headD 0) && decide ((znc goal hyps whole ws).tail=List.replicate 8 0)
def rowB (hyps:List (List Int))(whole:Int)(ws:List Int):Bool:=decide (1<=whole) && (decide (ws.length=hyps.length) && ws.all λw=>decide (0<=w))
def zg2 (goal:List Int)(hyps:List (List Int))(whole:Int)(ws:List Int):Bool:=rowB hyps whole ws && zrS goal hyps whole ws
def zeR:Nat->List (List Int)
 | 0=>[[]]
 | n+1=>(zeR n).map (λr=>r++[0])++(zeR n).map λr=>r++[1]
theorem zdN:∀ (n:Nat) (r:List Int),r∈zeR n->r.length=n/\∀ w∈r,w=0\/w=1
 | 0,r,h=>by
  unfold zeR at h
  rw[zms] at h
  subst h
  exact⟨rfl,λw hw=>by cases hw⟩
 | n+1,r,h=>by
  unfold zeR at h
  rcases zma.mp h with h | h
  ·obtain⟨q,hq,rfl⟩:=zmm.mp h
   obtain⟨a,b⟩:=zdN n q hq
   refine⟨by simp[a],λw hw=>?_⟩
   rcases zma.mp hw with hw | hw
   ·exact b w hw
   ·exact .inl (zms.mp hw)
  ·obtain⟨q,hq,rfl⟩:=zmm.mp h
   obtain⟨a,b⟩:=zdN n q hq
   refine⟨by simp[a],λw hw=>?_⟩
   rcases zma.mp hw with hw | hw
   ·exact b w hw
   ·exact .inr (zms.mp hw)
theorem zf4:∀ n:Nat,(zeR n).length=2 ^ n
 | 0=>rfl
 | n+1=>by
  unfold zeR
  rw[List.length_append,zlm,zlm,zf4 n,Nat.pow_succ];omega
def zju (goal:List Int)(hyps:List (List Int))(whole:Int)(ws:List Int):Option (Int × List Int):=if zg2 goal hyps whole ws=true then some (whole,ws) else none
def ziw (goal:List Int)(hyps:List (List Int))(whole:Int):Option (Int × List Int):=(zeR hyps.length).findSome? (zju goal hyps whole)
def zct (goal:List Int)(hyps:List (List Int)):Option (Int × List Int):=[1,2,3,4].findSome? (ziw goal hyps)
variable {α β:Type}
theorem zix: ∀ {l:List α}{f:α->Option β}{i:Nat}{x:α}{y:β},(l.take i).findSome? f=none->l[i]?=some x->f x=some y->l.findSome? f=some y
 | [],f,i,x,y,_,e,_=>by simp at e
 | a::l,f,0,x,y,_,e,h=>by
  simp at e;subst e
  rw[List.findSome?_cons,h]
 | a::l,f,i+1,x,y,n,e,h=>by
  rw[List.take_succ_cons,List.findSome?_cons] at n
  cases hf:f a with
  | some z=>rw[hf] at n;cases n
  | none=>
   rw[hf] at n
   rw[List.findSome?_cons,hf]
   exact zix n (by simpa using e) h
theorem zg3: ∀ {l:List α}{f:α->Option β}{i:Nat}{x:α},(l.take i).findSome? f=none->l[i]?=some x->f x=none->(l.take (i+1)).findSome? f=none
 | [],f,i,x,_,e,_=>by simp at e
 | a::l,f,0,x,_,e,h=>by
  simp at e;subst e
  simp[h]
 | a::l,f,i+1,x,n,e,h=>by
  rw[List.take_succ_cons,List.findSome?_cons] at n
  cases hf:f a with
  | some z=>rw[hf] at n;cases n
  | none=>
   rw[hf] at n
   rw[List.take_succ_cons,List.findSome?_cons,hf]
   exact zg3 n (by simpa using e) h
variable {n:Nat}
theorem zlg{l:List α}{f:α->Option β}(h:(l.take n).findSome? f=none)(hn:l.length<=n):l.findSome? f=none:=by
 rwa [List.take_of_length_le hn] at h
section
variable {needs leaves:List (List Int)}{deeds:List Dd}{notes:List (List (List Int))}
end
def kL (n:Int):List Int:=n::List.replicate 8 0
def zg4 (line:List Int):List Int:=zcs [line,kL 1] [-1,-1]
def ze5 (lo:Int):List Int:=zcs [zaF 6,kL lo] [1,-1]
def zg5 (hi:Int):List Int:=zcs [kL hi,zaF 6] [1,-1]
def zd2 (line:List Int)(b:Int):List Int:=zcs [line,zaF 6] [1,-b]
def greatest (line:List Int)(b:Int):List Int:=zcs [zaF 6,kL (b - 1),line] [b,1,-1]
theorem zbv (n:Int):(kL n).length=9:=by simp[kL]
theorem zar (i:Int):(zaF i).length=9:=by simp[zaF]
structure Good (needs leaves:List (List Int))(n:Nat)(notes:List (List (List Int))):Prop where
 dn:n=notes.length
 d:n<=100
 n:needs.length<=100
 l:leaves.length<=100
 n9:∀ l∈needs,l.length=9
 l9:∀ l∈leaves,l.length=9
 o:∀ ls∈notes,ls.length<=100/\∀ l∈ls,l.length=9
variable {needs leaves:List (List Int)}{notes:List (List (List Int))}
theorem Good.due(g:Good needs leaves n notes)(place:Int):(dueL leaves notes place).length<=100/\∀ l∈dueL leaves notes place,l.length=9:=by
 unfold dueL
 split
 ·refine⟨by rw[zlm];exact g.l,λl hl=>?_⟩
  obtain⟨m,hm,rfl⟩:=zmm.mp hl
  have h9:∀ l∈zdM,l.length=9:=λl hl=>by
   unfold zdM at hl
   obtain⟨i,_,rfl⟩:=zmm.mp hl
   exact zar i
  have hs:=za2 (ws:=m.tail) h9
  unfold zaV
  cases e:zcs zdM m.tail with
  | nil=>rw[e] at hs;simp at hs
  | cons x r=>rw[e] at hs;simpa [zkn] using hs
 ·rw[List.getD_eq_getElem?_getD]
  cases e:notes[place.toNat]? with
  | none=>simp
  | some ls=>exact g.o ls (zmg e)
open PyProof.Rows
def ziy (H:Hp):List D->List V->Prop
 | [],[]=>True
 | d::ds,x::xs=>Part H d x/\ziy H ds xs
 | _,_=>False
variable {H:Hp}
theorem zjv: ∀ {ds:List D}{xs:List V},ziy H ds xs->ds.length=xs.length
 | [],[],_=>rfl
 | _::_,_::_,h=>by rw[List.length_cons,List.length_cons,zjv h.2]
 | [],_::_,h=>h.elim
 | _::_,[],h=>h.elim
theorem zlh: ∀ {ds:List D}{xs:List V},ziy H ds xs->∀ (i:Nat) dd x,ds[i]?=some dd->xs[i]?=some x->Part H dd x
 | [],_,_,i,_,_,e,_=>by simp at e
 | _::_,[],h,_,_,_,_,_=>h.elim
 | d::ds,x::xs,h,0,_,_,e1,e2=>by simp at e1 e2;subst e1;subst e2;exact h.1
 | d::ds,x::xs,h,i+1,dd,y,e1,e2=>zlh h.2 i dd y (by simpa using e1) (by simpa using e2)
theorem zjw: ∀ {ds:List D}{xs:List V},ds.length=xs.length->(∀ (i:Nat) dd x,ds[i]?=some dd->xs[i]?=some x->Part H dd x)->ziy H ds xs
 | [],[],_,_=>trivial
 | [],_::_,e,_=>by simp at e
 | _::_,[],e,_=>by simp at e
 | d::ds,x::xs,e,h=>⟨h 0 d x rfl rfl,zjw (by simpa using e) λi dd y e1 e2=>h (i+1) dd y (by simpa using e1) (by simpa using e2)⟩
variable {xs:List V}{ds:List D}
theorem zko{t:Addr}(h:H t=some (.tup xs))(l:ds.length<=8)(p:ziy H ds xs):zc5 H (.tup ds) (.ref t):=⟨t,xs,ds,rfl,rfl,h,zjv p,l,zlh p⟩
variable {v:V}
theorem zbl(h:zc5 H (.tup ds) v):∃ t xs,v=.ref t/\H t=some (.tup xs)/\ziy H ds xs:=by
 obtain⟨t,xs,ds',e,rfl,h1,h2,_,h3⟩:=h
 cases e
 exact⟨t,xs,rfl,h1,zjw h2 h3⟩
theorem zak{d:D}(h:ziy H (d::ds) xs):∃ x r,xs=x::r/\Part H d x/\ziy H ds r:=by
 cases xs with
 | nil=>exact h.elim
 | cons x r=>exact⟨x,r,rfl,h.1,h.2⟩
theorem zbG(h:ziy H [] xs):xs=[]:=by
 cases xs with
 | nil=>rfl
 | cons x r=>exact h.elim
variable {x:V}
theorem zbL{s:Str}(h:Part H (.str s) x):x=.str s:=by
 rcases h with ⟨i,e,_⟩ | ⟨z,e,rfl⟩ | ⟨b,l,e,_⟩ | ⟨b,i,j,e,_⟩ <;> cases e
 rfl
theorem zbq{s:Int}(h:Part H (.int s) x):x=.int s:=by
 rcases h with ⟨i,e,rfl⟩ | ⟨z,e,_⟩ | ⟨b,l,e,_⟩ | ⟨b,i,j,e,_⟩ <;> cases e
 rfl
theorem zli:∀ {l m:List Int},l.map D.int=m.map D.int->l=m
 | [],[],_=>rfl
 | [],_::_,e=>by simp at e
 | _::_,[],e=>by simp at e
 | a::l,b::m,e=>by
  rw[zmc,zmc] at e
  injection e with e1 e2
  injection e1 with e1
  rw[e1,zli e2]
theorem zcG(h:Part H (nums l) x):∃ b,x=.ref b/\H b=some (.lst (l.map V.int)):=by
 rcases h with ⟨i,e,_⟩ | ⟨z,e,_⟩ | ⟨b,m,e,h1,h2⟩ | ⟨b,i,j,e,_⟩
 ·cases e
 ·cases e
 ·injection e with e
  rw[zli e]
  exact⟨b,h1,h2⟩
 ·cases e
theorem zfp{i j:Int}(h:Part H (.tup [.int i,.int j]) x):∃ b,x=.ref b/\H b=some (.tup [.int i,.int j]):=by
 rcases h with ⟨i',e,_⟩ | ⟨z,e,_⟩ | ⟨b,m,e,h1,h2⟩ | ⟨b,i',j',e,h1,h2⟩
 ·cases e
 ·cases e
 ·cases e
 ·cases e
  exact⟨b,h1,h2⟩
def R2 {α:Type}(P:α->V->Prop)(as:List α)(xs:List V):Prop:=as.length=xs.length/\∀ (i:Nat) a x,as[i]?=some a->xs[i]?=some x->P a x
theorem R2.mono{P P':α->V->Prop}{as:List α}(h:R2 P as xs)(m:∀ a x,P a x->P' a x):R2 P' as xs:=⟨h.1,λi a x e1 e2=>m a x (h.2 i a x e1 e2)⟩
theorem R2.get{P:α->V->Prop}{as:List α}(h:R2 P as xs)(hi:i<as.length):∃ x,xs[i]?=some x/\P (as[i]) x:=by
 have hj:i<xs.length:=by rw[<-h.1];exact hi
 exact⟨xs[i],by simp,h.2 i _ _ (by simp) (by simp)⟩
def ze6 (H:Hp):List Dd->List V->Prop:=R2 λd x=>zc5 H (toD d) x
variable {H':Hp}
theorem ze6.same{ds:List Dd}(e:Same H H')(h:ze6 H ds xs):ze6 H' ds xs:=R2.mono h λ_ _ z=>z.sq e.sq
def zc9:Dd->Str
 | .set _ _=>"set"
 | .part _ _ _=>"part"
 | .draw _ _ _=>"draw"
 | .turn _ _=>"turn"
 | .hold _=>"hold"
 | .call _ _ _ _ _=>"call"
variable {d:Dd}
theorem znd(h:zc5 H (toD d) x):∃ t xs,x=.ref t/\H t=some (.tup (.str (zc9 d)::xs)):=by
 cases d <;> (obtain⟨t,xs,rfl,h1,px⟩:=zbl h;obtain⟨x0,r,rfl,e0,px⟩:=zak px;cases zbL e0;exact⟨t,r,rfl,h1⟩)
theorem zlj(h:zg0 d):Deed (toD d):=by
 cases d with
 | set hd l=>exact⟨_,rfl,by simp,λc hc=>by
   simp at hc
   rcases hc with rfl | rfl | rfl
   ·exact .inr (.inl ⟨_,rfl⟩)
   ·exact .inl ⟨_,rfl⟩
   ·exact .inr (.inr (.inl ⟨l,h,rfl⟩))⟩
 | part hd l b=>exact⟨_,rfl,by simp,λc hc=>by
   simp at hc
   rcases hc with rfl | rfl | rfl | rfl
   ·exact .inr (.inl ⟨_,rfl⟩)
   ·exact .inl ⟨_,rfl⟩
   ·exact .inr (.inr (.inl ⟨l,h,rfl⟩))
   ·exact .inl ⟨_,rfl⟩⟩
 | draw hd lo hi=>exact⟨_,rfl,by simp,λc hc=>by
   simp at hc
   rcases hc with rfl | rfl | rfl | rfl
   ·exact .inr (.inl ⟨_,rfl⟩)
   ·exact .inl ⟨_,rfl⟩
   ·exact .inl ⟨_,rfl⟩
   ·exact .inl ⟨_,rfl⟩⟩
 | turn l p=>exact⟨_,rfl,by simp,λc hc=>by
   simp at hc
   rcases hc with rfl | rfl | rfl
   ·exact .inr (.inl ⟨_,rfl⟩)
   ·exact .inr (.inr (.inl ⟨l,h,rfl⟩))
   ·exact .inl ⟨_,rfl⟩⟩
 | hold l=>exact⟨_,rfl,by simp,λc hc=>by
   simp at hc
   rcases hc with rfl | rfl
   ·exact .inr (.inl ⟨_,rfl⟩)
   ·exact .inr (.inr (.inl ⟨l,h,rfl⟩))⟩
 | call m g0 g1 t0 t1=>exact⟨_,rfl,by simp,λc hc=>by
   simp at hc
   rcases hc with rfl | rfl | rfl | rfl
   ·exact .inr (.inl ⟨_,rfl⟩)
   ·exact .inl ⟨_,rfl⟩
   ·exact .inr (.inr (.inr ⟨_,_,rfl⟩))
   ·exact .inr (.inr (.inr ⟨_,_,rfl⟩))⟩
theorem zeros9e:List.replicate 9 (0:Int)=[0,0,0,0,0,0,0,0,0]:=rfl
theorem kLe (n:Int):kL n=[n,0,0,0,0,0,0,0,0]:=rfl
abbrev Du:=List Int × List (List Int)
def duD (g:Du):D:=.tup [nums g.1,zaz g.2]
def zh5 (H:Hp)(g:Du)(v:V):Prop:=∃ T ga na,v=.ref T/\H T=some (.tup [.ref ga,.ref na])/\H ga=some (.lst (g.1.map V.int))/\Ls H na g.2
variable {g:Du}
theorem zh5.same(e:Same H H')(h:zh5 H g v):zh5 H' g v:=by
 obtain⟨T,ga,na,rfl,h1,h2,h3⟩:=h
 exact⟨T,ga,na,rfl,e _ _ h1,e _ _ h2,h3.same e⟩
theorem RepF.duty{f:List Addr}(h:RepF H (duD g) v f):∃ (T ga na:Addr) (as:List Addr),v=.ref T/\H T=some (.tup [.ref ga,.ref na])/\H ga=some (.lst (g.1.map V.int))/\H na=some (.lst (as.map V.ref))/\as.length=g.2.length/\(∀ (i:Nat) a l,as[i]?=some a->g.2[i]?=some l->H a=some (.lst (l.map V.int)))/\ga∈f/\na∈f/\∀ b∈as,b∈f:=by
 unfold duD RepF at h
 obtain⟨T,xs,rfl,hT,hx⟩:=h
 unfold zaj at hx
 obtain⟨x1,r1,f1,g1,rfl,rfl,h1,hx⟩:=hx
 unfold zaj at hx
 obtain⟨x2,r2,f2,g2,rfl,rfl,h2,hx⟩:=hx
 unfold zaj at hx
 obtain⟨rfl,rfl⟩:=hx
 unfold RepF at h1
 obtain⟨ga,ys,r3,rfl,rfl,hga,hy⟩:=h1
 obtain⟨rfl,rfl⟩:=zaj.ints_eq hy
 unfold zaz RepF at h2
 obtain⟨na,zs,as,rfl,rfl,hna,hz⟩:=h2
 obtain⟨rfl,e2,e3⟩:=zaj.lines hz
 refine⟨T,ga,na,as,rfl,hT,hga,hna,e2,λi a l q1 q2=>?_,by simp,by simp,λb hb=>by simp[hb]⟩
 obtain⟨l',z1,z2⟩:=e3 i a q1
 rw[q2] at z1;cases z1
 exact z2
theorem RepF.dutyAt{f:List Addr}(h:RepF H (duD g) v f):zh5 H g v:=by
 obtain⟨T,ga,na,as,rfl,h1,h2,h3,h4,h5,_⟩:=RepF.duty h
 exact⟨T,ga,na,rfl,h1,h2,as,h3,h4,h5⟩
variable {fp:List Addr}
theorem zaj.duties{gs:List Du}(h:zaj H (gs.map duD) xs fp):R2 (zh5 H) gs xs:=⟨by have:=h.length;simpa using this,λi g x e1 e2=>by
 obtain⟨f,hf⟩:=zaj.item h i (duD g) x (by rw[zgm,e1];rfl) e2
 exact RepF.dutyAt hf⟩
theorem zne{k:Int}(h0:0<=k):cutV xs none (some k)=xs.take k.toNat:=by
 have e:k=(k.toNat:Int):=by omega
 rw[e]
 unfold cutV
 rw[HT.sIx_none,HT.sIx_nat,List.drop_zero,Nat.sub_zero,Int.toNat_natCast]
 by_cases z:k.toNat<=xs.length
 ·rw[Nat.min_eq_left z]
 ·rw[Nat.min_eq_right (by omega),List.take_of_length_le (Nat.le_refl _),List.take_of_length_le (by omega)]
def NoD (H H':Hp):Prop:=∀ b o,H b=some o->(∀ kvs,o≠HO.dK kvs)->H' b=some o
theorem _root_.L2.Same.nod(e:Same H H'):NoD H H':=λb o h _=>e b o h
variable {H1 H2:Hp}
theorem NoD.trans(a:NoD H H1)(b:NoD H1 H2):NoD H H2:=λc o h n=>b c o (a c o h n) n
variable {p:Addr}{o:HO}{kvs:List (Key × V)}
theorem zg6(h:H p=some (.dK kvs)):NoD H (upd H p o):=λb u e n=>by
 rw[zai (λz=>by rw[z,h] at e;exact n kvs (Option.some.inj e).symm)]
 exact e
theorem NoD.sq(e:NoD H H'):Sq H H':=λb o h q=>e b o h λkvs z=>by rw[z] at q;cases q
theorem znf {κ:Type}[DecidableEq κ](kvs:List (κ × V))(k:κ)(v:V):(putK kvs k v).map (·.1)=if k∈kvs.map (·.1) then kvs.map (·.1) else kvs.map (·.1)++[k]:=by
 cases h:valV kvs k with
 | some y=>
  rw[if_pos (zmH h)]
  unfold putK
  rw[zdn,h]
  rw[if_pos (show (some y).isSome=true from rfl),List.map_map]
  refine List.map_congr_left λp _=>?_
  show (if p.1=k then (p.1,v) else p).1=p.1
  split <;> rfl
 | none=>rw[if_neg (znX h),znT v h,List.map_append];rfl
variable {ks:List Int}
theorem zkp{m:Int}: (Sum.inl m:Key)∈ks.map (Sum.inl:Int->Key)↔m∈ks:=by
 constructor
 ·intro h
  obtain⟨x,hx,e⟩:=zmm.mp h
  injection e with e
  rw[<-e];exact hx
 ·intro h;exact List.mem_map_of_mem h
theorem zlO{m:Int}: (ks.map (Sum.inl:Int->Key)).filter (λk=>decide (k≠Sum.inl m))=(ks.filter λk=>decide (k≠m)).map Sum.inl:=by
 rw[List.filter_map]
 congr 1
 refine List.filter_congr λx _=>?_
 show decide ((Sum.inl x:Key)≠Sum.inl m)=decide (x≠m)
 refine decide_eq_decide.mpr ⟨λh z=>h (by rw[z]),λh z=>h (by injection z)⟩
theorem zlP{k:Key}: (zeg kvs k).map (·.1)=(kvs.map (·.1)).filter (λj=>decide (j≠k)):=by
 unfold zeg
 rw[List.filter_map]
 rfl
def KVs (P:Int->V->Prop)(kvs:List (Key × V))(ks:List Int):Prop:=kvs.map (·.1)=ks.map Sum.inl/\ks.Nodup/\∀ m∈ks,∃ v,valV kvs (.inl m)=some v/\P m v
variable {P:Int->V->Prop}
theorem KVs.nil: KVs P [] []:=⟨rfl,List.nodup_nil,λm hm=>by simp at hm⟩
variable {P':Int->V->Prop}
theorem KVs.mono(h:KVs P kvs ks)(m:∀ k v,P k v->P' k v):KVs P' kvs ks:=⟨h.1,h.2.1,λk hk=>by
 obtain⟨v,h1,h2⟩:=h.2.2 k hk
 exact⟨v,h1,m k v h2⟩⟩
theorem KVs.len(h:KVs P kvs ks):kvs.length=ks.length:=by
 have:=congrArg List.length h.1
 simpa using this
theorem KVs.no{m:Int}(h:KVs P kvs ks)(n:m∉ks):valV kvs (.inl m)=none:=by
 cases e:valV kvs (.inl m) with
 | none=>rfl
 | some v=>
  have:=zmH e
  rw[h.1] at this
  exact absurd (zkp.mp this) n
theorem KVs.put{m:Int}(h:KVs P kvs ks)(hv:P m v):KVs P (putK kvs (.inl m) v) (if m∈ks then ks else ks++[m]):=by
 refine⟨?_,?_,λk hk=>?_⟩
 ·rw[znf,h.1]
  by_cases z:m∈ks
  ·rw[if_pos (zkp.mpr z),if_pos z]
  ·rw[if_neg (λw=>z (zkp.mp w)),if_neg z,List.map_append];rfl
 ·by_cases z:m∈ks
  ·rw[if_pos z];exact h.2.1
  ·rw[if_neg z];exact zmI h.2.1 z
 ·rw[zeK]
  by_cases e:k=m
  ·subst e;exact⟨v,by rw[if_pos rfl],hv⟩
  ·rw[if_neg (λw=>e (by injection w))]
   refine h.2.2 k ?_
   by_cases z:m∈ks
   ·rw[if_pos z] at hk;exact hk
   ·rw[if_neg z] at hk
    rcases zma.mp hk with w | w
    ·exact w
    ·exact absurd (zms.mp w) e
theorem KVs.put'{m:Int}(h:KVs P kvs ks)(hv:P' m v)(hP:∀ k v,k≠m->P k v->P' k v):KVs P' (putK kvs (.inl m) v) (if m∈ks then ks else ks++[m]):=by
 have h0:KVs (λk w=>k=m/\w=v\/P k w) (putK kvs (.inl m) v) (if m∈ks then ks else ks++[m]):=(h.mono λk w z=>.inr z).put (.inl ⟨rfl,rfl⟩)
 refine⟨h0.1,h0.2.1,λk hk=>?_⟩
 by_cases e:k=m
 ·subst e
  exact⟨v,by rw[zeK,if_pos rfl],hv⟩
 ·obtain⟨w,e1,e2⟩:=h0.2.2 k hk
  rcases e2 with ⟨e2,_⟩ | e2
  ·exact absurd e2 e
  ·exact⟨w,e1,hP k w e e2⟩
theorem KVs.drop{m:Int}(h:KVs P kvs ks):KVs P (zeg kvs (.inl m)) (ks.filter λk=>decide (k≠m)):=by
 refine⟨by rw[zlP,h.1];exact zlO,h.2.1.filter _,λk hk=>?_⟩
 obtain⟨h1,h2⟩:=List.mem_filter.mp hk
 have h2:k≠m:=of_decide_eq_true h2
 rw[zjp,if_neg (λw=>h2 (by injection w))]
 exact h.2.2 k h1
theorem zp3(h1:leaves.length<=2)(h2:∀ ls∈notes,ls.length<=2)(place:Int):(dueL leaves notes place).length<=2:=by
 unfold dueL
 split
 ·rw[zlm];exact h1
 ·rw[List.getD_eq_getElem?_getD]
  cases e:notes[place.toNat]? with
  | none=>simp
  | some ls=>exact h2 ls (zmg e)
def zaM (ch:Nat->Option (List Int)):List (List Int):=(List.range 8).map λ(i:Nat)=>(ch i).getD (zaF (0+(i:Int)))
def ch1 (k:Int)(l:List Int)(i:Nat):Option (List Int):=if k=0+(i:Int) then some l else none
def ch2 (k0:Int)(l0:List Int)(k1:Int)(l1:List Int)(i:Nat):Option (List Int):=if k1=0+(i:Int) then some l1 else if k0=0+(i:Int) then some l0 else none
def ch4 (i:Nat):Option (List Int):=if i=0 then some (zaF 4) else if i=1 then some (zaF 5) else if i=2 then some (kL 0) else if i=3 then some (kL 0) else none
def zeh (goal:List Int)(hyps:List (List Int)):D:=.tup [nums goal,zaz hyps]
def zjx (needs leaves:List (List Int))(notes:List (List (List Int))):List D:=((dueL leaves notes 0).map λl=>zaV l (zaM ch4)).map λg=>zeh g needs
abbrev Oath:=Int->List (List Int) × List (List Int)
def zfq (N A:List (List Int))(T:Int->List (List Int))(oath:Oath):Dd->List D
 | .set h l=>(A.map λx=>zaV x (zaM (ch1 h l))).map λg=>zeh g N
 | .part h l b=>(A.map λx=>zaV x (zaM (ch1 h (zaF 6)))).map λg=>zeh g (N++[zd2 l b,greatest l b])
 | .draw h lo hi=>(A.map λx=>zaV x (zaM (ch1 h (zaF 6)))).map λg=>zeh g (N++[ze5 lo,zg5 hi])
 | .turn l p=>((T p).map λg=>zeh g (N++[l]))++A.map λg=>zeh g (N++[zg4 l])
 | .hold l=>[zeh l N]++A.map λg=>zeh g (N++[l])
 | .call m g0 g1 t0 t1=>(((oath m).1.map λx=>zaV x (zaM (ch2 4 (zaF g0) 5 (zaF g1)))).map λg=>zeh g N)++(A.map λx=>zaV x (zaM (ch2 t0 (zaF 6) t1 (zaF 7)))).map λg=>zeh g (N++(oath m).2.map λx=>zaV x (zaM (ch2 4 (zaF g0) 5 (zaF g1))))
def zbe (leaves:List (List Int))(notes:List (List (List Int)))(oath:Oath):List Dd->Nat->List D
 | [],_=>[]
 | d::ds,p=>zfq (dueL leaves notes p) (dueL leaves notes (p+1)) (dueL leaves notes) oath d++zbe leaves notes oath ds (p+1)
theorem ze7 (leaves:List (List Int))(notes:List (List (List Int)))(oath:Oath):∀ (xs ys:List Dd) (p:Nat),zbe leaves notes oath (xs++ys) p=zbe leaves notes oath xs p++zbe leaves notes oath ys (p+xs.length)
 | [],ys,p=>rfl
 | x::xs,ys,p=>by
  show zfq _ _ _ _ x++zbe leaves notes oath (xs++ys) (p+1)=(zfq _ _ _ _ x++zbe leaves notes oath xs (p+1))++_
  rw[ze7 leaves notes oath xs ys (p+1),List.append_assoc,List.length_cons,show p+1+xs.length=p+(xs.length+1) by omega]
def zg7 (needs leaves:List (List Int))(deeds:List Dd)(notes:List (List (List Int)))(oath:Oath):List D:=zjx needs leaves notes++zbe leaves notes oath deeds 0
def zdu (N A:List (List Int))(T:Int->List (List Int))(oath:Oath):Dd->List Du
 | .set h l=>A.map λx=>(zaV x (zaM (ch1 h l)),N)
 | .part h l b=>A.map λx=>(zaV x (zaM (ch1 h (zaF 6))),N++[zd2 l b,greatest l b])
 | .draw h lo hi=>A.map λx=>(zaV x (zaM (ch1 h (zaF 6))),N++[ze5 lo,zg5 hi])
 | .turn l p=>((T p).map λg=>(g,N++[l]))++A.map λg=>(g,N++[zg4 l])
 | .hold l=>[(l,N)]++A.map λg=>(g,N++[l])
 | .call m g0 g1 t0 t1=>((oath m).1.map λx=>(zaV x (zaM (ch2 4 (zaF g0) 5 (zaF g1))),N))++A.map λx=>(zaV x (zaM (ch2 t0 (zaF 6) t1 (zaF 7))),N++(oath m).2.map λx=>zaV x (zaM (ch2 4 (zaF g0) 5 (zaF g1))))
theorem zng (N A:List (List Int))(T:Int->List (List Int))(oath:Oath)(d:Dd):(zdu N A T oath d).map duD=zfq N A T oath d:=by
 cases d <;> simp only[zdu,zfq,List.map_append,List.map_map,zmc,List.map_nil] <;> rfl
def znh (needs leaves:List (List Int))(notes:List (List (List Int))):List Du:=(dueL leaves notes 0).map λl=>(zaV l (zaM ch4),needs)
def zf5 (leaves:List (List Int))(notes:List (List (List Int)))(oath:Oath):List Dd->Nat->List Du
 | [],_=>[]
 | d::ds,p=>zdu (dueL leaves notes p) (dueL leaves notes (p+1)) (dueL leaves notes) oath d++zf5 leaves notes oath ds (p+1)
theorem zjy (leaves:List (List Int))(notes:List (List (List Int)))(oath:Oath):∀ (ds:List Dd) (p:Nat),(zf5 leaves notes oath ds p).map duD=zbe leaves notes oath ds p
 | [],p=>rfl
 | d::ds,p=>by
  show (zdu _ _ _ _ d++zf5 leaves notes oath ds (p+1)).map duD=zfq _ _ _ _ d++zbe leaves notes oath ds (p+1)
  rw[List.map_append,zng,zjy leaves notes oath ds (p+1)]
def ziz (needs leaves:List (List Int))(deeds:List Dd)(notes:List (List (List Int)))(oath:Oath):List Du:=znh needs leaves notes++zf5 leaves notes oath deeds 0
theorem zh6 (needs leaves:List (List Int))(deeds:List Dd)(notes:List (List (List Int)))(oath:Oath):(ziz needs leaves deeds notes oath).map duD=zg7 needs leaves deeds notes oath:=by
 unfold ziz zg7
 rw[List.map_append,zjy]
 congr 1
 unfold znh zjx
 rw[List.map_map,List.map_map]
 rfl
def Sm (l:List Int):Prop:=∀ n∈l,-(2 ^ 64)<n/\n<2 ^ 64
def zdA:Dd->Option Int
 | .call m _ _ _ _=>some m
 | _=>none
def zaZ (deeds:List Dd):List Int:=deeds.filterMap zdA
def dOk (n:Nat):Dd->Prop
 | .set _ l=>l.length=9/\Sm l
 | .part _ l b=>l.length=9/\(-1000000<b/\b<1000000)
 | .turn l p=>l.length=9/\0<=p/\p<=(n:Int)
 | .hold l=>l.length=9
 | _=>True
variable {deeds:List Dd}
theorem zlQ{m:Int}(h:m∈zaZ deeds):∃ d∈deeds,zdA d=some m:=by
 unfold zaZ at h
 exact List.mem_filterMap.mp h
variable {g0 g1 t0 t1:Int}
theorem zon{m:Int}(h:Dd.call m g0 g1 t0 t1∈deeds):m∈zaZ deeds:=by
 unfold zaZ
 exact List.mem_filterMap.mpr ⟨_,h,rfl⟩
def OffA (S:List Addr)(H H':Hp):Prop:=∀ b o,b∉S->H b=some o->H' b=some o
variable {S:List Addr}
theorem _root_.L2.Same.offA(e:Same H H'):OffA S H H':=λb o _ h=>e b o h
theorem OffA.trans(a:OffA S H H1)(b:OffA S H1 H2):OffA S H H2:=λc o n h=>b c o n (a c o n h)
theorem zbE(h:p∈S):OffA S H (upd H p o):=λb u n e=>by
 rw[zai (λz=>n (by rw[z];exact h))];exact e
theorem OffA.nod(e:OffA S H H')(h:∀ a∈S,∃ kvs,H a=some (.dK kvs)):NoD H H':=λb o hb n=>e b o (λz=>by
 obtain⟨kvs,hk⟩:=h b z
 rw[hk] at hb
 exact n kvs (Option.some.inj hb).symm) hb
structure Cr where
 needs:List (List Int)
 leaves:List (List Int)
 deeds:List Dd
 notes:List (List (List Int))
def hfl (la va:Addr):List (Str × V):=putF "vouched" (.ref va) (putF "laid" (.ref la) [])
theorem zdB (la va:Addr):(hfl la va).lookup ("laid" : Str)=some (.ref la):=by
 unfold hfl
 rw[zaL,if_neg (by decide +kernel),zaL,if_pos rfl]
theorem zdO (la va:Addr):(hfl la va).lookup ("vouched" : Str)=some (.ref va):=by
 unfold hfl
 rw[zaL,if_pos rfl]
variable {la va:Addr}
theorem zd3{m:Str}(h1:¬ m ="vouched")(h2:¬ m ="laid"):(hfl la va).lookup m=none:=by
 unfold hfl
 rw[zaL,if_neg h1,zaL,if_neg h2]
 rfl
theorem zlk {n:Int} : ∀ {l:List Int},inV (.int n) (l.map V.int)=decide (n∈l)
 | []=>by simp[inV]
 | a::l=>by
  have ih:=zlk (n:=n) (l:=l)
  unfold inV at ih ⊢
  rw[zmc,List.any_cons,ih]
  by_cases z:n=a
  ·subst z;simp[eqV]
  ·have:eqV (.int a) (.int n)=false:=by
    simp[eqV]
    intro w;exact z w.symm
   rw[this]
   simp[z]
theorem zlR (zs:List Int):(zs.map V.int).all zeP=true:=by rw[List.all_map,List.all_eq_true];intro x _;rfl
theorem zeros8e:List.replicate 8 (0:Int)=[0,0,0,0,0,0,0,0]:=rfl
def found (g:Du):Prop:=(zct g.1 g.2).isSome=true
theorem e9 {ch:Nat->Option (List Int)}(h:∀ i l,ch i=some l->l.length=9):∀ l∈zaM ch,l.length=9:=λl hl=>by
 obtain⟨i,_,rfl⟩:=zmm.mp hl
 cases e:ch i with
 | none=>exact zar _
 | some l=>exact h i l e
theorem e9_1{k:Int}(h:l.length=9):∀ x∈zaM (ch1 k l),x.length=9:=e9 λi m e=>by
 unfold ch1 at e
 split at e
 ·cases e;exact h
 ·cases e
theorem e9_2 {k0 k1:Int}{l0 l1:List Int}(h0:l0.length=9)(h1:l1.length=9):∀ x∈zaM (ch2 k0 l0 k1 l1),x.length=9:=e9 λi m e=>by
 unfold ch2 at e
 split at e
 ·cases e;exact h1
 split at e
 ·cases e;exact h0
 ·cases e
theorem e9_4:∀ x∈zaM ch4,x.length=9:=e9 λi m e=>by
 unfold ch4 at e
 split at e
 ·cases e;exact zar _
 split at e
 ·cases e;exact zar _
 split at e
 ·cases e;exact zbv _
 split at e
 ·cases e;exact zbv _
 ·cases e
theorem zkq{b:Int}(h:l.length=9):(zd2 l b).length=9/\(greatest l b).length=9/\(zg4 l).length=9:=by
 refine⟨?_,?_,?_⟩
 ·unfold zd2;exact za2 λz hz=>by
   simp at hz
   rcases hz with rfl | rfl
   ·exact h
   ·exact zar 6
 ·unfold greatest;exact za2 λz hz=>by
   simp at hz
   rcases hz with rfl | rfl | rfl
   ·exact zar 6
   ·exact zbv _
   ·exact h
 ·unfold zg4;exact za2 λz hz=>by
   simp at hz
   rcases hz with rfl | rfl
   ·exact h
   ·exact zbv _
theorem zni {lo hi:Int} : (ze5 lo).length=9/\(zg5 hi).length=9:=by
 refine⟨?_,?_⟩
 ·unfold ze5;exact za2 λz hz=>by
   simp at hz
   rcases hz with rfl | rfl
   ·exact zar 6
   ·exact zbv _
 ·unfold zg5;exact za2 λz hz=>by
   simp at hz
   rcases hz with rfl | rfl
   ·exact zbv _
   ·exact zar 6
section
variable {H H1:Hp}{la t g u:Addr}{l:List Int}
end
theorem znj:∀ {l m:List Int},l.Nodup->(∀ x∈l,x∈m)->l.length<=m.length
 | [],m,_,_=>Nat.zero_le _
 | x::l,m,nd,h=>by
  obtain⟨n1,n2⟩:=List.nodup_cons.mp nd
  have hx:=h x List.mem_cons_self
  have ih:=znj (l:=l) (m:=m.erase x) n2 λy hy=>(List.mem_erase_of_ne (λz=>n1 (by rw[<-z];exact hy))).mpr (h y (List.mem_cons_of_mem _ hy))
  rw[List.length_erase_of_mem hx] at ih
  have:0<m.length:=List.length_pos_of_mem hx
  rw[List.length_cons]
  omega
def flds (v1 v2 v3 v4:V):List (Str × V):=putF "notes" v4 (putF "deeds" v3 (putF "leaves" v2 (putF "needs" v1 [])))
theorem zcC (v1 v2 v3 v4:V):(flds v1 v2 v3 v4).lookup ("needs" : Str)=some v1:=by
 unfold flds
 rw[zaL,if_neg (by decide +kernel),zaL,if_neg (by decide +kernel),zaL,if_neg (by decide +kernel),zaL,if_pos rfl]
theorem zck (v1 v2 v3 v4:V):(flds v1 v2 v3 v4).lookup ("leaves" : Str)=some v2:=by
 unfold flds
 rw[zaL,if_neg (by decide +kernel),zaL,if_neg (by decide +kernel),zaL,if_pos rfl]
theorem zbM (v1 v2 v3 v4:V):(flds v1 v2 v3 v4).lookup ("deeds" : Str)=some v3:=by
 unfold flds
 rw[zaL,if_neg (by decide +kernel),zaL,if_pos rfl]
theorem zdv (v1 v2 v3 v4:V):(flds v1 v2 v3 v4).lookup ("notes" : Str)=some v4:=by
 unfold flds
 rw[zaL,if_pos rfl]
theorem za0{f:Str}{fs:List (Str × V)}(h:fs.length<n):(putF f v fs).length<n+1:=Nat.lt_of_le_of_lt (ze0 f v fs) (by omega)
def znk (needs leaves:List (List Int))(deeds:List D)(notes:List (List (List Int))):List D:=[zaz needs,zaz leaves,.lst deeds,.lst (notes.map zaz)]
def zbx (K:Fg)(cC:Addr)(H:Hp)(p:Addr)(needs leaves:List (List Int))(deeds:List D)(notes:List (List (List Int))):Prop:=
 ∃ dx w1 w2 w3 w4,H p=some (.ins cC dx (flds w1 w2 w3 w4))/\Rep K H (zaz needs) w1/\Rep K H (zaz leaves) w2/\Rep K H (.lst deeds) w3/\Rep K H (.lst (notes.map zaz)) w4
variable {K:Fg}
theorem reps4{d1 d2 d3 d4:D}{w1 w2 w3 w4:V}(h:Reps K H [d1,d2,d3,d4] [w1,w2,w3,w4]):Rep K H d1 w1/\Rep K H d2 w2/\Rep K H d3 w3/\Rep K H d4 w4:=by
 unfold Reps at h
 obtain⟨_,_,e,h1,h⟩:=h
 cases e
 unfold Reps at h
 obtain⟨_,_,e,h2,h⟩:=h
 cases e
 unfold Reps at h
 obtain⟨_,_,e,h3,h⟩:=h
 cases e
 unfold Reps at h
 obtain⟨_,_,e,h4,h⟩:=h
 cases e
 exact⟨h1,h2,h3,h4⟩
variable {cC:Addr}
theorem zbx.same{deeds:List D}(e:Same H H')(h:zbx K cC H p needs leaves deeds notes):zbx K cC H' p needs leaves deeds notes:=by
 obtain⟨dx,w1,w2,w3,w4,h0,h1,h2,h3,h4⟩:=h
 exact⟨dx,w1,w2,w3,w4,e _ _ h0,Rep.same e _ h1,Rep.same e _ h2,Rep.same e _ h3,Rep.same e _ h4⟩
def zet (K:Fg)(cC:Addr)(H:Hp)(p:Addr)(needs leaves:List (List Int))(deeds:List Dd)(notes:List (List (List Int))):Prop:=
 zbx K cC H p needs leaves (deeds.map toD) notes/\∃ dx w1 w2 b3 w4 dvs,H p=some (.ins cC dx (flds w1 w2 (.ref b3) w4))/\H b3=some (.lst dvs)/\ze6 H deeds dvs
theorem zet.same(e:Same H H')(h:zet K cC H p needs leaves deeds notes):zet K cC H' p needs leaves deeds notes:=by
 obtain⟨h0,dx,w1,w2,b3,w4,dvs,h1,h2,h3⟩:=h
 exact⟨h0.same e,dx,w1,w2,b3,w4,dvs,e _ _ h1,e _ _ h2,h3.same e⟩
def znl (K:Fg)(cC:Addr)(H:Hp)(kvs:List (Key × V))(oath:Oath):Dd->Prop
 | .call m _ _ _ _=>∃ o deeds ns,valV kvs (.inl m)=some (.ref o)/\zbx K cC H o (oath m).1 (oath m).2 deeds ns/\Good (oath m).1 (oath m).2 deeds.length ns
 | _=>True
variable {oath:Oath}
theorem znl.same(h:znl K cC H kvs oath d)(e:Same H H'):znl K cC H' kvs oath d:=by
 cases d with
 | call m g0 g1 t0 t1=>
  obtain⟨o,ds,ns,h1,h2,h3⟩:=h
  exact⟨o,ds,ns,h1,h2.same e,h3⟩
 | _=>trivial
theorem zbx.nod{deeds:List D}(e:NoD H H')(h:zbx K cC H p needs leaves deeds notes):zbx K cC H' p needs leaves deeds notes:=by
 obtain⟨dx,w1,w2,w3,w4,h0,h1,h2,h3,h4⟩:=h
 exact⟨dx,w1,w2,w3,w4,e _ _ h0 (λ_ z=>by cases z),Rep.sq e.sq _ h1,Rep.sq e.sq _ h2,Rep.sq e.sq _ h3,Rep.sq e.sq _ h4⟩
def zoo (ls:List (List Int))(ws:List Int):Prop:=∀ (i:Nat) (l:List Int) (w:Int),ls[i]?=some l->ws[i]?=some w->∀ n∈l,CMul n w
theorem zc3(h:n<=1000):n<sizeLine:=Nat.lt_of_le_of_lt h (by decide)
structure Cr.Nine (c:Cr):Prop where
 n9:∀ l∈c.needs,l.length=9
 l9:∀ l∈c.leaves,l.length=9
 d9:∀ d∈c.deeds,zg0 d
 o9:∀ ls∈c.notes,ls.length<=100/\∀ l∈ls,l.length=9
 n:c.needs.length<=100
 l:c.leaves.length<=100
 d:c.deeds.length<=100
 o:c.notes.length<=100
def Cr.right (c:Cr):Bool:=zeb c.needs c.leaves c.deeds c.notes
structure Cr.Rt (c:Cr):Prop where
 nine:c.Nine
 r:c.right=true
variable {c:Cr}
theorem Cr.Rt.parts(h:c.Rt):c.needs.length<=2/\c.leaves.length<=2/\(1<=c.deeds.length/\c.deeds.length<=8)/\c.notes.length=c.deeds.length/\(∀ ls∈c.notes,ls.length<=2)/\∀ d∈c.deeds,zbF (c.deeds.length:Int) d=true:=by
 have r:zeb c.needs c.leaves c.deeds c.notes=true:=h.r
 simp only[zeb,zg1,ze3,ze4,zdz,btw,Bool.and_eq_true,decide_eq_true_eq,List.all_map,List.all_eq_true,Function.comp_apply,id_eq] at r
 obtain⟨⟨⟨a1,_⟩,a2,_⟩,⟨⟨b1,b2⟩,b3⟩,c1,c2⟩:=r
 exact⟨by omega,by omega,⟨by omega,by omega⟩,by omega,λls hl=>by have:=(c2 ls hl).1;omega,b3⟩
theorem zjz{spots:List Nat}(h:zes spots l=true):Sm l:=λn hn=>by
 simp only[zes,zeU,btw,Bool.and_eq_true,decide_eq_true_eq,List.all_map,List.all_eq_true,Function.comp_apply,id_eq] at h
 have:=h.1 n hn
 constructor <;> omega
theorem zrT(h9:zg0 d)(h:zbF (n:Int) d=true):dOk n d:=by
 cases d with
 | set hd l=>
  simp only[zbF,Bool.and_eq_true] at h
  exact⟨h9,zjz h.2⟩
 | part hd l b=>
  simp only[zbF,btw,Bool.and_eq_true,decide_eq_true_eq] at h
  exact⟨h9,by omega,by omega⟩
 | draw hd lo hi=>trivial
 | turn l p=>
  simp only[zbF,btw,Bool.and_eq_true,decide_eq_true_eq] at h
  exact⟨h9,h.2.1,h.2.2⟩
 | hold l=>exact h9
 | call m g0 g1 t0 t1=>trivial
theorem Cr.Rt.dok(h:c.Rt):∀ d∈c.deeds,dOk c.deeds.length d:=λd hd=>zrT (h.nine.d9 d hd) (h.parts.2.2.2.2.2 d hd)
theorem Cr.Rt.called(h:c.Rt){m:Int}(hm:m∈zaZ c.deeds):0<=m/\m<=99:=by
 obtain⟨d,hd,e⟩:=zlQ hm
 have k:=h.parts.2.2.2.2.2 d hd
 cases d with
 | call n g0 g1 t0 t1=>
  have e:n=m:=by injection e
  subst e
  simp only[zbF,btw,Bool.and_eq_true,decide_eq_true_eq] at k
  exact k.2.1
 | _=>cases e
theorem Cr.Rt.calledMost(h:c.Rt):∀ m∈zaZ c.deeds,m.natAbs<zbn:=λm hm=>by
 have:=h.called hm
 unfold zbn;omega
theorem Cr.Rt.good(h:c.Rt):Good c.needs c.leaves c.deeds.length c.notes where
 dn:=h.parts.2.2.2.1.symm
 d:=h.nine.d
 n:=h.nine.n
 l:=h.nine.l
 n9:=h.nine.n9
 l9:=h.nine.l9
 o:=h.nine.o9
def znm (cr:Int->Cr):Oath:=λm=>((cr m).needs,(cr m).leaves)
def Cr.gs (c:Cr)(cr:Int->Cr):List Du:=ziz c.needs c.leaves c.deeds c.notes (znm cr)
def zg8 (g:Du):Prop:=g.1.length=9/\g.2.length<=4/\∀ l∈g.2,l.length=9
theorem ze8{E:List (List Int)}(h:∀ x∈E,x.length=9):(zaV l E).length=9:=by
 unfold zaV
 have:=za2 (ls:=E) (ws:=l.tail) h
 cases e:zcs E l.tail with
 | nil=>rw[e] at this;simp at this
 | cons x r=>rw[e] at this;simpa [zkn] using this
theorem zkr{N A:List (List Int)}{T:Int->List (List Int)}(hN:N.length<=2/\∀ l∈N,l.length=9)(hA:A.length<=2/\∀ l∈A,l.length=9)(hT:∀ p,(T p).length<=2/\∀ l∈T p,l.length=9)(ok:dOk n d)(ho:∀ m,zdA d=some m->(oath m).1.length<=2/\(oath m).2.length<=2):
  (zdu N A T oath d).length<=4/\∀ g∈zdu N A T oath d,zg8 g:=by
 have two:∀ {x y:List Int}{g:List Int},g.length=9->x.length=9->y.length=9->zg8 (g,N++[x,y]):=λ{x y g} hg hx hy=>⟨hg,by simp;omega,λl hl=>by
  simp only[zma,List.mem_cons,List.not_mem_nil,or_false] at hl
  rcases hl with z | z | z
  ·exact hN.2 l z
  ·rw[z];exact hx
  ·rw[z];exact hy⟩
 have one:∀ {x:List Int}{g:List Int},g.length=9->x.length=9->zg8 (g,N++[x]):=λ{x g} hg hx=>⟨hg,by simp;omega,λl hl=>by
  simp only[zma,List.mem_cons,List.not_mem_nil,or_false] at hl
  rcases hl with z | z
  ·exact hN.2 l z
  ·rw[z];exact hx⟩
 have nil:∀ {g:List Int},g.length=9->zg8 (g,N):=λhg=>⟨hg,by show N.length<=4;omega,hN.2⟩
 have b6:=zar 6
 have b7:=zar 7
 cases d with
 | set h l=>
  refine⟨by simp only[zdu,zlm];omega,λg hg=>?_⟩
  obtain⟨x,hx,rfl⟩:=zmm.mp hg
  exact nil (ze8 (e9_1 ok.1))
 | part h l b=>
  refine⟨by simp only[zdu,zlm];omega,λg hg=>?_⟩
  obtain⟨x,hx,rfl⟩:=zmm.mp hg
  exact two (ze8 (e9_1 b6)) (zkq ok.1).1 (zkq ok.1).2.1
 | draw h lo hi=>
  refine⟨by simp only[zdu,zlm];omega,λg hg=>?_⟩
  obtain⟨x,hx,rfl⟩:=zmm.mp hg
  exact two (ze8 (e9_1 b6)) (zni (hi:=hi)).1 (zni (lo:=lo)).2
 | turn l p=>
  refine⟨by have:=(hT p).1;simp only[zdu,List.length_append,zlm];omega,λg hg=>?_⟩
  rcases zma.mp hg with hg | hg
  ·obtain⟨x,hx,rfl⟩:=zmm.mp hg
   exact one ((hT p).2 x hx) ok.1
  ·obtain⟨x,hx,rfl⟩:=zmm.mp hg
   exact one (hA.2 x hx) (zkq (b:=0) ok.1).2.2
 | hold l=>
  refine⟨by simp only[zdu,List.length_append,zlm,List.length_cons,List.length_nil];omega,λg hg=>?_⟩
  rcases zma.mp hg with hg | hg
  ·rw[zms.mp hg];exact nil ok
  ·obtain⟨x,hx,rfl⟩:=zmm.mp hg
   exact one (hA.2 x hx) ok
 | call m g0 g1 t0 t1=>
  have o2:=ho m rfl
  refine⟨by simp only[zdu,List.length_append,zlm];omega,λg hg=>?_⟩
  rcases zma.mp hg with hg | hg
  ·obtain⟨x,hx,rfl⟩:=zmm.mp hg
   exact nil (ze8 (e9_2 (zar g0) (zar g1)))
  ·obtain⟨x,hx,rfl⟩:=zmm.mp hg
   refine⟨ze8 (e9_2 b6 b7),?_,λl hl=>?_⟩
   ·simp only[List.length_append,zlm];omega
   ·rcases zma.mp hl with z | z
    ·exact hN.2 l z
    ·obtain⟨y,_,rfl⟩:=zmm.mp z
     exact ze8 (e9_2 (zar g0) (zar g1))
theorem zg9(hD:∀ p,(dueL leaves notes p).length<=2/\∀ l∈dueL leaves notes p,l.length=9):∀ (ds:List Dd) (p:Nat),(∀ d∈ds,dOk n d)->(∀ d∈ds,∀ m,zdA d=some m->(oath m).1.length<=2/\(oath m).2.length<=2)->(zf5 leaves notes oath ds p).length<=4 * ds.length/\∀ g∈zf5 leaves notes oath ds p,zg8 g
 | [],_,_,_=>⟨Nat.le_refl _,λg hg=>by cases hg⟩
 | d::ds,p,h,ho=>by
  have ih:=zg9 hD ds (p+1) (λe he=>h e (List.mem_cons_of_mem _ he)) λe he=>ho e (List.mem_cons_of_mem _ he)
  have h1:=zkr (d:=d) (hD p) (hD ((p:Int)+1)) hD (h d List.mem_cons_self) (ho d List.mem_cons_self)
  refine⟨?_,λg hg=>?_⟩
  ·show (zdu _ _ _ _ d++zf5 leaves notes oath ds (p+1)).length<=_
   rw[List.length_append,List.length_cons]
   omega
  ·rcases zma.mp (show g∈zdu _ _ _ _ d++zf5 leaves notes oath ds (p+1) from hg) with z | z
   ·exact h1.2 g z
   ·exact ih.2 g z
variable {cr:Int->Cr}
theorem Cr.Rt.gs(h:c.Rt)(ho:∀ m∈zaZ c.deeds,(cr m).Rt):(c.gs cr).length<=34/\∀ g∈c.gs cr,zg8 g:=by
 have hD:∀ p,(dueL c.leaves c.notes p).length<=2/\∀ l∈dueL c.leaves c.notes p,l.length=9:=λp=>⟨zp3 h.parts.2.1 h.parts.2.2.2.2.1 p,(h.good.due p).2⟩
 have k:=zg9 (oath:=znm cr) hD c.deeds 0 h.dok λd hd m e=>by
  have:=ho m (List.mem_filterMap.mpr ⟨d,hd,e⟩)
  exact⟨this.parts.1,this.parts.2.1⟩
 have d8:=h.parts.2.2.1.2
 have h0:=(hD 0).1
 unfold Cr.gs ziz znh
 refine⟨by rw[List.length_append,zlm];omega,λg hg=>?_⟩
 rcases zma.mp hg with z | z
 ·obtain⟨x,_,rfl⟩:=zmm.mp z
  exact⟨ze8 e9_4,by show c.needs.length<=4;have:=h.parts.1;omega,h.nine.n9⟩
 ·exact k.2 g z
def zbw (cC:Addr)(H:Hp)(p:Addr)(c:Cr)(fp:List Addr):Prop:=∃ dx w1 w2 w3 w4 f,fp=p::f/\H p=some (.ins cC dx (flds w1 w2 w3 w4))/\zaj H (znk c.needs c.leaves (c.deeds.map toD) c.notes) [w1,w2,w3,w4] f
theorem zbw.at(h:zbw cC H p c fp):zbx K cC H p c.needs c.leaves (c.deeds.map toD) c.notes:=by
 obtain⟨dx,w1,w2,w3,w4,f,rfl,hp,r⟩:=h
 obtain⟨h1,h2,h3,h4⟩:=reps4 (zaj.reps (K:=K) _ r)
 exact⟨dx,w1,w2,w3,w4,hp,h1,h2,h3,h4⟩
theorem zbw.t(h9:∀ d∈c.deeds,zg0 d)(h:zbw cC H p c fp):zet K cC H p c.needs c.leaves c.deeds c.notes:=by
 refine⟨h.at,?_⟩
 obtain⟨dx,w1,w2,w3,w4,f,rfl,hp,r⟩:=h
 obtain⟨x1,x2,x3,x4,f1,f2,f3,f4,e,g1,g2,g3,g4⟩:=zoZ r
 cases e
 obtain⟨b3,dvs',r3,rfl,h3',z3⟩:=RepF.lso g3
 refine⟨dx,w1,w2,b3,w4,dvs',hp,h3',by simpa using z3.length,λi d x q1 q2=>?_⟩
 obtain⟨f,hf⟩:=zaj.item z3 i (toD d) x (by rw[zgm,q1];rfl) q2
 exact zmY (zlj (h9 d (zmg q1))) hf
theorem zbw.has(h:zbw cC H p c fp):∀ b∈fp,∃ o,H b=some o:=λb hb=>by
 obtain⟨dx,w1,w2,w3,w4,f,rfl,hp,r⟩:=h
 rcases List.mem_cons.mp hb with rfl | hb
 ·exact⟨_,hp⟩
 ·exact zaj.has _ r b hb
theorem zbw.hasN(h:zbw cC H p c fp):∀ b∈fp,∃ o,H b=some o/\∀ kvs,o≠HO.dK kvs:=λb hb=>by
 obtain⟨dx,w1,w2,w3,w4,f,rfl,hp,r⟩:=h
 rcases List.mem_cons.mp hb with rfl | hb
 ·exact⟨_,hp,λ_ z=>by cases z⟩
 ·obtain⟨xs,e⟩:=zaj.hasL _ r b hb
  exact⟨_,e,λ_ z=>by cases z⟩
theorem zbw.frame(tk:Tups H H')(k:∀ b∈fp,∀ o,H b=some o->H' b=some o)(h:zbw cC H p c fp):zbw cC H' p c fp:=by
 obtain⟨dx,w1,w2,w3,w4,f,rfl,hp,r⟩:=h
 refine⟨dx,w1,w2,w3,w4,f,rfl,k p List.mem_cons_self _ hp,zaj.frame tk _ (λb hb=>?_) r⟩
 obtain⟨o,ho⟩:=zaj.has _ r b hb
 rw[ho]
 exact k b (List.mem_cons_of_mem _ hb) o ho
theorem zbw.same(e:Same H H')(h:zbw cC H p c fp):zbw cC H' p c fp:=h.frame e.tups λb _ o ho=>e b o ho
theorem zbw.nod(e:NoD H H')(h:zbw cC H p c fp):zbw cC H' p c fp:=by
 obtain⟨dx,w1,w2,w3,w4,f,rfl,hp,r⟩:=h
 exact⟨dx,w1,w2,w3,w4,f,rfl,e _ _ hp (λ_ z=>by cases z),zaj.sq e.sq _ r⟩
def CrIn (cC:Addr)(H:Hp)(cr:Int->Cr)(fp:List Addr)(m:Int)(v:V):Prop:=∃ p f,v=.ref p/\zbw cC H p (cr m) f/\∀ b∈f,b∈fp
structure HAt (cH cC:Addr)(H:Hp)(h la va:Addr)(ks:List Int)(cr:Int->Cr)(vs:List Int)(fp:List Addr):Prop where
 ins:∃ dx,H h=some (.ins cH dx (hfl la va))
 laid:∃ kvs,H la=some (.dK kvs)/\KVs (CrIn cC H cr fp) kvs ks
 vou:∃ kvs,H va=some (.dK kvs)/\KVs (λ_ v=>v=.bl true) kvs vs
 ne:la≠va
 rt:∀ m∈ks,(cr m).Rt
 few:ks.length<=60
 sub:∀ m∈vs,m∈ks
 has:∀ b∈fp,∃ o,H b=some o/\∀ kvs,o≠HO.dK kvs
section
variable {cH cC:Addr}{H H':Hp}{h la va:Addr}{ks vs:List Int}{cr:Int->Cr}{fp:List Addr}
theorem HAt.frame (A:HAt cH cC H h la va ks cr vs fp)(tk:Tups H H')(k:∀ b,b∈h::la::va::fp->∀ o,H b=some o->H' b=some o):HAt cH cC H' h la va ks cr vs fp where
 ins:=by obtain⟨dx,e⟩:=A.ins;exact⟨dx,k _ (by simp) _ e⟩
 laid:=by
  obtain⟨kvs,e,q⟩:=A.laid
  exact⟨kvs,k _ (by simp) _ e,q.mono λm v ⟨p,f,e1,e2,e3⟩=>⟨p,f,e1,e2.frame tk λb hb o ho=>k b (by simp[e3 b hb]) o ho,e3⟩⟩
 vou:=by obtain⟨kvs,e,q⟩:=A.vou;exact⟨kvs,k _ (by simp) _ e,q⟩
 ne:=A.ne
 rt:=A.rt
 few:=A.few
 sub:=A.sub
 has:=λb hb=>by obtain⟨o,e,n⟩:=A.has b hb;exact⟨o,k b (by simp[hb]) o e,n⟩
theorem HAt.same (A:HAt cH cC H h la va ks cr vs fp)(e:Same H H'):HAt cH cC H' h la va ks cr vs fp:=A.frame e.tups λb _ o ho=>e b o ho
theorem HAt.putV{vs':List Int}(A:HAt cH cC H h la va ks cr vs fp)(q:KVs (λ_ v=>v=.bl true) kvs vs')(s:∀ m∈vs',m∈ks):HAt cH cC (upd H va (.dK kvs)) h la va ks cr vs' fp where
 ins:=by
  obtain⟨dx,z⟩:=A.ins
  obtain⟨kv0,hv,_⟩:=A.vou
  exact⟨dx,by rw[zai (zpd z hv (by intro w;cases w))];exact z⟩
 laid:=by
  obtain⟨kv0,hv,_⟩:=A.vou
  obtain⟨kl,z,q⟩:=A.laid
  exact⟨kl,by rw[zai A.ne];exact z,q.mono λm v ⟨p,f,e1,e2,e3⟩=>⟨p,f,e1,e2.nod (zg6 hv),e3⟩⟩
 vou:=⟨kvs,zaa,q⟩
 ne:=A.ne
 rt:=A.rt
 few:=A.few
 sub:=s
 has:=λb hb=>by
  obtain⟨kv0,hv,_⟩:=A.vou
  obtain⟨o,z,n⟩:=A.has b hb
  exact⟨o,zg6 hv b o z n,n⟩
theorem HAt.nd (A:HAt cH cC H h la va ks cr vs fp):ks.Nodup:=by obtain⟨_,_,q⟩:=A.laid;exact q.2.1
theorem HAt.vfew (A:HAt cH cC H h la va ks cr vs fp):vs.length<=60:=by
 obtain⟨_,_,q⟩:=A.vou
 have:=znj q.2.1 A.sub
 have:=A.few
 omega
end
theorem OffA.putDict(e:OffA S H H'){T:List Addr}(h:∀ b∈S,b∈T):OffA T H H':=λb o n z=>e b o (λw=>n (h b w)) z
variable {dx:Addr}
theorem HAt.start{cH:Addr}{h:Addr}(h1:H h=some (.ins cH dx (hfl la va)))(h2:H la=some (.dK []))(h3:H va=some (.dK []))(ne:la≠va):HAt cH cC H h la va [] cr [] [] where
 ins:=⟨dx,h1⟩
 laid:=⟨[],h2,KVs.nil⟩
 vou:=⟨[],h3,KVs.nil⟩
 ne:=ne
 rt:=λm hm=>by cases hm
 few:=Nat.zero_le _
 sub:=λm hm=>by cases hm
 has:=λm hm=>by cases hm
variable {ha:Addr}
theorem znn{u x:HO}(ha0:H ha=none)(dx0:H dx=none)(o1:OffA [ha] (upd (upd H dx u) ha x) H1):Same H H1:=λb o e=>o1 b o (by simp[zan e ha0]) (by rw[zai (zan e ha0),zai (zan e dx0)];exact e)
def ze9 (ks:List Int)(cr:Int->Cr)(n:Int):List Int:=if n∈ks then zaZ (cr n).deeds else []
def setC (cr:Int->Cr)(n:Int)(c:Cr):Int->Cr:=λm=>if m=n then c else cr m
theorem zha:∀ {a b:List (List Int)},zb1 (a.map nums) (b.map nums)=decide (a=b)
 | [],[]=>by unfold List.map zb1;rfl
 | [],_::_=>by rw[zmc];unfold List.map zb1;simp
 | _::_,[]=>by rw[zmc];unfold List.map zb1;simp
 | m::ms,n::ns=>by
  rw[zmc,zmc]
  unfold zb1 nums pyEq
  rw[zha,zfL,Bool.eq_iff_iff]
  simp
theorem zh7 {a b:List (List Int)} : pyEq (zaz a) (zaz b)=decide (a=b):=by
 unfold zaz pyEq
 exact zha
def rowD:Option (Int × List Int)->D
 | none=>.non
 | some (w,ws)=>.tup [.int w,nums ws]
variable {a:Addr}{Q:VK}
theorem i_inI{n:Int}(h:SqL K H a (l.map V.int))(q:Q (.bl (decide (n∈l))) H):rIn K false (.int n) (.ref a) H Q:=i_in (.inl h) rfl (zlR _) (by rw[zlk];exact q)
theorem zks{m:Int}(nd:l.Nodup)(e:l[i]?=some m):m∉l.take i:=by
 obtain⟨hi,rfl⟩:=zge.mp e
 intro z
 rw[<-List.take_append_drop i l,List.drop_eq_getElem_cons hi] at nd
 exact (List.nodup_append.mp nd).2.2 _ z _ List.mem_cons_self rfl
def zgz (gs:List Du):Prop:=∀ g∈gs,found g
structure Fm where
 n:Int
 p:Int
 hands:List Int
 asked:List Int
def zcW (f:Fm):List Int:=f.hands++f.asked++f.hands.take 2
def zaI (ls:List (List Int))(ns:List Int):Option Nat:=ls.findIdx? λl=>decide (zdt l ns<0)
abbrev End:=Option (List V)
def brk (w:Str)(f:Fm)(i:Nat):List V:=[.str "broken",.str w,.int f.n,.int f.p,.int (i:Int)]
def zfr (c:Cr)(p:Int):Option Dd:=c.deeds[p.toNat]?
def zkt:Option Dd->Int × Int
 | some (.call _ _ _ t0 t1)=>(t0,t1)
 | _=>(0,1)
def zjA (cr:Int->Cr)(g:Fm)(l0 l1:Int):Fm:={g with hands:=(g.hands.set (zkt (zfr (cr g.n) g.p)).1.toNat l0).set (zkt (zfr (cr g.n) g.p)).2.toNat l1,p:=g.p+1}
def zlS (f:Fm):List V:=[.str "done",.int (f.hands.getD 0 0),.int (f.hands.getD 1 0)]
def zd4 (cr:Int->Cr)(f:Fm):End:=(zaI ((cr f.n).notes.getD f.p.toNat []) (zcW f)).map (brk "notes" f)
def come (cr:Int->Cr):Fm->List Fm->List Fm × End
 | f,[]=>if f.p=((cr f.n).deeds.length:Int) then (match zaI (cr f.n).leaves (zcW f) with
   | some i=>([f],some (brk "leaves" f i))
   | none=>([],some (zlS f))) else ([f],zd4 cr f)
 | f,g::st=>if f.p=((cr f.n).deeds.length:Int) then (match zaI (cr f.n).leaves (zcW f) with
   | some i=>(f::g::st,some (brk "leaves" f i))
   | none=>come cr (zjA cr g (f.hands.getD 0 0) (f.hands.getD 1 0)) st) else (f::g::st,zd4 cr f)
structure Rs where
 st:List Fm
 ins:List Int
 k:Int
 en:End
def zd5 (cr:Int->Cr)(s:Rs)(f:Fm)(st:List Fm):Rs:={s with st:=(come cr f st).1,en:=(come cr f st).2}
def putR (cr:Int->Cr)(s:Rs)(f:Fm)(st:List Fm)(h x:Int):Rs:=zd5 cr s {f with hands:=f.hands.set h.toNat x,p:=f.p+1} st
def zeu (a0 a1:Int):List Int:=[0,0,0,0,a0,a1,0,0]
def zec (n a0 a1:Int):Fm:=⟨n,0,[a0,a1,0,0],[a0,a1]⟩
def zfO (cr:Int->Cr)(ks:List Int)(s:Rs)(f:Fm)(st:List Fm):Dd->Rs
 | .set h l=>putR cr s f st h (zdt l (zcW f))
 | .part h l b=>putR cr s f st h (zdt l (zcW f) / b)
 | .draw h lo hi=>match s.ins with
  | []=>{s with en:=some [.str "dry"]}
  | x::r=>if lo<=x/\x<=hi then putR cr {s with ins:=r} f st h x else {s with ins:=r,en:=some [.str "stray"]}
 | .turn l q=>zd5 cr s {f with p:=if 0<=zdt l (zcW f) then q else f.p+1} st
 | .hold l=>match zaI [l] (zcW f) with
  | some i=>{s with en:=some (brk "hold" f i)}
  | none=>zd5 cr s {f with p:=f.p+1} st
 | .call m g0 g1 _ _=>if m∉ks then {s with en:=some [.str "lost"]} else if 20<=(f::st).length then {s with en:=some [.str "deep"]} else
   match zaI (cr m).needs (zeu (f.hands.getD g0.toNat 0) (f.hands.getD g1.toNat 0)) with
   | some i=>{s with en:=some (brk "needs" f i)}
   | none=>zd5 cr s (zec m (f.hands.getD g0.toNat 0) (f.hands.getD g1.toNat 0)) (f::st)
def zhx (cr:Int->Cr)(ks:List Int)(s:Rs):Rs:=match s.st with
 | []=>s
 | f::st=>match zfr (cr f.n) f.p with
  | none=>s
  | some d=>zfO cr ks {s with k:=s.k+1} f st d
def goR (cr:Int->Cr)(ks:List Int):Nat->Rs->Rs
 | 0,s=>s
 | n+1,s=>if s.en=none then goR cr ks n (zhx cr ks s) else s
structure WfF (ks:List Int)(cr:Int->Cr)(f:Fm):Prop where
 m:f.n∈ks
 p0:0<=f.p
 pn:f.p<=((cr f.n).deeds.length:Int)
 h4:f.hands.length=4
 a2:f.asked.length=2
def zh8 (cr:Int->Cr)(f:Fm):Prop:=∃ m g0 g1 t0 t1,zfr (cr f.n) f.p=some (.call m g0 g1 t0 t1)
def Wf (ks:List Int)(cr:Int->Cr)(st:List Fm):Prop:=(∀ f∈st,WfF ks cr f)/\∀ f∈st.tail,zh8 cr f
variable {f:Fm}{st:List Fm}
theorem Wf.tail(h:Wf ks cr (f::st)):Wf ks cr st:=⟨λg hg=>h.1 g (List.mem_cons_of_mem _ hg),λg hg=>h.2 g (List.mem_of_mem_tail hg)⟩
theorem zh8.lt(h:zh8 cr f):f.p.toNat<(cr f.n).deeds.length:=by
 obtain⟨m,g0,g1,t0,t1,e⟩:=h
 exact (zge.mp e).1
theorem zll{g:Fm}{l0 l1:Int}(h:WfF ks cr g)(c:zh8 cr g):WfF ks cr (zjA cr g l0 l1) where
 m:=h.m
 p0:=by have:=h.p0;show 0<=g.p+1;omega
 pn:=by have:=c.lt;have:=h.p0;show g.p+1<=((cr g.n).deeds.length:Int);omega
 h4:=by unfold zjA;simp[h.h4]
 a2:=h.a2
theorem zku: ∀ {f:Fm}{st:List Fm},Wf ks cr (f::st)->Wf ks cr (come cr f st).1/\((come cr f st).2=none->∃ g r,(come cr f st).1=g::r/\g.p<((cr g.n).deeds.length:Int))
 | f,[],h=>by
  unfold come
  split
  ·split
   ·exact⟨h,λz=>by cases z⟩
   ·exact⟨⟨λg hg=>(by cases hg),λg hg=>(by cases hg)⟩,λz=>(by cases z)⟩
  ·rename_i ne
   exact⟨h,λ_=>⟨f,[],rfl,by have:=(h.1 f List.mem_cons_self).pn;omega⟩⟩
 | f,g::st,h=>by
  unfold come
  split
  ·split
   ·exact⟨h,λz=>by cases z⟩
   ·refine zku ⟨λk hk=>?_,λk hk=>h.tail.2 k hk⟩
    rcases List.mem_cons.mp hk with rfl | hk
    ·exact zll (h.tail.1 g List.mem_cons_self) (h.2 g List.mem_cons_self)
    ·exact h.tail.1 k (List.mem_cons_of_mem _ hk)
  ·rename_i ne
   exact⟨h,λ_=>⟨f,g::st,rfl,by have:=(h.1 f List.mem_cons_self).pn;omega⟩⟩
structure WfR (ks:List Int)(cr:Int->Cr)(s:Rs):Prop where
 w:Wf ks cr s.st
 on:s.en=none->∃ f st,s.st=f::st/\f.p<((cr f.n).deeds.length:Int)
variable {s:Rs}
theorem zd6(h:Wf ks cr (f::st)):WfR ks cr (zd5 cr s f st):=⟨(zku h).1,(zku h).2⟩
theorem Wf.top{g:Fm}(h:Wf ks cr (f::st))(w:WfF ks cr g):Wf ks cr (g::st):=⟨λk hk=>by
 rcases List.mem_cons.mp hk with rfl | hk
 ·exact w
 ·exact h.1 k (List.mem_cons_of_mem _ hk),h.2⟩
theorem zh9{n:Int}{m:Int}(h:zbF n (.call m g0 g1 t0 t1)=true):(0<=g0/\g0<=3)/\(0<=g1/\g1<=3)/\(0<=t0/\t0<=3)/\(0<=t1/\t1<=3)/\0<=m/\m<=99:=by
 simp only[zbF,zcj,btw,List.all_cons,List.all_nil,id,Bool.and_true,Bool.and_eq_true,decide_eq_true_eq] at h
 omega
theorem zop(hrt:∀ m∈ks,(cr m).Rt)(h:WfR ks cr s)(he:s.en=none):WfR ks cr (zhx cr ks s):=by
 obtain⟨f,st,e,hp⟩:=h.on he
 have hw:=h.w
 rw[e] at hw
 have wf:=hw.1 f List.mem_cons_self
 have hlt:f.p.toNat<(cr f.n).deeds.length:=by have:=wf.p0;omega
 have ok:=(hrt f.n wf.m).parts.2.2.2.2.2
 unfold zhx
 rw[e]
 dsimp only
 unfold zfr
 rw[List.getElem?_eq_getElem hlt]
 dsimp only
 have hok:=ok _ (List.getElem_mem hlt)
 have hd:zfr (cr f.n) f.p=some (cr f.n).deeds[f.p.toNat]:=List.getElem?_eq_getElem hlt
 generalize (cr f.n).deeds[f.p.toNat]=d at *
 have up:∀ x,WfF ks cr {f with hands:=x,p:=f.p+1}↔x.length=4:=λx=>⟨λz=>z.h4,λz=>⟨wf.m,by have:=wf.p0;show 0<=f.p+1;omega,by show f.p+1<=((cr f.n).deeds.length:Int);omega,z,wf.a2⟩⟩
 have same:∀ (x:List Int) (y:Int) (z:List V),WfR ks cr ({st:=f::st,ins:=x,k:=y,en:=some z} : Rs):=λx y z=>⟨hw,λw=>by cases w⟩
 cases d with
 | set hd l=>exact zd6 (hw.top ((up _).mpr (by simp[wf.h4])))
 | part hd l b=>exact zd6 (hw.top ((up _).mpr (by simp[wf.h4])))
 | draw hd lo hi=>
  unfold zfO
  dsimp only
  split
  ·exact same _ _ _
  ·split
   ·exact zd6 (hw.top ((up _).mpr (by simp[wf.h4])))
   ·exact same _ _ _
 | turn l q=>
  simp only[zbF,btw,Bool.and_eq_true,decide_eq_true_eq] at hok
  refine zd6 (hw.top ⟨wf.m,?_,?_,wf.h4,wf.a2⟩)
  ·dsimp only;have:=wf.p0;split <;> omega
  ·dsimp only;split <;> omega
 | hold l=>
  unfold zfO
  dsimp only
  split
  ·exact same _ _ _
  ·exact zd6 (hw.top ((up f.hands).mpr wf.h4))
 | call m g0 g1 t0 t1=>
  unfold zfO
  dsimp only
  split
  ·exact same _ _ _
  ·rename_i mk
   split
   ·exact same _ _ _
   ·split
    ·exact same _ _ _
    ·refine zd6 ⟨λk hk=>?_,λk hk=>?_⟩
     ·rcases List.mem_cons.mp hk with rfl | hk
      ·exact⟨Classical.byContradiction λz=>mk z,by show (0:Int)<=0;omega,by show (0:Int)<=_;omega,rfl,rfl⟩
      ·exact hw.1 k hk
     ·rcases List.mem_cons.mp (show k∈f::st from hk) with rfl | hk
      ·exact⟨m,g0,g1,t0,t1,hd⟩
      ·exact hw.2 k hk
theorem zp4(h:s.en≠none):∀ n,goR cr ks n s=s
 | 0=>rfl
 | n+1=>by unfold goR;rw[if_neg h]
variable {r:List (Str × V)}
theorem zcH{k x:Str}(h:(k == x)=false):List.lookup k ((x,v)::r)=List.lookup k r:=by simp[List.lookup,h]
theorem ziA{k:Str}: List.lookup k ((k,v)::r)=some v:=by simp[List.lookup]
theorem zhy{k x:Str}{w:V}(h:¬ x=k):putF k v ((x,w)::r)=(x,w)::putF k v r:=by
 show (if x=k then _ else _)=_
 rw[if_neg h]
theorem zp5{k:Str}{w:V}: putF k v ((k,w)::r)=(k,v)::r:=by
 show (if k=k then _ else _)=_
 rw[if_pos rfl]
theorem zo7{k:Str}: putF k v []=[(k,v)]:=rfl
def ffl (n p:Int)(ha aa:Addr):List (Str × V):=[("number",.int n),("place",.int p),("hands",.ref ha),("asked",.ref aa)]
theorem zjB (n p:Int)(ha aa:Addr):(ffl n p ha aa).lookup ("number" : Str)=some (.int n):=ziA
theorem zcX (n p:Int)(ha aa:Addr):(ffl n p ha aa).lookup ("place" : Str)=some (.int p):=by
 unfold ffl;rw[zcH (by decide +kernel)];exact ziA
theorem zcl (n p:Int)(ha aa:Addr):(ffl n p ha aa).lookup ("hands" : Str)=some (.ref ha):=by
 unfold ffl;rw[zcH (by decide +kernel),zcH (by decide +kernel)];exact ziA
theorem zoq (n p:Int)(ha aa:Addr):(ffl n p ha aa).lookup ("asked" : Str)=some (.ref aa):=by
 unfold ffl;rw[zcH (by decide +kernel),zcH (by decide +kernel),zcH (by decide +kernel)];exact ziA
variable {aa:Addr}
theorem zlT{n p:Int}{m:Str}(h:(m =="number" || (m =="place" || (m =="hands" || m =="asked")))=false):(ffl n p ha aa).lookup m=none:=by
 simp only[Bool.or_eq_false_iff] at h
 obtain⟨h1,h2,h3,h4⟩:=h
 unfold ffl;rw[zcH h1,zcH h2,zcH h3,zcH h4];rfl
variable {q:Int}
theorem zo8{n p:Int}: putF "place" (.int q) (ffl n p ha aa)=ffl n q ha aa:=by
 unfold ffl;rw[zhy (by decide +kernel),zp5]
theorem zp6{n p:Int}: putF "asked" (.ref aa) (putF "hands" (.ref ha) (putF "place" (.int p) (putF "number" (.int n) [])))=ffl n p ha aa:=by
 repeat (first | rw[zo7] | rw[zhy (by decide +kernel)])
 rfl
def rfls (ka ia sa:Addr)(k:Int)(ev:V):List (Str × V):=[("known",.ref ka),("inputs_left",.ref ia),("stack",.ref sa),("steps_done",.int k),("ending",ev)]
section
variable {ka ia sa:Addr}{k j:Int}{ev ew:V}
theorem zfs:(rfls ka ia sa k ev).lookup ("known" : Str)=some (.ref ka):=ziA
theorem zjC:(rfls ka ia sa k ev).lookup ("inputs_left" : Str)=some (.ref ia):=by
 unfold rfls;rw[zcH (by decide +kernel)];exact ziA
theorem zbN:(rfls ka ia sa k ev).lookup ("stack" : Str)=some (.ref sa):=by
 unfold rfls;rw[zcH (by decide +kernel),zcH (by decide +kernel)];exact ziA
theorem zor:(rfls ka ia sa k ev).lookup ("steps_done" : Str)=some (.int k):=by
 unfold rfls;rw[zcH (by decide +kernel),zcH (by decide +kernel),zcH (by decide +kernel)];exact ziA
theorem zev:(rfls ka ia sa k ev).lookup ("ending" : Str)=some ev:=by
 unfold rfls;rw[zcH (by decide +kernel),zcH (by decide +kernel),zcH (by decide +kernel),zcH (by decide +kernel)];exact ziA
theorem zcu {m:Str}(h:(m =="known" || (m =="inputs_left" || (m =="stack" || (m =="steps_done" || m =="ending"))))=false):(rfls ka ia sa k ev).lookup m=none:=by
 simp only[Bool.or_eq_false_iff] at h
 obtain⟨h1,h2,h3,h4,h5⟩:=h
 unfold rfls;rw[zcH h1,zcH h2,zcH h3,zcH h4,zcH h5];rfl
theorem zos:putF "steps_done" (.int j) (rfls ka ia sa k ev)=rfls ka ia sa j ev:=by
 unfold rfls;rw[zhy (by decide +kernel),zhy (by decide +kernel),zhy (by decide +kernel),zp5]
theorem zda:putF "ending" ew (rfls ka ia sa k ev)=rfls ka ia sa k ew:=by
 unfold rfls;rw[zhy (by decide +kernel),zhy (by decide +kernel),zhy (by decide +kernel),zhy (by decide +kernel),zp5]
theorem zp7:putF "ending" ev (putF "steps_done" (.int k) (putF "stack" (.ref sa) (putF "inputs_left" (.ref ia) (putF "known" (.ref ka) []))))=rfls ka ia sa k ev:=by
 repeat (first | rw[zo7] | rw[zhy (by decide +kernel)])
 rfl
end
def zkv (H:Hp):End->V->Prop
 | none,v=>v=.non
 | some xs,v=>∃ T,v=.ref T/\H T=some (.tup xs)
variable {en:End}
theorem zkv.tups(t:Tups H H')(h:zkv H en v):zkv H' en v:=by
 cases en with
 | none=>exact h
 | some xs=>obtain⟨T,e,z⟩:=h;exact⟨T,e,t _ _ z⟩
theorem zkv.none_iff(h:zkv H en v):decide (v=V.non)=en.isNone:=by
 cases en with
 | none=>rw[show v=.non from h];rfl
 | some xs=>obtain⟨T,e,z⟩:=h;rw[e,zkk];rfl
structure KnownAt (cC:Addr)(H:Hp)(ka:Addr)(ks:List Int)(cr:Int->Cr)(kfp:List Addr):Prop where
 d:∃ kvs,H ka=some (.dK kvs)/\KVs (CrIn cC H cr kfp) kvs ks
 rt:∀ m∈ks,(cr m).Rt
 has:∀ b∈kfp,∃ o,H b=some o
section
variable {cC:Addr}{H H':Hp}{ka:Addr}{ks:List Int}{cr:Int->Cr}{kfp:List Addr}
theorem KnownAt.frame (A:KnownAt cC H ka ks cr kfp)(tk:Tups H H')(k:∀ b∈kfp,∀ o,H b=some o->H' b=some o)(k2:∀ kvs,H ka=some (.dK kvs)->H' ka=some (.dK kvs)):KnownAt cC H' ka ks cr kfp where
 d:=by
  obtain⟨kvs,e,q⟩:=A.d
  exact⟨kvs,k2 _ e,q.mono λm v ⟨p,f,e1,e2,e3⟩=>⟨p,f,e1,e2.frame tk λb hb o ho=>k b (e3 b hb) o ho,e3⟩⟩
 rt:=A.rt
 has:=λb hb=>by obtain⟨o,e⟩:=A.has b hb;exact⟨o,k b hb o e⟩
theorem KnownAt.upd{b:Addr}{u:HO}(A:KnownAt cC H ka ks cr kfp)(hb:b∉kfp)(h:H b=some u)(n1:∀ xs,u≠.tup xs)(n2:∀ kvs,u≠.dK kvs):KnownAt cC (L2.upd H b o) ka ks cr kfp:=
 A.frame (zgt λxs z=>n1 xs (by rw[h] at z;exact Option.some.inj z)) (λc hc o' ho=>by rw[zai (λz=>hb (by rw[<-z];exact hc))];exact ho) λkvs z=>by rw[zai (zpd z h (λw=>n2 kvs w.symm))];exact z
end
abbrev Fa:=Addr × Addr × Addr
def zed (cF:Addr)(H:Hp):List Fm->List Fa->Prop
 | [],[]=>True
 | f::st,(p,ha,aa)::r=>(∃ dx,H p=some (.ins cF dx (ffl f.n f.p ha aa)))/\H ha=some (.lst (f.hands.map V.int))/\H aa=some (.lst (f.asked.map V.int))/\zed cF H st r
 | _,_=>False
def fasL (fas:List Fa):List Addr:=fas.flatMap λt=>[t.1,t.2.1,t.2.2]
theorem za6 (t:Fa)(fas:List Fa):fasL (t::fas)=t.1::t.2.1::t.2.2::fasL fas:=by unfold fasL;simp
variable {cF:Addr}
theorem zed.frame: ∀ {st:List Fm}{fas:List Fa},(∀ b∈fasL fas,∀ o,H b=some o->H' b=some o)->zed cF H st fas->zed cF H' st fas
 | [],[],_,_=>trivial
 | f::st,(p,ha,aa)::r,k,h=>by
  obtain⟨⟨dx,h1⟩,h2,h3,h4⟩:=h
  rw[za6] at k
  exact⟨⟨dx,k _ (by simp) _ h1⟩,k _ (by simp) _ h2,k _ (by simp) _ h3,zed.frame (λb hb=>k b (by simp[hb])) h4⟩
 | [],_::_,_,h=>h.elim
 | _::_,[],_,h=>h.elim
theorem zed.len: ∀ {st:List Fm}{fas:List Fa},zed cF H st fas->st.length=fas.length
 | [],[],_=>rfl
 | f::st,t::r,h=>by rw[List.length_cons,List.length_cons,zed.len h.2.2.2]
 | [],_::_,h=>h.elim
 | _::_,[],h=>h.elim
theorem zed.has: ∀ {st:List Fm}{fas:List Fa},zed cF H st fas->∀ b∈fasL fas,∃ o,H b=some o/\(∀ xs,o≠.tup xs)/\∀ kvs,o≠.dK kvs
 | [],[],_,b,hb=>by simp[fasL] at hb
 | f::st,(p,ha,aa)::r,h,b,hb=>by
  obtain⟨⟨dx,h1⟩,h2,h3,h4⟩:=h
  rw[za6] at hb
  simp only[List.mem_cons] at hb
  rcases hb with rfl | rfl | rfl | hb
  ·exact⟨_,h1,λ_ z=>(by cases z),λ_ z=>(by cases z)⟩
  ·exact⟨_,h2,λ_ z=>(by cases z),λ_ z=>(by cases z)⟩
  ·exact⟨_,h3,λ_ z=>(by cases z),λ_ z=>(by cases z)⟩
  ·exact zed.has h4 b hb
 | [],_::_,h,_,_=>h.elim
 | _::_,[],h,_,_=>h.elim
def zas (r ia sa:Addr)(fas:List Fa):List Addr:=r::ia::sa::fasL fas
structure RunX (cR cF cC:Addr)(H:Hp)(r ka ia sa:Addr)(ks:List Int)(cr:Int->Cr)(fas:List Fa)(s:Rs)(kfp:List Addr):Prop where
 ins:∃ dx ev,H r=some (.ins cR dx (rfls ka ia sa s.k ev))/\zkv H s.en ev
 kn:KnownAt cC H ka ks cr kfp
 inp:H ia=some (.lst (s.ins.map V.int))
 sta:H sa=some (.lst (fas.reverse.map λt=>V.ref t.1))
 fr:zed cF H s.st fas
 nd:(zas r ia sa fas).Nodup
 off:∀ b∈zas r ia sa fas,b∉kfp
variable {fas:List Fa}
section
variable {cR cF cC:Addr}{H H':Hp}{r ka ia sa:Addr}{ks:List Int}{cr:Int->Cr}{fas:List Fa}{s:Rs}{kfp:List Addr}
theorem RunX.has (A:RunX cR cF cC H r ka ia sa ks cr fas s kfp):∀ b∈zas r ia sa fas,∃ o,H b=some o/\(∀ xs,o≠.tup xs)/\∀ kvs,o≠.dK kvs:=λb hb=>by
 unfold zas at hb
 simp only[List.mem_cons] at hb
 rcases hb with rfl | rfl | rfl | hb
 ·obtain⟨dx,ev,e,_⟩:=A.ins;exact⟨_,e,λ_ z=>(by cases z),λ_ z=>(by cases z)⟩
 ·exact⟨_,A.inp,λ_ z=>(by cases z),λ_ z=>(by cases z)⟩
 ·exact⟨_,A.sta,λ_ z=>(by cases z),λ_ z=>(by cases z)⟩
 ·exact A.fr.has b hb
theorem RunX.frame (A:RunX cR cF cC H r ka ia sa ks cr fas s kfp)(tk:Tups H H')(k:∀ b,b∈zas r ia sa fas\/b∈kfp->∀ o,H b=some o->H' b=some o)(k2:∀ kvs,H ka=some (.dK kvs)->H' ka=some (.dK kvs)):RunX cR cF cC H' r ka ia sa ks cr fas s kfp where
 ins:=by obtain⟨dx,ev,e,z⟩:=A.ins;exact⟨dx,ev,k _ (.inl (by simp[zas])) _ e,z.tups tk⟩
 kn:=A.kn.frame tk (λb hb=>k b (.inr hb)) k2
 inp:=k _ (.inl (by simp[zas])) _ A.inp
 sta:=k _ (.inl (by simp[zas])) _ A.sta
 fr:=A.fr.frame λb hb=>k b (.inl (by simp[zas,hb]))
 nd:=A.nd
 off:=A.off
theorem RunX.same (A:RunX cR cF cC H r ka ia sa ks cr fas s kfp)(e:Same H H'):RunX cR cF cC H' r ka ia sa ks cr fas s kfp:=A.frame e.tups (λb _ o ho=>e b o ho) λkvs z=>e _ _ z
theorem RunX.ndr (A:RunX cR cF cC H r ka ia sa ks cr fas s kfp):r≠ia/\r≠sa/\r∉fasL fas/\ia≠sa/\ia∉fasL fas/\sa∉fasL fas/\(fasL fas).Nodup:=by
 have h:=A.nd
 unfold zas at h
 simp only[List.nodup_cons,List.mem_cons,not_or] at h
 obtain⟨⟨a1,a2,a3⟩,⟨b1,b2⟩,c1,d1⟩:=h
 exact⟨a1,a2,a3,b1,b2,c1,d1⟩
theorem RunX.setR{k':Int}{ev ew:V}{en':End}(A:RunX cR cF cC H r ka ia sa ks cr fas s kfp)(h:H r=some (.ins cR dx (rfls ka ia sa s.k ev)))(he:zkv H en' ew):RunX cR cF cC (upd H r (.ins cR dx (rfls ka ia sa k' ew))) r ka ia sa ks cr fas {s with k:=k',en:=en'} kfp where
 ins:=⟨dx,ew,zaa,he.tups (zgt λxs z=>by rw[h] at z;cases z)⟩
 kn:=A.kn.upd (A.off r (by simp[zas])) h (λ_ z=>by cases z) (λ_ z=>by cases z)
 inp:=by rw[zai A.ndr.1.symm];exact A.inp
 sta:=by rw[zai A.ndr.2.1.symm];exact A.sta
 fr:=A.fr.frame λb hb o ho=>by rw[zai (λz=>A.ndr.2.2.1 (by rw[<-z];exact hb))];exact ho
 nd:=A.nd
 off:=A.off
variable {xs:List Int}
theorem RunX.setIn(A:RunX cR cF cC H r ka ia sa ks cr fas s kfp):RunX cR cF cC (upd H ia (.lst (xs.map V.int))) r ka ia sa ks cr fas {s with ins:=xs} kfp where
 ins:=by obtain⟨dx,ev,e,z⟩:=A.ins;exact⟨dx,ev,by rw[zai A.ndr.1];exact e,z.tups (zdp A.inp)⟩
 kn:=A.kn.upd (A.off ia (by simp[zas])) A.inp (λ_ z=>by cases z) (λ_ z=>by cases z)
 inp:=zaa
 sta:=by rw[zai A.ndr.2.2.2.1.symm];exact A.sta
 fr:=A.fr.frame λb hb o ho=>by rw[zai (λz=>A.ndr.2.2.2.2.1 (by rw[<-z];exact hb))];exact ho
 nd:=A.nd
 off:=A.off
variable {p ha aa:Addr}{f:Fm}{st:List Fm}
theorem zo9{t:Fa}(h:(fasL (t::fas)).Nodup):t.1≠t.2.1/\t.1≠t.2.2/\t.1∉fasL fas/\t.2.1≠t.2.2/\t.2.1∉fasL fas/\t.2.2∉fasL fas:=by
 rw[za6] at h
 simp only[List.nodup_cons,List.mem_cons,not_or] at h
 obtain⟨⟨a1,a2,a3⟩,⟨b1,b2⟩,c1,d1⟩:=h
 exact⟨a1,a2,a3,b1,b2,c1⟩
theorem RunX.setP(A:RunX cR cF cC H r ka ia sa ks cr ((p,ha,aa)::fas) s kfp)(hs:s.st=f::st)(h:H p=some (.ins cF dx (ffl f.n f.p ha aa))):RunX cR cF cC (upd H p (.ins cF dx (ffl f.n q ha aa))) r ka ia sa ks cr ((p,ha,aa)::fas) {s with st:={f with p:=q}::st} kfp:=by
 obtain⟨r1,r2,r3,i1,i2,s1,fn⟩:=A.ndr
 obtain⟨n1,n2,n3,n4,n5,n6⟩:=zo9 fn
 rw[za6] at r3 i2 s1
 simp only[List.mem_cons,not_or] at r3 i2 s1
 have fr:=A.fr
 rw[hs] at fr
 obtain⟨⟨dx',f1⟩,f2,f3,f4⟩:=fr
 have nt:Tups H (upd H p (.ins cF dx (ffl f.n q ha aa))):=zgt λxs z=>by rw[h] at z;cases z
 refine⟨?_,A.kn.upd (A.off p (by simp[zas,za6])) h (λ_ z=>by cases z) (λ_ z=>by cases z),?_,?_,⟨⟨dx,zaa⟩,?_,?_,f4.frame λb hb o ho=>?_⟩,A.nd,A.off⟩
 ·obtain⟨dx',ev,e,z⟩:=A.ins;exact⟨dx',ev,by rw[zai r3.1];exact e,z.tups nt⟩
 ·rw[zai i2.1];exact A.inp
 ·rw[zai s1.1];exact A.sta
 ·rw[zai (Ne.symm n1)];exact f2
 ·rw[zai (Ne.symm n2)];exact f3
 ·rw[zai (λz=>n3 (by rw[<-z];exact hb))];exact ho
theorem RunX.setH(A:RunX cR cF cC H r ka ia sa ks cr ((p,ha,aa)::fas) s kfp)(hs:s.st=f::st):RunX cR cF cC (upd H ha (.lst (xs.map V.int))) r ka ia sa ks cr ((p,ha,aa)::fas) {s with st:={f with hands:=xs}::st} kfp:=by
 obtain⟨r1,r2,r3,i1,i2,s1,fn⟩:=A.ndr
 obtain⟨n1,n2,n3,n4,n5,n6⟩:=zo9 fn
 rw[za6] at r3 i2 s1
 simp only[List.mem_cons,not_or] at r3 i2 s1
 have fr:=A.fr
 rw[hs] at fr
 obtain⟨⟨dx',f1⟩,f2,f3,f4⟩:=fr
 have nt:Tups H (upd H ha (.lst (xs.map V.int))):=zdp f2
 refine⟨?_,A.kn.upd (A.off ha (by simp[zas,za6])) f2 (λ_ z=>by cases z) (λ_ z=>by cases z),?_,?_,⟨⟨dx',?_⟩,zaa,?_,f4.frame λb hb o ho=>?_⟩,A.nd,A.off⟩
 ·obtain⟨dx',ev,e,z⟩:=A.ins;exact⟨dx',ev,by rw[zai r3.2.1];exact e,z.tups nt⟩
 ·rw[zai i2.2.1];exact A.inp
 ·rw[zai s1.2.1];exact A.sta
 ·rw[zai n1];exact f1
 ·rw[zai (Ne.symm n4)];exact f3
 ·rw[zai (λz=>n5 (by rw[<-z];exact hb))];exact ho
theorem RunX.pop {t:Fa}(A:RunX cR cF cC H r ka ia sa ks cr (t::fas) s kfp)(hs:s.st=f::st):RunX cR cF cC (upd H sa (.lst (fas.reverse.map λt=>V.ref t.1))) r ka ia sa ks cr fas {s with st:=st} kfp:=by
 obtain⟨r1,r2,r3,i1,i2,s1,fn⟩:=A.ndr
 have fr:=A.fr
 rw[hs] at fr
 obtain⟨p,ha,aa⟩:=t
 obtain⟨⟨dx',f1⟩,f2,f3,f4⟩:=fr
 rw[za6] at r3 i2 s1 fn
 simp only[List.mem_cons,not_or] at r3 i2 s1
 refine⟨?_,A.kn.upd (A.off sa (by simp[zas])) A.sta (λ_ z=>by cases z) (λ_ z=>by cases z),?_,zaa,f4.frame λb hb o ho=>?_,?_,λb hb=>A.off b ?_⟩
 ·obtain⟨dx',ev,e,z⟩:=A.ins;exact⟨dx',ev,by rw[zai r2];exact e,z.tups (zdp A.sta)⟩
 ·rw[zai i1];exact A.inp
 ·rw[zai (λz=>s1.2.2.2 (by rw[<-z];exact hb))];exact ho
 ·have:=A.nd
  unfold zas at this ⊢
  rw[za6] at this
  simp only[List.nodup_cons,List.mem_cons,not_or] at this ⊢
  exact⟨⟨this.1.1,this.1.2.1,this.1.2.2.2.2.2⟩,⟨this.2.1.1,this.2.1.2.2.2.2⟩,this.2.2.1.2.2.2,this.2.2.2.2.2.2⟩
 ·unfold zas at hb ⊢
  rw[za6]
  simp only[List.mem_cons] at hb ⊢
  rcases hb with z | z | z | z
  ·exact .inl z
  ·exact .inr (.inl z)
  ·exact .inr (.inr (.inl z))
  ·exact .inr (.inr (.inr (.inr (.inr (.inr z)))))
theorem RunX.push(A:RunX cR cF cC H r ka ia sa ks cr fas s kfp)(e:Same H H')(p0:H p=none)(h0:H ha=none)(a0:H aa=none)(n1:p≠ha)(n2:p≠aa)(n3:ha≠aa)(hk:∀ b∈kfp,∃ o,H b=some o)(h1:H' p=some (.ins cF dx (ffl f.n f.p ha aa)))(h2:H' ha=some (.lst (f.hands.map V.int)))(h3:H' aa=some (.lst (f.asked.map V.int))):
  RunX cR cF cC (upd H' sa (.lst ((fas.reverse.map λt=>V.ref t.1)++[.ref p]))) r ka ia sa ks cr ((p,ha,aa)::fas) {s with st:=f::s.st} kfp:=by
 have A':=A.same e
 obtain⟨r1,r2,r3,i1,i2,s1,fn⟩:=A.ndr
 have ow:∀ b∈zas r ia sa fas,b≠p/\b≠ha/\b≠aa:=λb hb=>by
  obtain⟨o,ho,_⟩:=A.has b hb
  exact⟨zan ho p0,zan ho h0,zan ho a0⟩
 have os:=ow sa (by simp[zas])
 refine⟨?_,A'.kn.upd (A.off sa (by simp[zas])) A'.sta (λ_ z=>by cases z) (λ_ z=>by cases z),?_,by rw[zaa];simp,⟨⟨dx,?_⟩,?_,?_,A'.fr.frame λb hb o ho=>?_⟩,?_,λb hb=>?_⟩
 ·obtain⟨dx',ev,e,z⟩:=A'.ins;exact⟨dx',ev,by rw[zai r2];exact e,z.tups (zdp A'.sta)⟩
 ·rw[zai i1];exact A'.inp
 ·rw[zai os.1.symm];exact h1
 ·rw[zai os.2.1.symm];exact h2
 ·rw[zai os.2.2.symm];exact h3
 ·rw[zai (λz=>s1 (by rw[<-z];exact hb))];exact ho
 ·have nd:=A.nd
  have o1:=ow r (by simp[zas])
  have o2:=ow ia (by simp[zas])
  have of':∀ b∈fasL fas,b≠p/\b≠ha/\b≠aa:=λb hb=>ow b (by simp[zas,hb])
  unfold zas at nd ⊢
  rw[za6]
  simp only[List.nodup_cons,List.mem_cons,not_or] at nd ⊢
  exact⟨⟨nd.1.1,nd.1.2.1,o1.1,o1.2.1,o1.2.2,nd.1.2.2⟩,⟨nd.2.1.1,o2.1,o2.2.1,o2.2.2,nd.2.1.2⟩,⟨os.1,os.2.1,os.2.2,nd.2.2.1⟩,⟨n1,n2,λz=>(of' p z).1 rfl⟩,⟨n3,λz=>(of' ha z).2.1 rfl⟩,λz=>(of' aa z).2.2 rfl,nd.2.2.2⟩
 ·have kn:∀ b∈kfp,b≠p/\b≠ha/\b≠aa:=λb hb=>by
   obtain⟨o,ho⟩:=hk b hb
   exact⟨zan ho p0,zan ho h0,zan ho a0⟩
  unfold zas at hb
  rw[za6] at hb
  simp only[List.mem_cons] at hb
  rcases hb with rfl | rfl | rfl | rfl | rfl | rfl | hb
  ·exact A.off b (by simp[zas])
  ·exact A.off b (by simp[zas])
  ·exact A.off b (by simp[zas])
  ·exact λz=>(kn _ z).1 rfl
  ·exact λz=>(kn _ z).2.1 rfl
  ·exact λz=>(kn _ z).2.2 rfl
  ·exact A.off b (by simp[zas,hb])
end
theorem zp8{xs:List α}{v:α}: atI (xs++[v]) (-1)=some v:=by
 unfold atI ixN
 rw[if_neg (by omega),if_pos (by simp;omega),show ((-1:Int)+((xs++[v]).length:Nat)).toNat=xs.length by simp;omega]
 simp
theorem zft{t:Fa}: atI ((t::fas).reverse.map λt=>V.ref t.1) (-1)=some (.ref t.1):=by
 rw[List.reverse_cons,List.map_append]
 exact zp8
theorem zno {c:Int}{fs ns:List Int}(h:Sm (c::fs)):∀ (i:Nat) (f n:Int),fs[i]?=some f->ns[i]?=some n->CMul f n:=λi f n e _=>.inl (h f (List.mem_cons_of_mem _ (zmg e)))
theorem zdP(h:WfF ks cr f):(zcW f).length=8:=by
 unfold zcW
 simp[h.h4,h.a2]
variable {ka:Addr}{kfp:List Addr}
theorem KnownAt.craft(A:KnownAt cC H ka ks cr kfp){m:Int}(hm:m∈ks):∃ kvs p f,H ka=some (.dK kvs)/\valV kvs (.inl m)=some (.ref p)/\zbw cC H p (cr m) f:=by
 obtain⟨kvs,e,q⟩:=A.d
 obtain⟨v,e1,p,f,rfl,e3,_⟩:=q.2.2 m hm
 exact⟨kvs,p,f,e,e1,e3⟩
theorem KnownAt.no(A:KnownAt cC H ka ks cr kfp){m:Int}(hm:m∉ks):∃ kvs,H ka=some (.dK kvs)/\valV kvs (.inl m)=none:=by
 obtain⟨kvs,e,q⟩:=A.d
 exact⟨kvs,e,q.no hm⟩
def zdC (K:Fg)(H:Hp)(a:Addr)(ls:List (List Int)):Prop:=∃ xs,H a=some (.lst xs)/\Reps K H (ls.map nums) xs
theorem zdC.same{ls:List (List Int)}(e:Same H H')(h:zdC K H a ls):zdC K H' a ls:=by
 obtain⟨xs,h1,h2⟩:=h
 exact⟨xs,e _ _ h1,Reps.same e _ h2⟩
theorem ziB{ls:List (List Int)}{f:List Addr}(h:RepF H (zaz ls) v f):∃ a,v=.ref a/\zdC K H a ls:=by
 unfold zaz RepF at h
 obtain⟨a,xs,r,rfl,rfl,h1,h2⟩:=h
 exact⟨a,rfl,xs,h1,zaj.reps (K:=K) _ h2⟩
theorem zbw.out(h9:∀ d∈c.deeds,zg0 d)(h:zbw cC H p c fp):∃ dx y1 y2 b3 b4 dvs nvs,H p=some (.ins cC dx (flds (.ref y1) (.ref y2) (.ref b3) (.ref b4)))/\zdC K H y1 c.needs/\zdC K H y2 c.leaves/\H b3=some (.lst dvs)/\ze6 H c.deeds dvs/\H b4=some (.lst nvs)/\R2 (λls x=>∃ a,x=.ref a/\zdC K H a ls) c.notes nvs:=by
 obtain⟨dx,w1,w2,w3,w4,f,rfl,hp,r⟩:=h
 obtain⟨x1,x2,x3,x4,f1,f2,f3,f4,e,g1,g2,g3,g4⟩:=zoZ r
 cases e
 obtain⟨y1,rfl,hy1⟩:=ziB (K:=K) g1
 obtain⟨y2,rfl,hy2⟩:=ziB (K:=K) g2
 obtain⟨b3,dvs,r3,rfl,h3,z3⟩:=RepF.lso g3
 obtain⟨b4,nvs,r4,rfl,h4,z4⟩:=RepF.lso g4
 refine⟨dx,y1,y2,b3,b4,dvs,nvs,hp,hy1,hy2,h3,⟨by simpa using z3.length,λi d x e1 e2=>?_⟩,h4,⟨by simpa using z4.length,λi ls x e1 e2=>?_⟩⟩
 ·obtain⟨f,hf⟩:=zaj.item z3 i (toD d) x (by rw[zgm,e1];rfl) e2
  exact zmY (zlj (h9 d (zmg e1))) hf
 ·obtain⟨f,hf⟩:=zaj.item z4 i (zaz ls) x (by rw[zgm,e1];rfl) e2
  exact ziB hf
theorem Cr.Rt.sm(h:c.Rt):(∀ l∈c.needs,l.length=9/\Sm l)/\(∀ l∈c.leaves,l.length=9/\Sm l)/\(∀ ls∈c.notes,∀ l∈ls,l.length=9/\Sm l):=by
 have r:zeb c.needs c.leaves c.deeds c.notes=true:=h.r
 simp only[zeb,zg1,ze3,ze4,zdz,Bool.and_eq_true,decide_eq_true_eq,List.all_map,List.all_eq_true,Function.comp_apply,id_eq] at r
 obtain⟨⟨⟨_,a1⟩,_,a2⟩,_,_,c2⟩:=r
 exact⟨λl hl=>⟨h.nine.n9 l hl,zjz (a1 l hl)⟩,λl hl=>⟨h.nine.l9 l hl,zjz (a2 l hl)⟩,λls hls l hl=>⟨(h.nine.o9 ls hls).2 l hl,zjz ((c2 ls hls).2 l hl)⟩⟩
def badV:Option Nat->V
 | some i=>.int (i:Int)
 | none=>.non
theorem znp{ls:List (List Int)}{P:List Int->Bool}(h:(ls.take i).findIdx? P=none)(e:ls[i]?=some l):ls.findIdx? P=if P l=true then some i else (ls.drop (i+1)).findIdx? P |>.map (· + (i+1)):=by
 obtain⟨hi,rfl⟩:=zge.mp e
 have s:ls=ls.take i++ls[i]::ls.drop (i+1):=by rw[List.getElem_cons_drop,List.take_append_drop]
 have l':(ls.take i).length=i:=by rw[List.length_take];omega
 conv=>lhs;rw[s]
 rw[List.findIdx?_append,h,List.findIdx?_cons]
 simp only[Option.none_or,l']
 split
 ·simp
 ·simp only[Option.map_map]
  congr 1
  funext x
  simp;omega
variable {y:V}
theorem zkw{g:Addr}(h:SqL K H g [x,y]\/SqT K H g [x,y])(q:Q x H):rIx K (.ref g) (.int 0) H Q:=by
 rcases h with h | h
 ·exact zcf h zbu q
 ·exact zaJ h zbu q
theorem zkx{g:Addr}(h:SqL K H g [x,y]\/SqT K H g [x,y])(q:Q y H):rIx K (.ref g) (.int 1) H Q:=by
 rcases h with h | h
 ·exact zcf h (zaB (j:=1) rfl) q
 ·exact zaJ h (zaB (j:=1) rfl) q
end My

namespace L2
open PySem PySem.Spec PySem.Calls PyProof.Rows PySem.W
theorem i_bm0 {K:Fg}{σ:St}{H:Hp}{Q:VK}{T:String}{r:V->List V->Hp->VK->Prop}{to:TE}(h:to σ H λx H1=>tyV K T x H1/\r x [] H1 Q):tBM0 K T r to σ H Q:=h
section
variable {X:Cx}{CX:CXT}{C:Addr}{ps:List Str}{j k:Nat}{sp:Sp}{E:XK}{x m:Str}{o e:Expr}{es:List Expr}{ta te:TE}{t:TA}{p pos apos:Pos}
theorem q_mk (G:Mkr X.prog X.w X.K X.mg X.base x C ps j sp)(hr:Room k X.A)(hg:Gl X x)(ha:QA X (e::es) t)(hj:j+1<=k:=by decide)(hdb:(x == ("__debug__" : Str))=false:=by decide)
  (he:starEach (e::es) X.env=(false,eval e X.env)::starEach es X.env:=by rfl) (hpl:(backTo pos (starEach es X.env)).any (·.1)=false:=by rfl):QE X (.Call (.Name x p) (e::es) [] pos) (zhs C sp [] E0 t):=⟨zpM G hr hg ha.run hj hdb he hpl⟩
theorem zrU {pl:Sem Bool}(G:Mth CX X.prog X.w X.K X.mg X.base C m ps j sp)(c:Cls X.K C)(hr:Room k X.A)(hx:zcK CX X E)(he:QE X o ta)(ha:QA X (e::es) t)(hj:j<=k:=by decide)
  (hst:starEach (e::es) X.env=(false,eval e X.env)::starEach es X.env:=by rfl) (hpl:(backTo pos (starEach es X.env)).any (·.1)=false:=by rfl)
  (ht:eval (.Call (.Attribute o m apos) (e::es) [] pos) X.env=(do
   let ov <-eval o X.env
   standAt apos.atName
   let (f,first) <-holding [ov] (getMethod ov m pl)
   callWith pos f first (backTo pos (starEach (e::es) X.env)) (backToKw pos (keywordEach [] X.env))):=by rfl) :
  QE X (.Call (.Attribute o m apos) (e::es) [] pos) (ziZ C m sp [] E ta t):=⟨zbc G c hr hx he.run ha.run hj hst hpl ht⟩
theorem znq (h:QE X e te)(hs:swapsWith e none pos.line X.env=pure false:=by rfl):QS X (.Expr e pos) (zl6 te):=⟨za3 h.run hs⟩
end
variable {pos:Pos}{X:Cx}
theorem zky{es:List Expr}{te:TE}{t:TA}{f:Expr}{a:List Expr}{k:List Keyword}(h:QE X (.Call f a k pos) te)(r:QA X es t):QA X (.Call f a k pos::es) (zc2 te t):=⟨zaQ h.run r.run rfl⟩
theorem zrV{tg iter:Expr}{body:List Stmt}{wi:TI}{g:TG}{tb:TS}(hp:PassesOwn (model X.prog X.w) X.A X.env X.xe)(hc:X.calm=true)(hi:PI X tg iter wi)(hg:PG X tg g)(hb:QSs X body tb)(hs:∀ x,foldedSetIterable iter X.env x=pure x:=by intro _;rfl):QS X (.For tg iter body [] pos) (tFor wi g tb):=⟨zek hp hc hi hg hb.run hs⟩
end L2
namespace My
open PySem L2 PyProof.Rows
def zaG (S:List Addr)(H:Hp)(T:List Addr)(H':Hp):Prop:=OffA S H H'/\(∀ b∈T,b∈S\/H b=none)/\Free H H'
variable {S:List Addr}{H:Hp}
theorem zaG.refl: zaG S H S H:=⟨λ_ _ _ h=>h,λ_ h=>.inl h,λ_ h=>h⟩
variable {T:List Addr}{H1:Hp}
theorem zaG.trans{U:List Addr}{H2:Hp}(a:zaG S H T H1)(b:zaG T H1 U H2):zaG S H U H2:=by
 have k:∀ c∈T,c∈S\/H c=none:=a.2.1
 refine⟨λc o n e=>b.1 c o (λz=>?_) (a.1 c o n e),λc hc=>?_,λc hc=>a.2.2 c (b.2.2 c hc)⟩
 ·rcases k c z with w | w
  ·exact n w
  ·rw[w] at e;cases e
 ·rcases b.2.1 c hc with z | z
  ·exact k c z
  ·exact .inr (a.2.2 c z)
variable {H':Hp}
theorem zaG.same(e:Same H H'):zaG S H S H':=⟨e.offA,λ_ h=>.inl h,e.fr⟩
theorem zln(e:OffA S H H')(h:∀ b∈S,∃ o,H' b=some o):Free H H':=λb hb=>by
 cases eb:H b with
 | none=>rfl
 | some o=>
  by_cases w:b∈S
  ·obtain⟨u,hu⟩:=h b w
   rw[hu] at hb;cases hb
  ·rw[e b o w eb] at hb;cases hb
variable {p:Addr}{o:HO}
theorem zaG.upd(h:p∈S):zaG S H S (upd H p o):=⟨zbE h,λ_ h=>.inl h,zds⟩
theorem zaG.less(h:∀ b∈T,b∈S):zaG S H T H:=⟨λ_ _ _ h=>h,λb z=>.inl (h b z),λ_ h=>h⟩
variable {r ia sa:Addr}{ks:List Int}{cr:Int->Cr}{fas:List Fa}{s:Rs}
theorem zaG.offR{cR cF cC:Addr}{ka:Addr}{kfp:List Addr}(e:OffA [r] H H')(A:RunX cR cF cC H' r ka ia sa ks cr fas s kfp):zaG (zas r ia sa fas) H (zas r ia sa fas) H':=
 ⟨λb o n=>e b o λz=>n (by rw[zms.mp z];simp[zas]),λ_ h=>.inl h,zln e λb hb=>by
  rw[zms.mp hb]
  obtain⟨dx,ev,z,_⟩:=A.ins
  exact⟨_,z⟩⟩
def zjD (cr:Int->Cr)(s:Rs)(f:Fm)(st:List Fm):Rs:=match zaI (cr f.n).leaves (zcW f) with
 | some i=>{s with en:=some (brk "leaves" f i)}
 | none=>match st with
  | []=>{s with st:=[],en:=some (zlS f)}
  | g::r=>{s with st:=zjA cr g (f.hands.getD 0 0) (f.hands.getD 1 0)::r}
variable {f:Fm}{st:List Fm}
theorem zot(h:¬ f.p=((cr f.n).deeds.length:Int)):come cr f st=(f::st,zd4 cr f):=by
 cases st <;> (unfold come;rw[if_neg h])
theorem zp9(h:f.p=((cr f.n).deeds.length:Int)):come cr f st=match zaI (cr f.n).leaves (zcW f) with
  | some i=>(f::st,some (brk "leaves" f i))
  | none=>match st with
   | []=>([],some (zlS f))
   | g::r=>come cr (zjA cr g (f.hands.getD 0 0) (f.hands.getD 1 0)) r:=by
 cases st with
 | nil=>
  unfold come
  rw[if_pos h]
  all_goals (cases zaI (cr f.n).leaves (zcW f) <;> rfl)
 | cons g r=>
  conv=>lhs;unfold come
  rw[if_pos h]
  all_goals (cases zaI (cr f.n).leaves (zcW f) <;> rfl)
theorem Wf.take{g:Fm}{r:List Fm}{l0 l1:Int}(h:Wf ks cr (f::g::r)):Wf ks cr (zjA cr g l0 l1::r):=⟨λk hk=>by
 rcases List.mem_cons.mp hk with rfl | hk
 ·exact zll (h.tail.1 g List.mem_cons_self) (h.2 g List.mem_cons_self)
 ·exact h.tail.1 k (List.mem_cons_of_mem _ hk),λk hk=>h.tail.2 k hk⟩
def zee (ks:List Int)(cr:Int->Cr)(s0:Rs)(f0:Fm)(st0:List Fm)(s:Rs):Prop:=s.k=s0.k/\s.ins=s0.ins/\((s.en=none/\∃ f st,s.st=f::st/\Wf ks cr (f::st)/\come cr f st=come cr f0 st0)\/∃ e,s.en=some e/\(s.st,some e)=come cr f0 st0)
def meaR (s:Rs):Nat:=2 * s.st.length+if s.en.isNone=true then 1 else 0
variable {s0:Rs}{f0:Fm}{st0:List Fm}
theorem zee.leave(h:zee ks cr s0 f0 st0 s)(he:s.en=none)(hs:s.st=f::st)(hp:f.p=((cr f.n).deeds.length:Int)):zee ks cr s0 f0 st0 (zjD cr s f st)/\meaR (zjD cr s f st)<meaR s:=by
 obtain⟨k1,k2,h | ⟨e,he',_⟩⟩:=h
 ·obtain⟨_,f',st',e1,w,ec⟩:=h
  rw[hs] at e1
  injection e1 with e1 e2
  subst e1;subst e2
  rw[zp9 hp] at ec
  obtain⟨sst,sins,sk,sen⟩:=s
  dsimp only at hs he k1 k2
  subst hs;subst he
  unfold zjD meaR
  cases hb:zaI (cr f.n).leaves (zcW f) with
  | some i=>
   rw[hb] at ec
   exact⟨⟨k1,k2,.inr ⟨_,rfl,ec⟩⟩,by simp⟩
  | none=>
   rw[hb] at ec
   cases st with
   | nil=>exact⟨⟨k1,k2,.inr ⟨_,rfl,ec⟩⟩,by simp⟩
   | cons g r=>exact⟨⟨k1,k2,.inl ⟨rfl,_,r,rfl,w.take,ec⟩⟩,by simp⟩
 ·rw[he] at he';cases he'
theorem zee.stay(h:zee ks cr s0 f0 st0 s)(he:s.en=none)(hs:s.st=f::st)(hp:¬ f.p=((cr f.n).deeds.length:Int)):({s with en:=zd4 cr f} : Rs)=zd5 cr s0 f0 st0:=by
 obtain⟨k1,k2,h | ⟨e,he',_⟩⟩:=h
 ·obtain⟨_,f',st',e1,w,ec⟩:=h
  rw[hs] at e1
  injection e1 with e1 e2
  subst e1;subst e2
  rw[zot hp] at ec
  unfold zd5
  rw[<-ec,<-k1,<-k2,<-hs]
 ·rw[he] at he';cases he'
theorem zee.ended(h:zee ks cr s0 f0 st0 s)(he:¬ s.en=none):s=zd5 cr s0 f0 st0:=by
 obtain⟨k1,k2,h | ⟨e,he',ec⟩⟩:=h
 ·exact absurd h.1 he
 ·unfold zd5
  rw[<-ec,<-k1,<-k2,<-he']
theorem zee.top(h:zee ks cr s0 f0 st0 s)(he:s.en=none):∃ f st,s.st=f::st/\Wf ks cr (f::st):=by
 obtain⟨_,_,h | ⟨e,he',_⟩⟩:=h
 ·obtain⟨_,f,st,e1,w,_⟩:=h;exact⟨f,st,e1,w⟩
 ·rw[he] at he';cases he'
variable {xs:List Int}
theorem zfP{k:Int}(h0:0<=k)(h:k<(xs.length:Int)):atI (xs.map V.int) k=some (.int (xs.getD k.toNat 0)):=by
 have hk:k.toNat<xs.length:=by omega
 exact zlc h0 (by rw[zgm,List.getElem?_eq_getElem hk,List.getD_eq_getElem?_getD,List.getElem?_eq_getElem hk];rfl)
theorem ziC{j:Nat}{v:Int}: (xs.map V.int).set j (.int v)=(xs.set j v).map V.int:=by rw[List.map_set]
theorem zqa{t:Fa}: ((t::fas).reverse.map λt=>V.ref t.1).dropLast=fas.reverse.map λt=>V.ref t.1:=by
 rw[List.reverse_cons,List.map_append]
 exact List.dropLast_concat
theorem zqb{t:Fa}: ((t::fas).reverse.map λt=>V.ref t.1)[((t::fas).reverse.map λt=>V.ref t.1).length - 1]?=some (.ref t.1):=by
 rw[List.reverse_cons,List.map_append]
 simp
theorem Rs.quiet(h:s.en=none):({s with en:=none} : Rs)=s:=by cases s;cases h;rfl
theorem zou{t:Fa}: ∀ b∈zas r ia sa fas,b∈zas r ia sa (t::fas):=λb h=>by
 unfold zas at h ⊢
 rw[za6]
 simp only[List.mem_cons] at h ⊢
 rcases h with z | z | z | z
 ·exact .inl z
 ·exact .inr (.inl z)
 ·exact .inr (.inr (.inl z))
 ·exact .inr (.inr (.inr (.inr (.inr (.inr z)))))
variable {ha aa:Addr}
theorem zrW: p∈zas r ia sa ((p,ha,aa)::fas):=by simp[zas,za6]
theorem zqc: ha∈zas r ia sa ((p,ha,aa)::fas):=by simp[zas,za6]
theorem zqd: sa∈zas r ia sa fas:=by simp[zas]
theorem zrX: ia∈zas r ia sa fas:=by simp[zas]
theorem zia: r∈zas r ia sa fas:=by simp[zas]
def zqe (cr:Int->Cr)(ks:List Int)(s:Rs)(f:Fm)(st:List Fm)(m a0 a1:Int):Rs:=if m∉ks then {s with en:=some [.str "lost"]} else if 20<=(f::st).length then {s with en:=some [.str "deep"]} else
   match zaI (cr m).needs (zeu a0 a1) with
   | some i=>{s with en:=some (brk "needs" f i)}
   | none=>zd5 cr s (zec m a0 a1) (f::st)
theorem zlU{m g0 g1 t0 t1:Int}: zfO cr ks s f st (.call m g0 g1 t0 t1)=zqe cr ks s f st m (f.hands.getD g0.toNat 0) (f.hands.getD g1.toNat 0):=rfl
theorem zaG.push{y:Addr}(e:Same H H1)(h1:H y=none)(h2:H ha=none)(h3:H aa=none):zaG (zas r ia sa fas) H (zas r ia sa ((y,ha,aa)::fas)) (L2.upd H1 sa o):=by
 refine⟨e.offA.trans (zbE zqd),λb hb=>?_,λb hb=>e.fr b (zds b hb)⟩
 unfold zas at hb
 rw[za6] at hb
 simp only[List.mem_cons] at hb
 rcases hb with rfl | rfl | rfl | rfl | rfl | rfl | hb
 ·exact .inl zia
 ·exact .inl zrX
 ·exact .inl zqd
 ·exact .inr h1
 ·exact .inr h2
 ·exact .inr h3
 ·exact .inl (by simp[zas,hb])
theorem zgA: ∀ {f:Fm}{st:List Fm},(come cr f st).1.length<=(f::st).length
 | f,[]=>by
  unfold come
  split
  ·split <;> simp
  ·simp
 | f,g::st=>by
  unfold come
  split
  ·split
   ·simp
   ·exact Nat.le_trans zgA (by simp)
  ·simp
theorem znr(h:s.st.length<=20):(zhx cr ks s).st.length<=20:=by
 unfold zhx
 split
 ·exact h
 ·rename_i f st e
  have cl:∀ (t:Rs) (g:Fm),(zd5 cr t g st).st.length<=20:=λt g=>by
   have:=zgA (cr:=cr) (f:=g) (st:=st)
   rw[e,List.length_cons] at h
   rw[List.length_cons] at this
   exact Nat.le_trans this h
  split
  ·exact h
  ·rename_i d _
   cases d with
   | set hd l=>exact cl _ _
   | part hd l b=>exact cl _ _
   | draw hd lo hi=>
    unfold zfO
    dsimp only
    split
    ·exact h
    ·split
     ·exact cl _ _
     ·exact h
   | turn l q=>exact cl _ _
   | hold l=>
    unfold zfO
    dsimp only
    split
    ·exact h
    ·exact cl _ _
   | call m g0 g1 t0 t1=>
    unfold zfO
    dsimp only
    split
    ·exact h
    ·split
     ·exact h
     ·rename_i l20
      split
      ·exact h
      ·refine Nat.le_trans zgA ?_
       simp only[List.length_cons] at l20 ⊢
       omega
theorem zov{d:Dd}(hst:s.st=f::st)(hd:zfr (cr f.n) f.p=some d):zhx cr ks s=zfO cr ks {s with k:=s.k+1,en:=s.en} f st d:=by
 obtain⟨a,b,c,e⟩:=s
 dsimp only at hst
 subst hst
 unfold zhx
 dsimp only
 rw[hd]
theorem zqf:decide (("part" : Str) ="set")=false:=by decide +kernel
theorem zns:decide (("draw" : Str) ="set")=false/\decide (("draw" : Str) ="part")=false:=by decide +kernel
theorem zkz:decide (("turn" : Str) ="set")=false/\decide (("turn" : Str) ="part")=false/\decide (("turn" : Str) ="draw")=false:=by decide +kernel
theorem ziD:decide (("hold" : Str) ="set")=false/\decide (("hold" : Str) ="part")=false/\decide (("hold" : Str) ="draw")=false/\decide (("hold" : Str) ="turn")=false:=by decide +kernel
theorem zhb:decide (("call" : Str) ="set")=false/\decide (("call" : Str) ="part")=false/\decide (("call" : Str) ="draw")=false/\decide (("call" : Str) ="turn")=false/\decide (("call" : Str) ="hold")=false:=by decide +kernel
def zrY (H:Hp)(en:End)(v:V):Prop:=∃ T,v=.ref T/\H T=some (.tup (en.getD [.str "cut"]))
section
variable {H H':Hp}{da ra sk:Addr}{ks:List Int}{cr:Int->Cr}{fas:List Fa}{st:List Fm}{ins:List Int}{lfp:List Addr}{f:Fm}{p ha aa:Addr}
end
section
variable {cR cF cC:Addr}{H H' H0:Hp}{r ka ia sa:Addr}{ks:List Int}{cr:Int->Cr}{fas:List Fa}{s:Rs}{kfp:List Addr}{S:List Addr}
end
def zqg (r:Int × List Int):D:=.tup [.int r.1,nums r.2]
def zkA (gs:List Du)(rs:List (Int × List Int)):Bool:=decide (gs.length=rs.length) && (List.zipWith (λg r=>zg2 g.1 g.2 r.1 r.2) gs rs).all id
end My

set_option compiler.extract_closed false
set_option maxHeartbeats 8000000
open PySem.W (mg_of nsIn findIn mg_none_of isFn keepIn excIn fnOf codeIn kia_one makesIn)
local macro_rules | `(tactic| walk_at "gs1") => `(tactic| first
  | (with_reducible first | refine L2.i_asg ?_ | refine L2.zpH ?_ | refine L2.i_ret ?_ | refine L2.zrg ?_ | refine L2.zrh ?_ | refine L2.i_ifK fun T kT U kU => ?_ | refine L2.i_if ?_ | refine L2.zrd ?_ | refine L2.i_B ?_ | refine L2.i_bl ?_ | refine L2.iteT ?_ | refine L2.iteF ?_ | refine L2.iteNT ?_ | refine L2.iteNF ?_ | refine L2.zn6 ?_ | refine L2.i_bm ?_ | refine L2.i_bm0 ?_ | refine L2.zrq ?_ | refine L2.i_fld ?_ | refine L2.zrr ?_ | refine L2.zpN ?_ | refine L2.zri ?_ | refine L2.i_orV ?_ | refine L2.i_notV ?_ | refine L2.i_and ?_ | refine L2.i_or ?_ | refine L2.i_not ?_ | refine L2.i_for ?_ | refine L2.zrj ?_ | refine L2.zpI ?_ | refine L2.zrk ?_ | refine L2.i_zip ?_ | refine L2.zrl ?_ | refine L2.i_rev ?_ | refine L2.zrm ?_ | refine L2.i_rng2 ?_ | refine L2.i_sl ?_ | refine L2.zn9 ?_ | refine L2.zrn ?_ | refine L2.zpJ ?_ | refine L2.i_par ?_ | refine L2.i_parv ?_ | refine L2.zro ?_ | refine L2.i_c ?_ | refine L2.zpS ?_ | refine L2.zrD ?_ | refine L2.zpT ?_ | refine L2.zoj ?_ | refine L2.i_op ?_ | refine L2.i_un ?_ | refine L2.zre ?_ | refine L2.i_nil ?_ | refine L2.zrf ?_ | refine L2.zpU ?_ | refine L2.i_fs ?_ | refine L2.zpV ?_ | refine L2.i_din ?_ | refine L2.zoi ?_ | refine L2.zrE ?_ | refine L2.i_dpop ?_ | refine L2.zrG ?_ | refine L2.zpY ?_ | refine L2.zrI ?_ | refine L2.i_tru ?_ | refine L2.i_CB ?_ | refine L2.i_lst ?_ | refine L2.i_tup ?_ | refine L2.i_rI0 ?_ | refine L2.i_rU ?_ | refine L2.zpG ?_ | refine L2.zrc ?_ | refine L2.i_neI ?_ | refine L2.i_eqB ?_ | refine L2.i_neB ?_ | refine L2.i_eqS ?_ | refine L2.i_neS ?_)
  | ((with_reducible refine L2.zis ?_ ?_); focus (first | exact Or.inl ⟨by omega, by omega⟩ | exact Or.inr ⟨by omega, by omega⟩))
  | ((with_reducible refine L2.i_mod ?_ ?_); focus omega)
  | ((with_reducible refine L2.zrb ?_ ?_ ?_); (focus omega); (focus omega))
  | ((with_reducible refine L2.i_pow ?_ ?_ ?_ ?_); (focus decide); (focus decide); (focus decide))
  | ((with_reducible refine L2.zra (v := ?_) ?_ ?_); rotate_left; focus rfl)
  | with_reducible refine L2.goOn (by assumption) ?_)
local macro_rules | `(tactic| walk_at "go1") => `(tactic| first | with_reducible refine L2.zo5 fun NX kN => ?_ | walk_at "gs1" | (refine L2.zra (by rfl) ?_))
local macro_rules | `(tactic| walk_at "gs") => `(tactic| repeat (walk_at "gs1"))
local macro_rules | `(tactic| nofun) => `(tactic| walk_at "gs")
local macro_rules | `(tactic| walk_at "go") => `(tactic| repeat (walk_at "go1"))
local macro_rules | `(tactic| ac_rfl) => `(tactic| walk_at "go")
local macro_rules | `(tactic| walk_at "sc") => `(tactic| exact ⟨rfl, rfl, rfl, by decide +kernel, rfl, by decide +kernel, by decide +kernel⟩)
local macro_rules | `(tactic| walk_at "q") => `(tactic| ((try with_reducible refine L2.goOn (by assumption) ?_); with_reducible refine L2.zo5 fun NX kN => ?_))
local macro_rules | `(tactic| walk_at "sm") => `(tactic| first | exact L2.sl rfl | exact L2.zao (by simp))
namespace My
open PySem L2 PyProof.Rows
variable {us:List Value}
theorem len0(h:us.length=0):us=[]:=List.eq_nil_of_length_eq_zero h
theorem lenS{n:Nat}(h:us.length=n+1):∃ a r,us=a::r/\r.length=n:=by
 cases us with
 | nil=>cases h
 | cons a r=>exact⟨a,r,rfl,Nat.succ.inj h⟩
theorem len1(h:us.length=1):∃ a0,us=[a0]:=by
 obtain⟨a,r,rfl,k⟩:=lenS h
 obtain rfl:=len0 k
 exact⟨_,rfl⟩
theorem len2(h:us.length=2):∃ a0 a1,us=[a0,a1]:=by
 obtain⟨a,r,rfl,k⟩:=lenS h
 obtain⟨b0,rfl⟩:=len1 k
 exact⟨_,_,rfl⟩
theorem len3(h:us.length=3):∃ a0 a1 a2,us=[a0,a1,a2]:=by
 obtain⟨a,r,rfl,k⟩:=lenS h
 obtain⟨b0,b1,rfl⟩:=len2 k
 exact⟨_,_,_,rfl⟩
theorem len4(h:us.length=4):∃ a0 a1 a2 a3,us=[a0,a1,a2,a3]:=by
 obtain⟨a,r,rfl,k⟩:=lenS h
 obtain⟨b0,b1,b2,rfl⟩:=len3 k
 exact⟨_,_,_,_,rfl⟩
theorem len5(h:us.length=5):∃ a0 a1 a2 a3 a4,us=[a0,a1,a2,a3,a4]:=by
 obtain⟨a,r,rfl,k⟩:=lenS h
 obtain⟨b0,b1,b2,b3,rfl⟩:=len4 k
 exact⟨_,_,_,_,_,rfl⟩
variable {K:Fg}
section
open PySem PySem.Spec PySem.Calls PyProof.Rows PySem.W L2
theorem bA(hA:((zBoo K).all id,zSee K)=(true,zSig))(j:Nat){b:Bool}(h:(zBoo K)[j]?=some b):b=true:=List.all_eq_true.mp (Prod.mk.inj hA).1 b (zmg h)
theorem eA(hA:((zBoo K).all id,zSee K)=(true,zSig))(j:Nat){α:Type}[BEq α][LawfulBEq α]{x y:α}(h:(zBoo K)[j]?=some (x == y)):x=y:=eq_of_beq (bA hA j h)
def fA {K:Fg}(hA:((zBoo K).all id,zSee K)=(true,zSig))(i j:Nat)(a:Addr)(n q:Str)(d:Stmt)(h1:(zSee K)[i]?=some (L2.zaH K a))(h2:zSig[i]?=some (gS n q d))(h3:(zBoo K)[j]?=some (L2.zal K a q)):=L2.zrL (n:=n) (ps:=zdy d) (b:=zb4 d) (sc:=zaf d) (Option.some.inj (h1.symm.trans ((congrArg (λl:List (Option L2.Sig)=>l[i]?) (Prod.mk.inj hA).2).trans h2))) (bA hA j h3)
end
theorem zfu:FSc ["line","numbers","total","factor","number"] ["line","numbers"] (zaf zie):=by walk_at "sc"
theorem zow:FSc ["line","numbers"] ["line","numbers"] (zaf zif):=by walk_at "sc"
theorem zqh:FSc ["i"] ["i"] (zaf ziT):=by walk_at "sc"
theorem zew:FSc ["lines","weights","total","line","weight"] ["lines","weights"] (zaf zfc):=by walk_at "sc"
theorem zjE:FSc ["line","eight","total"] ["line","eight"] (zaf zgj):=by walk_at "sc"
theorem zfQ:FSc ["self","needs","leaves","deeds","notes"] ["self","needs","leaves","deeds","notes"] (zaf zbo):=by walk_at "sc"
theorem zhc:FSc ["lines"] ["lines"] (zaf zbT):=by walk_at "sc"
theorem zhz:FSc ["deed"] ["deed"] (zaf zb5):=by walk_at "sc"
theorem zhd:FSc ["craft"] ["craft"] (zaf zcw):=by walk_at "sc"
theorem zjF:FSc ["craft"] ["craft"] (zaf zcZ):=by walk_at "sc"
theorem zox:FSc ["craft"] ["craft"] (zaf zig):=by walk_at "sc"
theorem zfv:FSc ["craft","needs_right"] ["craft"] (zaf zdg):=by walk_at "sc"
theorem zeV:FSc ["deeds","count"] ["deeds"] (zaf zb6):=by walk_at "sc"
theorem zeW:FSc ["craft","as_many"] ["craft"] (zaf zb7):=by walk_at "sc"
theorem zhA:FSc ["lines","nought_spots"] ["lines","nought_spots"] (zaf zb8):=by walk_at "sc"
theorem zfw:FSc ["line","nought_spots","small"] ["line","nought_spots"] (zaf zb3):=by walk_at "sc"
theorem zfx:FSc ["deed","last_place","kind"] ["deed","last_place"] (zaf zdh):=by walk_at "sc"
theorem zhB:FSc ["low","high"] ["low","high"] (zaf zcN):=by walk_at "sc"
theorem zfy:FSc ["number","given","taken","hands"] ["number","given","taken"] (zaf zdi):=by walk_at "sc"
theorem zfz:FSc ["hands"] ["hands"] (zaf zbs):=by walk_at "sc"
theorem ziE:FSc ["hand"] ["hand"] (zaf zdj):=by walk_at "sc"
theorem zhe:FSc ["number"] ["number"] (zaf zcx):=by walk_at "sc"
theorem zlV:FSc ["low","number","high"] ["low","number","high"] (zaf zfd):=by walk_at "sc"
theorem zjG:FSc ["craft","place","eight"] ["craft","place"] (zaf zeA):=by walk_at "sc"
theorem zfA:FSc ["craft","crafts","number","told","place"] ["craft","crafts"] (zaf zgk):=by walk_at "sc"
theorem zex:FSc ["craft","begun"] ["craft"] (zaf zcy):=by walk_at "sc"
theorem zbV:FSc ["craft","place","crafts","deed","notes","after","kind"] ["craft","place","crafts"] (zaf zcO):=by walk_at "sc"
theorem zbW:FSc ["deed","notes","after","line","by","not_above","greatest"] ["deed","notes","after"] (zaf zcP):=by walk_at "sc"
theorem zdD:FSc ["deed","notes","after","from_low","to_high"] ["deed","notes","after"] (zaf zcQ):=by walk_at "sc"
theorem zeX:FSc ["line","notes","there","after","below_nought"] ["line","notes","there","after"] (zaf zcR):=by walk_at "sc"
theorem zbA:FSc ["deed","notes","after","other","given","taken","giving","taking","before"] ["deed","notes","after","other"] (zaf zcS):=by walk_at "sc"
theorem zjH:FSc ["goals","hypotheses"] ["goals","hypotheses"] (zaf zc0):=by walk_at "sc"
theorem ziF:FSc ["lines","eight"] ["lines","eight"] (zaf zcD):=by walk_at "sc"
theorem ziG:FSc ["changes"] ["changes"] (zaf zcE):=by walk_at "sc"
theorem zkB:FSc ["number"] ["number"] (zaf zeB):=by walk_at "sc"
theorem zcm:FSc ["duty","row","goal","hypotheses","whole","weights","rest"] ["duty","row"] (zaf zei):=by walk_at "sc"
theorem zfB:FSc ["duty","rows_of_weights","whole","weights"] ["duty"] (zaf zgl):=by walk_at "sc"
theorem zby:FSc ["count","found","bit"] ["count"] (zaf za7):=by walk_at "sc"
theorem zgb:FSc ["self"] ["self"] (zaf zb9):=by walk_at "sc"
theorem zkC:FSc ["self","number","craft"] ["self","number","craft"] (zaf zeC):=by walk_at "sc"
theorem zgc:FSc ["self"] ["self"] (zaf zca):=by walk_at "sc"
theorem zdE:FSc ["self","told","number"] ["self"] (zaf zcT):=by walk_at "sc"
theorem ziH:FSc ["self","number","rows"] ["self","number","rows"] (zaf zdk):=by walk_at "sc"
theorem zf6:FSc ["self","number","rows"] ["self","number"] (zaf zcr):=by walk_at "sc"
theorem zjI:FSc ["self","number"] ["self","number"] (zaf zdS):=by walk_at "sc"
theorem zfC:FSc ["self","number"] ["self","number"] (zaf zbH):=by walk_at "sc"
theorem zfR:FSc ["self","number"] ["self","number"] (zaf zbX):=by walk_at "sc"
theorem zfS:FSc ["self","number"] ["self","number"] (zaf zbY):=by walk_at "sc"
theorem zhf:FSc ["self","number"] ["self","number"] (zaf zcz):=by walk_at "sc"
theorem zcn:FSc ["self","number","caller"] ["self","number"] (zaf zbm):=by walk_at "sc"
theorem zjJ:FSc ["craft","other"] ["craft","other"] (zaf zdT):=by walk_at "sc"
theorem zjK:FSc ["due","rows"] ["due","rows"] (zaf zc1):=by walk_at "sc"
theorem zfT:FSc ["self","number","asked"] ["self","number","asked"] (zaf zbZ):=by walk_at "sc"
theorem zgd:FSc ["self"] ["self"] (zaf zcb):=by walk_at "sc"
theorem zhg:FSc ["self","hall","number","given","inputs"] ["self","hall","number","given","inputs"] (zaf zcA):=by walk_at "sc"
theorem zjL:FSc ["self","fuel"] ["self","fuel"] (zaf zgn):=by walk_at "sc"
theorem zdb:FSc ["self","frame","deed","kind","given"] ["self"] (zaf zeD):=by walk_at "sc"
theorem zib:FSc ["self","hand","number","frame"] ["self","hand","number"] (zaf zfe):=by walk_at "sc"
theorem zhh:FSc ["self","hand","low","high","drawn"] ["self","hand","low","high"] (zaf zeE):=by walk_at "sc"
theorem zhi:FSc ["self","line","frame"] ["self","line"] (zaf zeF):=by walk_at "sc"
theorem zkD:FSc ["self","number","given"] ["self","number","given"] (zaf zeG):=by walk_at "sc"
theorem zjM:FSc ["self","number","given"] ["self","number","given"] (zaf zdU):=by walk_at "sc"
theorem zeY:FSc ["self","place","frame"] ["self","place"] (zaf zcU):=by walk_at "sc"
theorem zbS:FSc ["self","frame"] ["self"] (zaf za1):=by walk_at "sc"
theorem zdQ:FSc ["self","frame"] ["self"] (zaf zb0):=by walk_at "sc"
theorem zf7:FSc ["self","frame"] ["self"] (zaf zdV):=by walk_at "sc"
theorem zfa:FSc ["self","left_0","left_1","frame","taken"] ["self","left_0","left_1"] (zaf zeH):=by walk_at "sc"
theorem zhj:FSc ["self","frame"] ["self","frame"] (zaf zcB):=by walk_at "sc"
theorem zey:FSc ["self","word","lines","numbers","unmet","frame"] ["self","word","lines","numbers"] (zaf zdW):=by walk_at "sc"
theorem zdF:FSc ["lines","numbers","spot","line"] ["lines","numbers"] (zaf zcV):=by walk_at "sc"
theorem zgf:FSc ["asked"] ["asked"] (zaf zcc):=by walk_at "sc"
theorem zjN:FSc ["script","k"] ["script","k"] (zaf zdX):=by walk_at "sc"
theorem zfU:FSc ["e","told"] ["e"] (zaf zff):=by walk_at "sc"
theorem zfD:FSc ["hall","way","numbers","least","one","two","gone","e"] ["hall","way","numbers","least"] (zaf zih):=by walk_at "sc"
theorem zeZ:FSc ["script","least","one","two","gone","hall","first","k","way"] ["script"] (zaf ziU):=by walk_at "sc"
structure Bl (K:Fg)(mg:Str->Option Value):Prop where
 ValueError:mg "ValueError"=none
 all:mg "all"=none
 any:mg "any"=none
 enumerate:mg "enumerate"=none
 isinstance:mg "isinstance"=none
 len:mg "len"=none
 list:mg "list"=none
 min:mg "min"=none
 range:mg "range"=none
 sorted:mg "sorted"=none
 tuple:mg "tuple"=none
 zip:mg "zip"=none
 c_NUMBERS:∃ t,mg "NUMBERS"=some (.int 9 t)
 c_FACTORS:∃ t,mg "FACTORS"=some (.int 8 t)
 c_MOST_LINES:∃ t,mg "MOST_LINES"=some (.int 2 t)
 c_MOST_DEEDS:∃ t,mg "MOST_DEEDS"=some (.int 8 t)
 c_LAST_HAND:∃ t,mg "LAST_HAND"=some (.int 3 t)
 c_LAST_NUMBER:∃ t,mg "LAST_NUMBER"=some (.int 99 t)
 c_GREATEST_BY:∃ t,mg "GREATEST_BY"=some (.int 1000 t)
 c_GREATEST:∃ t,mg "GREATEST"=some (.int 1000000000 t)
 c_ASKED_0:∃ t,mg "ASKED_0"=some (.int 4 t)
 c_ASKED_1:∃ t,mg "ASKED_1"=some (.int 5 t)
 c_NEW_0:∃ t,mg "NEW_0"=some (.int 6 t)
 c_NEW_1:∃ t,mg "NEW_1"=some (.int 7 t)
 c_MOST_FRAMES:∃ t,mg "MOST_FRAMES"=some (.int 20 t)
 t_HAND_SPOTS:∃ a,mg "HAND_SPOTS"=some (.ref a)/\∀ H,SqT K H a [.int 1,.int 2,.int 3,.int 4]
 t_LEFT_SPOTS:∃ a,mg "LEFT_SPOTS"=some (.ref a)/\∀ H,SqT K H a [.int 7,.int 8]
 t_LEFT_AS_HANDS:∃ a,mg "LEFT_AS_HANDS"=some (.ref a)/\∀ H,SqT K H a [.int 0,.int 1,.int 2,.int 3,.int 4,.int 5,.int 0,.int 1]
 t_WHOLES:∃ a,mg "WHOLES"=some (.ref a)/\∀ H,SqT K H a [.int 1,.int 2,.int 3,.int 4]
structure Zt (K:Fg)(mg:Str->Option Value)(C:Nat->Addr):Prop where
 c_Craft:Cls K (C 0)
 m_Craft:mg "Craft"=some (.ref (C 0))
 n_Craft_needs:zbU K (C 0) "needs"
 n_Craft_leaves:zbU K (C 0) "leaves"
 n_Craft_deeds:zbU K (C 0) "deeds"
 n_Craft_notes:zbU K (C 0) "notes"
 e_HallError:Err K (C 1) zaR
 m_HallError:mg "HallError"=some (.ref (C 1))
 i_HallError:ErrIs2 K (C 1)
 e_BadSheet:Err K (C 2) (.ref (C 1)::zaR)
 m_BadSheet:mg "BadSheet"=some (.ref (C 2))
 i_BadSheet:ErrIs2 K (C 2)
 e_NoCraft:Err K (C 3) (.ref (C 1)::zaR)
 m_NoCraft:mg "NoCraft"=some (.ref (C 3))
 i_NoCraft:ErrIs2 K (C 3)
 e_Unmet:Err K (C 4) (.ref (C 1)::zaR)
 m_Unmet:mg "Unmet"=some (.ref (C 4))
 i_Unmet:ErrIs2 K (C 4)
 e_NotShown:Err K (C 5) (.ref (C 1)::zaR)
 m_NotShown:mg "NotShown"=some (.ref (C 5))
 i_NotShown:ErrIs2 K (C 5)
 e_Unfit:Err K (C 6) (.ref (C 1)::zaR)
 m_Unfit:mg "Unfit"=some (.ref (C 6))
 i_Unfit:ErrIs2 K (C 6)
 c_Hall:Cls K (C 7)
 m_Hall:mg "Hall"=some (.ref (C 7))
 n_Hall_laid:zbU K (C 7) "laid"
 n_Hall_vouched:zbU K (C 7) "vouched"
 c_Frame:Cls K (C 8)
 m_Frame:mg "Frame"=some (.ref (C 8))
 n_Frame_number:zbU K (C 8) "number"
 n_Frame_place:zbU K (C 8) "place"
 n_Frame_hands:zbU K (C 8) "hands"
 n_Frame_asked:zbU K (C 8) "asked"
 c_Run:Cls K (C 9)
 m_Run:mg "Run"=some (.ref (C 9))
 n_Run_known:zbU K (C 9) "known"
 n_Run_inputs_left:zbU K (C 9) "inputs_left"
 n_Run_stack:zbU K (C 9) "stack"
 n_Run_steps_done:zbU K (C 9) "steps_done"
 n_Run_ending:zbU K (C 9) "ending"
 nd:[C 1,C 2,C 3,C 4,C 5,C 6].Nodup
variable {n i k0 k1:Int}{b p dx c a d la na:Addr}{H:Hp}{Q:VK}{E:XK}{xs:List V}{v:V}{P:List Int->Prop}{l l0 l1 ns:List Int}
section
variable {P:Program}{w:World}{K:Fg}{mg:Str->Option Value}{b8:Heap}{f:Addr}{fd:FuncData}(B:Bl K mg) {C:Nat->Addr}(Z:Zt K mg C)
inductive Q9 (K:Fg)(vs:List V)(H:Hp)(Q:VK)(E:XK):Prop
 | mk (a:Addr) (ls:List (List Int)):vs=[.ref a]->Rep K H (zaz ls) (.ref a)->ls.length<=1000->(∀ v H',Same H H'->New H H' (zaz ls) v->Q v H')->Q9 K vs H Q E
include B Z in
theorem zhk (F:Fun K "copied_lines" "copied_lines" zbT f fd)(m:mg "copied_lines"=some (.ref f)):Fn P w K mg b8 "copied_lines" ["lines"] 1 (Q9 K):=by
 refine Fn.of (k:=0) F zhc m (λ_ _ _ _ _ _ us hl=>(by obtain⟨_,rfl⟩:=len1 hl;rfl)) (λvs H Q E h=>?_) (λcdv A outer s H vs Q E hr h=>?_)
 ·first
  | (obtain⟨_,_,rfl,_⟩:=h;rfl)
 obtain⟨a,ls,rfl,hA,hl,q⟩:=h
 refine⟨_,(zah (zaq (zba rfl (COk.m (sc0:=zaf zbT) (N:=["lines"]) (N':=["lines","line"]) (ms:=[false,true])) (zbj K (pv 0)) (λ_ _ _ _ _=>(zay (i:=1) (ndS (N:=["lines","line"])) rfl (Or.inl rfl))) (λ_ _ _ _ _=>zaP) (λ_ _ _ _ _=>(zdH (zk4 K) rfl B.list L2.zdJ (zac (pv 1) zab)))))),?_⟩
 unfold zaz Rep at hA
 obtain⟨a',xs,e,hA,hx⟩:=hA
 cases e
 have lx:=hx.length
 rw[zlm] at lx
 ac_rfl
 refine⟨a,rfl,⟨_,hA⟩,?_⟩
 refine zaY (zaX hA) (ls.map nums) (by rw[zlm];omega) (zao (by omega)) (λj x' d H4 R hj hd s4 hx' hR=>?_) (λv H4 s4 n4=>?_)
 ·obtain⟨d2,hd2,hrx⟩:=Reps.get' hx hx'
  rw[hd2] at hd;cases hd
  rw[zgm] at hd2
  obtain⟨l,hl,rfl⟩:=zme.mp hd2
  obtain⟨xa,rfl,hxa⟩:=za8.mp (Rep.same s4 _ hrx)
  ac_rfl
  refine zgw (.inl hxa) λp hp=>?_
  exact hR _ _ (zad hp _) (New.iif.mpr ⟨p,rfl,hp,zaa⟩)
 exact q _ _ s4 n4
inductive Qb (K:Fg)(vs:List V)(H:Hp)(Q:VK)(E:XK):Prop
 | mk (v:V) (d:D):vs=[v]->zc5 H d v->(∀ v' H',Same H H'->New H H' d v'->Q v' H')->Qb K vs H Q E
include B Z in
theorem zhC (F:Fun K "copied_deed" "copied_deed" zb5 f fd)(m:mg "copied_deed"=some (.ref f)):Fn P w K mg b8 "copied_deed" ["deed"] 1 (Qb K):=by
 refine Fn.of (k:=0) F zhz m (λ_ _ _ _ _ _ us hl=>(by obtain⟨_,rfl⟩:=len1 hl;rfl)) (λvs H Q E h=>?_) (λcdv A outer s H vs Q E hr h=>?_)
 ·first
  | (obtain⟨_,_,rfl,_⟩:=h;rfl)
 obtain⟨v,d,rfl,hd,q⟩:=h
 refine⟨_,(zah (zaq (zdH (zpK K) rfl B.tuple L2.zlH (zc6 (zba rfl (COk.m (sc0:=zaf zb5) (N:=["deed"]) (N':=["deed","part"]) (ms:=[false,true])) (zjg K (pv 0)) (λ_ _ _ _ _=>(zay (i:=1) (ndS (N:=["deed","part"])) rfl (Or.inl rfl))) (λ_ _ _ _ _=>zaP) (λ_ _ _ _ _=>(zij (zcJ (zav (k_isi K) rfl B.isinstance L2.zbk (zac (pv 1) (zac (zl4 (v:=.ty "list") rfl B.list L2.zdJ rfl) zab)))) (zdH (zk4 K) rfl B.list L2.zdJ (zac (pv 1) zab)) (pv 1)))) zab)))),?_⟩
 obtain⟨t,xs,ds,rfl,rfl,ht,hl,h8,hp⟩:=hd
 ac_rfl
 refine⟨t,rfl,⟨_,SqT.of ht⟩,?_⟩
 refine zaY (zfm (SqT.of ht)) ds hl (zao (by omega)) (λj x d H1 R hj hd s1 hx hR=>?_) (λv H1 s1 n1=>?_)
 ·have part:=(hp j d x hd hx).sq s1.sq
  ac_rfl
  rcases part with ⟨i,rfl,rfl⟩ | ⟨i,rfl,rfl⟩ | ⟨b,l,rfl,rfl,hb⟩ | ⟨b,i,k,rfl,rfl,hb⟩
  ·refine zn8 (.int i) zji ?_
   ac_rfl
   exact hR _ _ (Same.refl _) New.int
  ·refine zn8 (.str i) zjj ?_
   ac_rfl
   exact hR _ _ (Same.refl _) New.str
  ·refine zn8 (.lst hb) zob ?_
   ac_rfl
   refine zgw (.inl (SqL.of hb)) λp hp'=>?_
   exact hR _ _ (zad hp' _) (New.iif.mpr ⟨p,rfl,hp',zaa⟩)
  ·refine zn8 (.tup hb) zhv ?_
   ac_rfl
   exact hR _ _ (Same.refl _) ⟨[],RepF.pair hb,List.nodup_nil,λ_ m=>by cases m⟩
 obtain⟨la,vs,rfl,la0,la1,fp,f1,f2,f3⟩:=New.news n1
 ac_rfl
 refine zoc (SqL.of la1) λp hp'=>?_
 have s2:=zad hp' (.tup vs)
 exact q _ _ (s1.trans s2) (New.tup (zaj.sq s2.sq ds f1) f2 f3 zaa)
inductive Q8 (K:Fg)(C:Nat->Addr)(vs:List V)(H:Hp)(Q:VK)(E:XK):Prop
 | mk (p dx:Addr) (v1 v2 v3 v4:V) (needs leaves:List (List Int)) (deeds:List D) (notes:List (List (List Int))) (a3 a4:Addr) (dvs nvs:List V):vs=[.ref p,v1,v2,v3,v4]->H p=some (.ins (C 0) dx [])->Rep K H (zaz needs) v1->Rep K H (zaz leaves) v2->v3=.ref a3->SqL K H a3 dvs->v4=.ref a4->SqL K H a4 nvs->needs.length<=1000->leaves.length<=1000->deeds.length<=1000->notes.length<=1000->deeds.length=dvs.length->notes.length=nvs.length->(∀ (i:Nat) d x,deeds[i]?=some d->dvs[i]?=some x->zc5 H d x)->(∀ (i:Nat) ls x,notes[i]?=some ls->nvs[i]?=some x->ls.length<=1000/\Rep K H (zaz ls) x)->(∀ H' w1 w2 w3 w4,(∀ b o,H b=some o->b≠p->H' b=some o)->H' p=some (.ins (C 0) dx (flds w1 w2 w3 w4))->News H H' (znk needs leaves deeds notes) [w1,w2,w3,w4]->Q .non H')->Q8 K C vs H Q E
include B Z in
theorem zoy (Qa:Fn P w K mg b8 "copied_lines" ["lines"] 1 (Q9 K))(Qc:Fn P w K mg b8 "copied_deed" ["deed"] 1 (Qb K))(F:Fun K "__init__" "Craft.__init__" zbo f fd)(M:Mk K (C 0) f):Mkr P w K mg b8 "Craft" (C 0) ["self","needs","leaves","deeds","notes"] 2 (Q8 K C):=by
 refine⟨f,fd,M,F.ok (k:=1) zfQ (λvs H Q E h=>?_) (λcdv A outer s H vs Q E hr h=>?_),F.binds λ_ _ _ _ _ _ us hl=>(by obtain⟨_,_,_,_,_,rfl⟩:=len5 hl;rfl),Z.m_Craft⟩
 ·first
  | (obtain⟨_,_,_,_,_,_,_,_,_,_,_,_,_,_,rfl,_⟩:=h;rfl)
 obtain⟨p,dx,v1,v2,v3,v4,needs,leaves,deeds,notes,a3,a4,dvs,nvs,rfl,hp,r1,r2,rfl,h3,rfl,h4,l1,l2,l3,l4,e3,e4,dr,nr,q⟩:=h
 refine⟨_,(zag (zbB (pv 0) (zap Qa hr rfl (zac (pv 1) zab)) rfl)
   (zag (zbB (pv 0) (zap Qa hr rfl (zac (pv 2) zab)) rfl)
   (zag (zbB (pv 0) (zba rfl (COk.m (sc0:=zaf zbo) (N:=["self","needs","leaves","deeds","notes"]) (N':=["self","needs","leaves","deeds","notes","deed"]) (ms:=[false,false,false,false,false,true])) (zbj K (pv 3)) (λ_ _ _ _ _=>(zay (i:=5) (ndS (N:=["self","needs","leaves","deeds","notes","deed"])) rfl (Or.inl rfl))) (λ_ _ _ _ _=>zaP) (λ_ _ _ _ _=>(zap Qc hr rfl (zac (pv 5) zab)))) rfl)
   (zah (zbB (pv 0) (zba rfl (COk.m (sc0:=zaf zbo) (N:=["self","needs","leaves","deeds","notes"]) (N':=["self","needs","leaves","deeds","notes","lines"]) (ms:=[false,false,false,false,false,true])) (zbj K (pv 4)) (λ_ _ _ _ _=>(zay (i:=5) (ndS (N:=["self","needs","leaves","deeds","notes","lines"])) rfl (Or.inl rfl))) (λ_ _ _ _ _=>zaP) (λ_ _ _ _ _=>(zap Qa hr rfl (zac (pv 5) zab)))) rfl))))),?_⟩
 obtain⟨b1,rfl⟩:∃ b,v1=.ref b:=by unfold zaz Rep at r1;obtain⟨a,_,e,_⟩:=r1;exact⟨a,e⟩
 obtain⟨b2,rfl⟩:∃ b,v2=.ref b:=by unfold zaz Rep at r2;obtain⟨a,_,e,_⟩:=r2;exact⟨a,e⟩
 ac_rfl
 -- self.needs
 refine⟨b1,needs,rfl,r1,l1,λw1 H1 s1 n1=>?_⟩
 ac_rfl
 refine⟨p,(C 0),dx,[],rfl,s1 _ _ hp,Z.c_Craft,Z.n_Craft_needs,by show 0<1000;decide,?_⟩
 have k1:Sq H (upd H1 p (.ins (C 0) dx (putF "needs" w1 []))):=s1.sq.trans (zeT (s1 _ _ hp) rfl)
 have u1:News H (upd H1 p (.ins (C 0) dx (putF "needs" w1 []))) [zaz needs] [w1]:=(News.nil.snoc' (H:=H) (H1:=H) (Same.refl H).fr s1 n1).sq (zeT (s1 _ _ hp) rfl)
 have f1:Free H (upd H1 p (.ins (C 0) dx (putF "needs" w1 []))):=s1.fr.trans zds
 -- self.leaves
 ac_rfl
 refine⟨b2,leaves,rfl,Rep.sq k1 _ r2,l2,λw2 H2 s2 n2=>?_⟩
 have p2:=s2 _ _ (zaa (H:=H1) (a:=p) (o:=.ins (C 0) dx (putF "needs" w1 [])))
 ac_rfl
 refine⟨p,(C 0),dx,_,rfl,p2,Z.c_Craft,Z.n_Craft_leaves,Nat.lt_of_lt_of_le (za0 (n:=1) (by decide)) (by decide),?_⟩
 have k2:=k1.trans (s2.sq.trans (zeT (o:=.ins (C 0) dx (putF "leaves" w2 (putF "needs" w1 []))) p2 rfl))
 have u2:=(u1.snoc' f1 s2 n2).sq (zeT (o:=.ins (C 0) dx (putF "leaves" w2 (putF "needs" w1 []))) p2 rfl)
 have f2:Free H (upd H2 p (.ins (C 0) dx (putF "leaves" w2 (putF "needs" w1 [])))):=f1.trans (s2.fr.trans zds)
 -- self.deeds
 ac_rfl
 refine⟨a3,rfl,⟨_,k2.lst h3⟩,?_⟩
 refine zaY (zaX (k2.lst h3)) deeds e3 (zao (by omega)) (λj x d H3 R hj hd s3 hx hR=>?_) (λw3 H3 s3 n3=>?_)
 ·ac_rfl
  refine⟨x,d,rfl,(dr j d x hd hx).sq (k2.trans s3.sq),λv' H4 s4 n4=>?_⟩
  exact hR _ _ s4 n4
 have p3:=s3 _ _ (zaa (H:=H2) (a:=p) (o:=.ins (C 0) dx (putF "leaves" w2 (putF "needs" w1 []))))
 ac_rfl
 refine⟨p,(C 0),dx,_,rfl,p3,Z.c_Craft,Z.n_Craft_deeds,Nat.lt_of_lt_of_le (za0 (n:=2) (za0 (n:=1) (by decide))) (by decide),?_⟩
 have k3:=k2.trans (s3.sq.trans (zeT (o:=.ins (C 0) dx (putF "deeds" w3 (putF "leaves" w2 (putF "needs" w1 [])))) p3 rfl))
 have u3:=(u2.snoc' f2 s3 n3).sq (zeT (o:=.ins (C 0) dx (putF "deeds" w3 (putF "leaves" w2 (putF "needs" w1 [])))) p3 rfl)
 have f3:Free H (upd H3 p (.ins (C 0) dx (putF "deeds" w3 (putF "leaves" w2 (putF "needs" w1 []))))):=f2.trans (s3.fr.trans zds)
 -- self.notes
 ac_rfl
 refine⟨a4,rfl,⟨_,k3.lst h4⟩,?_⟩
 refine zaY (zaX (k3.lst h4)) (notes.map zaz) (by rw[zlm];exact e4) (zao (by omega)) (λj x d H4 R hj hd s4 hx hR=>?_) (λw4 H4 s4 n4=>?_)
 ·rw[zgm] at hd
  obtain⟨ls,hls,rfl⟩:=zme.mp hd
  obtain⟨hz,hr2⟩:=nr j ls x hls hx
  have hr3:=Rep.sq (k3.trans s4.sq) _ hr2
  obtain⟨b,rfl⟩:∃ b,x=.ref b:=by unfold zaz Rep at hr3;obtain⟨a,_,e,_⟩:=hr3;exact⟨a,e⟩
  ac_rfl
  refine⟨b,ls,rfl,hr3,hz,λv' H5 s5 n5=>?_⟩
  exact hR _ _ s5 n5
 have p4:=s4 _ _ (zaa (H:=H3) (a:=p) (o:=.ins (C 0) dx (putF "deeds" w3 (putF "leaves" w2 (putF "needs" w1 [])))))
 ac_rfl
 refine⟨p,(C 0),dx,_,rfl,p4,Z.c_Craft,Z.n_Craft_notes,Nat.lt_of_lt_of_le (za0 (n:=3) (za0 (n:=2) (za0 (n:=1) (by decide)))) (by decide),?_⟩
 have u4:=(u3.snoc' f3 s4 n4).sq (zeT (o:=.ins (C 0) dx (putF "notes" w4 (putF "deeds" w3 (putF "leaves" w2 (putF "needs" w1 []))))) p4 rfl)
 refine q _ w1 w2 w3 w4 (λb o e hb=>?_) zaa u4
 rw[zai hb]
 refine s4 _ _ ?_
 rw[zai hb]
 refine s3 _ _ ?_
 rw[zai hb]
 refine s2 _ _ ?_
 rw[zai hb]
 exact s1 _ _ e
def MulOk (fs ns:List Int):Prop:=∀ (i:Nat) (f n:Int),fs[i]?=some f->ns[i]?=some n->CMul f n
def spW (K:Fg)(R:Int->V):Sp:=λvs H Q _=>∃ (a b:Addr) (c:Int) (fs ns:List Int),vs=[.ref a,.ref b]/\SqL K H a ((c::fs).map V.int)/\SqL K H b (ns.map V.int)/\fs.length=8/\ns.length=8/\MulOk fs ns/\
 ∀ H',Same H H'->Q (R (c+dot fs ns)) H'
def zgB (K:Fg):Sp:=spW K .int
include B Z in
theorem zoz (F:Fun K "worth" "worth" zie f fd)(m:mg "worth"=some (.ref f)):Fn P w K mg b8 "worth" ["line","numbers"] 1 (zgB K):=by
 refine Fn.of (k:=0) F zfu m (λ_ _ _ _ _ _ us hl=>(by obtain⟨_,_,rfl⟩:=len2 hl;rfl)) (λvs H Q E h=>?_) (λcdv A outer s H vs Q E hr h=>?_)
 ·first
  | (obtain⟨rfl,_⟩:=h;rfl)
  | (obtain⟨_,rfl,_⟩:=h;rfl)
  | (obtain⟨_,_,rfl,_⟩:=h;rfl)
  | (obtain⟨_,_,_,rfl,_⟩:=h;rfl)
  | (obtain⟨_,_,_,_,rfl,_⟩:=h;rfl)
  | (obtain⟨_,_,_,_,_,rfl,_⟩:=h;rfl)
  | (obtain⟨_,_,_,_,_,_,rfl,_⟩:=h;rfl)
  | (obtain⟨_,_,_,_,_,_,_,rfl,_⟩:=h;rfl)
  | (obtain⟨_,_,_,_,_,_,_,_,rfl,_⟩:=h;rfl)
  | (obtain⟨_,_,_,_,_,_,_,_,_,rfl,_⟩:=h;rfl)
  | (obtain⟨_,_,_,_,_,_,_,_,_,_,rfl,_⟩:=h;rfl)
  | (obtain⟨_,_,_,_,_,_,_,_,_,_,_,rfl,_⟩:=h;rfl)
  | (obtain⟨_,_,_,_,_,_,_,_,_,_,_,_,rfl,_⟩:=h;rfl)
  | (obtain⟨_,_,_,_,_,_,_,_,_,_,_,_,_,rfl,_⟩:=h;rfl)
  | (obtain⟨_,_,_,_,_,_,_,_,_,_,_,_,_,_,rfl,_⟩:=h;rfl)
  | (obtain⟨_,_,_,_,_,_,_,_,_,_,_,_,_,_,_,rfl,_⟩:=h;rfl)
  | (obtain⟨_,_,_,_,_,_,_,_,_,_,_,_,_,_,_,_,rfl,_⟩:=h;rfl)
 obtain⟨a,b,c,fs,ns,rfl,hA,hB,lf,ln,mo,q⟩:=h
 refine⟨_,(zag (zat (i:=2) zfu.nd rfl (Or.inl rfl) (zau (k_ix K) (pv 0) zae (λ_ _=>rfl)))
   (zag (zek PassesOwn.never rfl (zk5 K rfl B.zip (zaD (zfh (k_sl K) (pv 0) (zgJ zae) zgI) (zac (pv 1) zab))) (zh2 K (n:=2) rfl (zbJ (zay (i:=3) zfu.nd rfl (Or.inl rfl)) (zbJ (zay (i:=4) zfu.nd rfl (Or.inl rfl)) zfH))) (zah (zat (i:=2) zfu.nd rfl (Or.inl rfl) (zaW (zaS K) (pv 2) (zaW zdq (pv 3) (pv 4))))))
   (zah (zaq (pv 2))))),?_⟩
 ac_rfl
 refine zcf hA (v:=.int c) zbu ?_
 ac_rfl
 ac_rfl
 refine .inl ⟨a,_,rfl,hA,λp hp=>?_⟩
 have s1:=zad hp (.lst (cutV ((c::fs).map V.int) (some 1) none))
 have ec:cutV ((c::fs).map V.int) (some 1) none=fs.map V.int:=by
  unfold cutV
  rw[show HT.sIx ((c::fs).map V.int).length 0 (some 1)=1 by rw[show (1:Int)=((1:Nat):Int) by rfl,HT.sIx_nat];simp]
  rw[HT.sIx_none]
  simp[List.take_of_length_le]
 rw[ec] at s1 ⊢
 ac_rfl
 refine⟨p,b,rfl,⟨_,SqL.of zaa⟩,⟨_,s1.seq hB⟩,?_⟩
 refine zfM (zgv (n:=8) (SqL.of zaa) (s1.seq hB) (by simp[lf,ln])) (λi σ H2=>∃ x y,σ=[some (.ref a),some (.ref b),some (.int (c+dot (fs.take i) (ns.take i))),x,y]/\Same (upd H p (.lst (fs.map V.int))) H2)
  ⟨none,none,by simp[dot];rfl,Same.refl _⟩ (λi σ H2 ⟨_,_,_,e⟩=>e) ?_ ?_
 ·rintro i v σ H2 H3 hi ⟨x,y,rfl,s2⟩ s3 ⟨T,u,z,rfl,hT,eu,ez⟩
  rw[zgm] at eu ez
  obtain⟨f,hf,rfl⟩:=zme.mp eu
  obtain⟨n,hn,rfl⟩:=zme.mp ez
  refine⟨T,_,rfl,SqT.of hT,rfl,⟨_,_,rfl,?_⟩⟩
  refine⟨_,_,rfl,?_⟩
  refine⟨rfl,?_⟩
  ac_rfl
  refine zis (mo i f n hf hn) ?_
  ac_rfl
  refine⟨some (.int f),some (.int n),?_,s2.trans s3⟩
  rw[zfo fs ns i f n hf hn,Int.add_assoc]
  rfl
 ·rintro σ H2 ⟨x,y,rfl,s2⟩
  ac_rfl
  rw[List.take_of_length_le (by omega),List.take_of_length_le (by omega)]
  exact q _ (s1.trans s2)
def zgC (K:Fg):Sp:=spW K λt=>.bl (decide (0<=t))
include B Z in
theorem zoA (Q0:Fn P w K mg b8 "worth" ["line","numbers"] 1 (zgB K))(F:Fun K "holds" "holds" zif f fd)(m:mg "holds"=some (.ref f)):Fn P w K mg b8 "holds" ["line","numbers"] 2 (zgC K):=by
 refine Fn.of (k:=1) F zow m (λ_ _ _ _ _ _ us hl=>(by obtain⟨_,_,rfl⟩:=len2 hl;rfl)) (λvs H Q E h=>?_) (λcdv A outer s H vs Q E hr h=>?_)
 ·first
  | (obtain⟨rfl,_⟩:=h;rfl)
  | (obtain⟨_,rfl,_⟩:=h;rfl)
  | (obtain⟨_,_,rfl,_⟩:=h;rfl)
  | (obtain⟨_,_,_,rfl,_⟩:=h;rfl)
  | (obtain⟨_,_,_,_,rfl,_⟩:=h;rfl)
  | (obtain⟨_,_,_,_,_,rfl,_⟩:=h;rfl)
  | (obtain⟨_,_,_,_,_,_,rfl,_⟩:=h;rfl)
  | (obtain⟨_,_,_,_,_,_,_,rfl,_⟩:=h;rfl)
  | (obtain⟨_,_,_,_,_,_,_,_,rfl,_⟩:=h;rfl)
  | (obtain⟨_,_,_,_,_,_,_,_,_,rfl,_⟩:=h;rfl)
  | (obtain⟨_,_,_,_,_,_,_,_,_,_,rfl,_⟩:=h;rfl)
  | (obtain⟨_,_,_,_,_,_,_,_,_,_,_,rfl,_⟩:=h;rfl)
  | (obtain⟨_,_,_,_,_,_,_,_,_,_,_,_,rfl,_⟩:=h;rfl)
  | (obtain⟨_,_,_,_,_,_,_,_,_,_,_,_,_,rfl,_⟩:=h;rfl)
  | (obtain⟨_,_,_,_,_,_,_,_,_,_,_,_,_,_,rfl,_⟩:=h;rfl)
  | (obtain⟨_,_,_,_,_,_,_,_,_,_,_,_,_,_,_,rfl,_⟩:=h;rfl)
  | (obtain⟨_,_,_,_,_,_,_,_,_,_,_,_,_,_,_,_,rfl,_⟩:=h;rfl)
 obtain⟨a,b,c,fs,ns,rfl,hA,hB,lf,ln,mo,q⟩:=h
 refine⟨_,(zah (zaq (zbt zqF (zap Q0 hr rfl (zac (pv 0) (zac (pv 1) zab))) zae (zaw _)))),?_⟩
 ac_rfl
 refine⟨a,b,c,fs,ns,rfl,hA,hB,lf,ln,mo,λH' s1=>?_⟩
 ac_rfl
 exact q H' s1
def zez (K:Fg):Sp:=λvs H Q _=>∃ i:Int,vs=[.int i]/\∀ v H',Same H H'->New H H' (nums (zaF i)) v->Q v H'
theorem zdw(q:∀ v H',Same H H'->New H H' (nums (zaF i)) v->Q v H'):zez K [.int i] H Q E:=⟨i,rfl,q⟩
include B Z in
theorem zqi (F:Fun K "bare" "bare" ziT f fd)(m:mg "bare"=some (.ref f)):Fn P w K mg b8 "bare" ["i"] 1 (zez K):=by
 refine Fn.of (k:=0) F zqh m (λ_ _ _ _ _ _ us hl=>(by obtain⟨_,rfl⟩:=len1 hl;rfl)) (λvs H Q E h=>?_) (λcdv A outer s H vs Q E hr h=>?_)
 ·first
  | (obtain⟨_,rfl,_⟩:=h;rfl)
 obtain⟨i,rfl,q⟩:=h
 refine⟨_,(zah (zaq (zaW (zaS K) (zaO (zam zae zab)) (zba rfl (COk.m (sc0:=zaf ziT) (N:=["i"]) (N':=["i","factor"]) (ms:=[false,true])) (zej rfl B.range (zac (za4 rfl B.c_FACTORS) zab)) (λ_ _ _ _ _=>(zay (i:=1) (ndS (N:=["i","factor"])) rfl (Or.inl rfl))) (λ_ _ _ _ _=>zaP) (λ_ _ _ _ _=>(zij (zaA (k_eq K hr) (pv 1) (pv 0) (zaw _)) zae zae)))))),?_⟩
 ac_rfl
 refine⟨by decide,λp hp=>?_⟩
 ac_rfl
 refine zgS (by decide) (by decide) ?_
 refine zaY (n:=8) zh1 (((List.range 8).map λ(k:Nat)=>(if (0+(k:Int))=i then 1 else 0:Int)).map D.int) (by simp) (by decide) (λj x d H1 R hj hd s1 hx hR=>?_) (λv H1 s1 n1=>?_)
 ·subst hx
  rw[List.map_map] at hd
  have hd':=zmU hd
  subst hd'
  ac_rfl
  refine ite2 (λe=>?_) (λe=>?_)
  ·have e':0+(j:Int)=i:=of_decide_eq_true e
   ac_rfl
   refine hR _ _ (Same.refl _) ?_
   simp only[Function.comp,if_pos e']
   exact New.int
  ·have e':¬ 0+(j:Int)=i:=of_decide_eq_false (Bool.eq_false_iff.mpr e)
   ac_rfl
   refine hR _ _ (Same.refl _) ?_
   simp only[Function.comp,if_neg e']
   exact New.int
 obtain⟨la,rfl,la0,la1⟩:=New.iif.mp n1
 have s2:=(zad hp (.lst [.int 0])).trans s1
 refine zbr (s1 _ _ zaa) la1 (by simp;decide) λr hr'=>?_
 refine q _ _ (s2.trans (zad hr' _)) (New.iif.mpr ⟨r,rfl,s2.free hr',?_⟩)
 rw[zaa]
 rfl
inductive Q4 (K:Fg)(vs:List V)(H:Hp)(Q:VK)(E:XK):Prop
 | mk (a b:Addr) (ls:List (List Int)) (ws:List Int):vs=[.ref a,.ref b]->Rep K H (.lst (ls.map nums)) (.ref a)->SqL K H b (ws.map V.int)->ls.length=ws.length->ls.length<=1000->(∀ l∈ls,l.length=9)->zoo ls ws->(∀ v H',Same H H'->New H H' (nums (zcs ls ws)) v->Q v H')->Q4 K vs H Q E
include B Z in
theorem znt (F:Fun K "summed" "summed" zfc f fd)(m:mg "summed"=some (.ref f)):Fn P w K mg b8 "summed" ["lines","weights"] 1 (Q4 K):=by
 refine Fn.of (k:=0) F zew m (λ_ _ _ _ _ _ us hl=>(by obtain⟨_,_,rfl⟩:=len2 hl;rfl)) (λvs H Q E h=>?_) (λcdv A outer s H vs Q E hr h=>?_)
 ·first
  | (obtain⟨_,_,_,_,rfl,_⟩:=h;rfl)
 obtain⟨a,b,ls,ws,rfl,hA,hB,hl,h1000,h9,ok,q⟩:=h
 refine⟨_,(zag (zat (i:=2) zew.nd rfl (Or.inl rfl) (zaW zdq (zaO (zam zae zab)) (za4 rfl B.c_NUMBERS)))
   (zag (zek PassesOwn.never rfl (zk5 K rfl B.zip (zac (pv 0) (zac (pv 1) zab))) (zh2 K (n:=2) rfl (zbJ (zay (i:=3) zew.nd rfl (Or.inl rfl)) (zbJ (zay (i:=4) zew.nd rfl (Or.inr rfl)) zfH))) (zah (zh0 (i:=2) zew.nd rfl rfl rfl (COk.m (sc0:=zaf zfc) (N:=["lines","weights","total","line","weight"]) (N':=["lines","weights","total","line","weight","so_far","number"]) (ms:=[false,false,false,false,false,true,true])) (zk5 K rfl B.zip (zac (pv 2) (zac (pv 3) zab))) (λ_ _ _ _ _=>(zh2 K (n:=2) rfl (zbJ (zay (i:=5) (ndS (N:=["lines","weights","total","line","weight","so_far","number"])) rfl (Or.inl rfl)) (zbJ (zay (i:=6) (ndS (N:=["lines","weights","total","line","weight","so_far","number"])) rfl (Or.inl rfl)) zfH)))) (λ_ _ _ _ _=>zaP) (λ_ _ _ _ _=>(zaW (zaS K) (pv 5) (zaW zdq (pv 6) (pv 4)))))))
   (zah (zaq (pv 2))))),?_⟩
 unfold Rep at hA
 obtain⟨a',xs,e,hA,hx⟩:=hA
 cases e
 have lx:=hx.length
 rw[zlm] at lx
 ac_rfl
 refine⟨by decide,λp hp=>?_⟩
 ac_rfl
 refine .inr ⟨p,9,[.int 0],rfl,rfl,zaa,by decide,by decide,by decide,λt ht=>?_⟩
 have s0:=(zad hp (.lst [.int 0])).trans (zad ht (.lst (List.replicate (9:Int).toNat [V.int 0]).flatten))
 ac_rfl
 refine⟨a,b,rfl,⟨_,s0.seq hA⟩,⟨_,s0.seq hB⟩,?_⟩
 refine zfM (n:=ws.length) (zgv (s0.seq hA) (s0.seq hB) (by rw[zlm];omega)) (λi σ H2=>∃ (ta:Addr) (x y:Option V),σ=[some (.ref a),some (.ref b),some (.ref ta),x,y]/\Same (upd (upd H p (.lst [.int 0])) t (.lst (List.replicate (9:Int).toNat [V.int 0]).flatten)) H2/\H ta=none/\H2 ta=some (.lst ((zjt ((ls.zip ws).take i) (List.replicate 9 0)).map V.int)))
  ⟨t,none,none,rfl,Same.refl _,(zad hp _).free ht,by rw[zaa];rfl⟩ (λi σ H2 ⟨_,_,_,_,e,_⟩=>e) ?_ ?_
 ·rintro i v σ H2 H3 hi ⟨ta,x,y,rfl,s2,ta0,ta1⟩ s3 ⟨T,u,z,rfl,hT,eu,ez⟩
  have il:i<ls.length:=by omega
  rw[zgm] at ez
  obtain⟨w',hw,rfl⟩:=zme.mp ez
  obtain⟨dl,hdl,hru⟩:=hx.get' eu
  rw[zgm,List.getElem?_eq_getElem il] at hdl
  cases hdl
  obtain⟨lu,rfl,hlu⟩:=za8.mp (Rep.same (s0.trans (s2.trans s3)) _ hru)
  have l9:=h9 ls[i] (List.getElem_mem il)
  have ft9:(zjt ((ls.zip ws).take i) (List.replicate 9 0)).length=9:=zer _ _ (by simp) λp hp=>zna h9 p (List.mem_of_mem_take hp)
  refine⟨T,_,rfl,SqT.of hT,rfl,⟨_,_,rfl,?_⟩⟩
  refine⟨_,_,rfl,?_⟩
  refine⟨rfl,?_⟩
  ac_rfl
  refine⟨ta,lu,rfl,⟨_,SqL.of (s3 _ _ ta1)⟩,⟨_,hlu⟩,?_⟩
  refine zaY (n:=9) (zgv (SqL.of (s3 _ _ ta1)) hlu (by rw[zlm,zlm,ft9,l9];rfl)) ((addW w' (zjt ((ls.zip ws).take i) (List.replicate 9 0)) ls[i]).map D.int) (by rw[zlm];exact zgZ ft9 l9) (by decide) (λj x' d H4 R hj hd s4 hx' hR=>?_) (λv H4 s4 n4=>?_)
  ·obtain⟨T2,u2,z2,rfl,hT2,e1,e2⟩:=hx'
   rw[zgm] at e1 e2
   obtain⟨s',hs',rfl⟩:=zme.mp e1
   obtain⟨n',hn',rfl⟩:=zme.mp e2
   have ed:d=.int (s' + n' * w'):=by
    unfold addW at hd
    rw[zgm,List.getElem?_zipWith,hs',hn'] at hd
    cases hd
    rfl
   subst ed
   refine⟨T2,_,rfl,SqT.of hT2,rfl,⟨_,_,rfl,?_⟩⟩
   refine⟨_,_,rfl,?_⟩
   refine⟨rfl,?_⟩
   ac_rfl
   refine zis (ok i ls[i] w' (by simp) hw n' (zmg hn')) ?_
   ac_rfl
   exact hR _ _ (Same.refl _) New.int
  obtain⟨na,rfl,na0,na1⟩:=New.iif.mp n4
  ac_rfl
  refine⟨na,_,_,rfl,s2.trans (s3.trans s4),(s0.trans (s2.trans s3)).free na0,?_⟩
  rw[na1,List.take_add_one,zp2 (List.getElem?_eq_getElem il) hw,zlL]
 ·rintro σ H2 ⟨ta,x,y,rfl,s2,ta0,ta1⟩
  ac_rfl
  refine q _ _ (s0.trans s2) (New.iif.mpr ⟨ta,rfl,ta0,?_⟩)
  rw[ta1,List.take_of_length_le (by rw[List.length_zip];omega)]
  rfl
inductive Q6 (K:Fg)(vs:List V)(H:Hp)(Q:VK)(E:XK):Prop
 | mk (a b:Addr) (c:Int) (fs:List Int) (ls:List (List Int)):vs=[.ref a,.ref b]->SqL K H a ((c::fs).map V.int)->Rep K H (.lst (ls.map nums)) (.ref b)->fs.length=8->ls.length=8->(∀ l∈ls,l.length=9)->zoo ls fs->(∀ v H',Same H H'->New H H' (nums (zaV (c::fs) ls)) v->Q v H')->Q6 K vs H Q E
theorem zoB (c:Int)(fs:List Int):cutV ((c::fs).map V.int) (some 1) none=fs.map V.int:=by
 unfold cutV
 rw[show HT.sIx ((c::fs).map V.int).length 0 (some 1)=1 by rw[show (1:Int)=((1:Nat):Int) by rfl,HT.sIx_nat];simp]
 rw[HT.sIx_none]
 simp[List.take_of_length_le]
include B Z in
theorem znu (Q5:Fn P w K mg b8 "summed" ["lines","weights"] 1 (Q4 K))(F:Fun K "turned" "turned" zgj f fd)(m:mg "turned"=some (.ref f)):Fn P w K mg b8 "turned" ["line","eight"] 2 (Q6 K):=by
 refine Fn.of (k:=1) F zjE m (λ_ _ _ _ _ _ us hl=>(by obtain⟨_,_,rfl⟩:=len2 hl;rfl)) (λvs H Q E h=>?_) (λcdv A outer s H vs Q E hr h=>?_)
 ·first
  | (obtain⟨_,_,_,_,_,rfl,_⟩:=h;rfl)
 obtain⟨a,b,c,fs,ls,rfl,hA,hB,lf,ll,h9,ok,q⟩:=h
 refine⟨_,(zag (zat (i:=2) zjE.nd rfl (Or.inl rfl) (zap Q5 hr rfl (zac (pv 1) (zaD (zfh (k_sl K) (pv 0) (zgJ zae) zgI) zab))))
   (zag (ziX (zaW (zaS K) (zau (k_ix K) (pv 2) zae (λ_ _=>rfl)) (zau (k_ix K) (pv 0) zae (λ_ _=>rfl))) (zkR (pv 2) zae zgq))
   (zah (zaq (pv 2))))),?_⟩
 ac_rfl
 refine .inl ⟨a,_,rfl,hA,λp hp=>?_⟩
 rw[zoB]
 have s1:=zad hp (.lst (fs.map V.int))
 ac_rfl
 refine⟨b,p,ls,fs,rfl,Rep.same s1 _ hB,SqL.of zaa,by omega,by omega,h9,ok,λv H2 s2 n2=>?_⟩
 obtain⟨ta,rfl,ta0,ta1⟩:=New.iif.mp n2
 have s3:=s1.trans s2
 obtain⟨x,r,hs⟩:∃ x r,zcs ls fs=x::r:=by
  have:=za2 (ws:=fs) h9
  cases e:zcs ls fs with
  | nil=>rw[e] at this;simp at this
  | cons x r=>exact⟨x,r,rfl⟩
 rw[hs] at ta1
 ac_rfl
 refine zcf (SqL.of ta1) (v:=.int x) zbu ?_
 ac_rfl
 refine zcf (s3.seq hA) (v:=.int c) zbu ?_
 ac_rfl
 refine zk3 ta1 ix0 ?_
 ac_rfl
 have ta2:=s1.free ta0
 refine q _ _ (λd o e=>?_) (New.iif.mpr ⟨ta,rfl,ta2,?_⟩)
 ·rw[zai (zan e ta2)];exact s3 _ _ e
 ·rw[zaa]
  unfold zaV
  rw[show (c::fs).tail=fs by rfl,hs]
  rfl
theorem zfE{a3 a4:Addr}{v1 v2:V}{c:Cr}{dvs nvs:List V}(np:H p=none)(nd:H dx=none)(r1:Rep K H (zaz c.needs) v1)(r2:Rep K H (zaz c.leaves) v2)(h3:SqL K H a3 dvs)(h4:SqL K H a4 nvs)(dr:ze6 H c.deeds dvs)(nr:R2 (λls x=>Rep K H (zaz ls) x) c.notes nvs)(g:c.Nine)(q:∀ H1 f,Same H H1->zbw (C 0) H1 p c f->(∀ b∈f,H b=none)->f.Nodup->Q .non H1):Q8 K C [.ref p,v1,v2,.ref a3,.ref a4] (upd (upd H dx (.own p)) p (.ins (C 0) dx [])) Q E:=by
 have sm:Same H (upd (upd H dx (.own p)) p (.ins (C 0) dx [])):=λb o e=>by
  rw[zai (zan e np),zai (zan e nd)];exact e
 have ld:=dr.1
 have ln:=nr.1
 have e1:=g.d
 have e2:=g.n
 have e3:=g.l
 have e4:=g.o
 refine⟨p,dx,v1,v2,.ref a3,.ref a4,c.needs,c.leaves,c.deeds.map toD,c.notes,a3,a4,dvs,nvs,rfl,zaa,Rep.same sm _ r1,Rep.same sm _ r2,rfl,sm.seq h3,rfl,sm.seq h4,by omega,by omega,by rw[zlm];omega,by omega,by rw[zlm];exact ld,ln,λi d x q1 q2=>?_,λi ls x q1 q2=>?_,λH1 w1 w2 w3 w4 keep hp nw=>?_⟩
 ·rw[zgm] at q1
  obtain⟨d',hd',rfl⟩:=zme.mp q1
  exact (dr.2 i d' x hd' q2).sq sm.sq
 ·exact⟨by have:=(g.o9 ls (zmg q1)).1;omega,Rep.same sm _ (nr.2 i ls x q1 q2)⟩
 ·have s1:Same H H1:=λb o e=>keep b o (sm _ _ e) (zan e np)
  obtain⟨f,k1,k2,k3⟩:=nw
  have pf:p∉f:=λz=>by have:=k3 p z;rw[zaa] at this;cases this
  refine q H1 (p::f) s1 ⟨dx,w1,w2,w3,w4,f,rfl,hp,k1⟩ (λb hb=>?_) (List.nodup_cons.mpr ⟨pf,k2⟩)
  rcases List.mem_cons.mp hb with rfl | hb
  ·exact np
  ·exact sm.fr b (k3 b hb)
theorem zoC {a1 a2 a3 a4 b1 b2 b3 b4:V}(h:flds a1 a2 a3 a4=flds b1 b2 b3 b4):a1=b1/\a2=b2/\a3=b3/\a4=b4:=by
 refine⟨?_,?_,?_,?_⟩
 ·have:=zcC a1 a2 a3 a4;rw[h,zcC] at this;injection this with this;exact this.symm
 ·have:=zck a1 a2 a3 a4;rw[h,zck] at this;injection this with this;exact this.symm
 ·have:=zbM a1 a2 a3 a4;rw[h,zbM] at this;injection this with this;exact this.symm
 ·have:=zdv a1 a2 a3 a4;rw[h,zdv] at this;injection this with this;exact this.symm
inductive Qd (K:Fg)(C:Nat->Addr)(vs:List V)(H:Hp)(Q:VK)(E:XK):Prop
 | mk (p:Addr) (c:Cr):vs=[.ref p]->zet K (C 0) H p c.needs c.leaves c.deeds c.notes->c.Nine->(∀ q f H',Same H H'->zbw (C 0) H' q c f->(∀ b∈f,H b=none)->f.Nodup->Q (.ref q) H')->Qd K C vs H Q E
include B Z in
theorem zhl (M_Craft:Mkr P w K mg b8 "Craft" (C 0) ["self","needs","leaves","deeds","notes"] 2 (Q8 K C))(F:Fun K "copied_craft" "copied_craft" zcw f fd)(m:mg "copied_craft"=some (.ref f)):Fn P w K mg b8 "copied_craft" ["craft"] 4 (Qd K C):=by
 refine Fn.of (k:=3) F zhd m (λ_ _ _ _ _ _ us hl=>(by obtain⟨_,rfl⟩:=len1 hl;rfl)) (λvs H Q E h=>?_) (λcdv A outer s H vs Q E hr h=>?_)
 ·first
  | (obtain⟨_,_,rfl,_⟩:=h;rfl)
 obtain⟨p,c,rfl,hT,g,q⟩:=h
 refine⟨_,(zah (zaq (zpM M_Craft hr rfl (za5 (zax K (pv 0) rfl) (za5 (zax K (pv 0) rfl) (za5 (zax K (pv 0) rfl) (za5 (zax K (pv 0) rfl) zab))))))),?_⟩
 obtain⟨⟨dx,w1,w2,w3,w4,hp,r1,r2,r3,r4⟩,dx',u1,u2,b3,u4,dvs,hp',hb3,hD⟩:=hT
 have e:=hp
 rw[hp'] at e
 injection e with e
 injection e with _ e0 e
 obtain⟨rfl,rfl,rfl,rfl⟩:=zoC e
 unfold Rep at r4
 obtain⟨b4,nvs,rfl,q4,z4⟩:=r4
 have z4l:=z4.length
 nofun
 refine⟨p,(C 0),dx,_,_,rfl,hp,Z.c_Craft,Z.n_Craft_needs,zcC _ _ _ _,?_⟩
 nofun
 refine⟨p,(C 0),dx,_,_,rfl,hp,Z.c_Craft,Z.n_Craft_leaves,zck _ _ _ _,?_⟩
 nofun
 refine⟨p,(C 0),dx,_,_,rfl,hp,Z.c_Craft,Z.n_Craft_deeds,zbM _ _ _ _,?_⟩
 nofun
 refine⟨p,(C 0),dx,_,_,rfl,hp,Z.c_Craft,Z.n_Craft_notes,zdv _ _ _ _,?_⟩
 nofun
 intro y dy hy hdy ndy
 refine zfE (c:=c) hy hdy r1 r2 (SqL.of hb3) q4 hD ⟨by simpa using z4l,λi ls x e1 e2=>?_⟩ g λH1 f s1 hC hf fn=>⟨rfl,q y f H1 s1 hC hf fn⟩
 obtain⟨d,hd,hrx⟩:=Reps.get' z4 e2
 rw[zgm,e1] at hd
 cases hd
 exact hrx
def zdx (deeds:List Dd)(i:Nat):Bool:=match deeds[i]? with
 | some d=>(zdA d).isSome
 | none=>false
def zf8 (deeds:List Dd)(i:Nat):D:=match deeds[i]? with
 | some d=>.int ((zdA d).getD 0)
 | none=>.int 0
theorem zic:∀ (deeds:List Dd),((List.range deeds.length).filter (zdx deeds)).map (zf8 deeds)=(zaZ deeds).map D.int
 | []=>rfl
 | d::ds=>by
  have ih:=zic ds
  have f:(List.map Nat.succ (List.range ds.length)).filter (zdx (d::ds))=((List.range ds.length).filter (zdx ds)).map Nat.succ:=by
   rw[List.filter_map];rfl
  have g:(((List.range ds.length).filter (zdx ds)).map Nat.succ).map (zf8 (d::ds))=(zaZ ds).map D.int:=by
   rw[List.map_map,<-ih];rfl
  rw[List.length_cons,List.range_succ_eq_map,List.filter_cons,f]
  unfold zaZ at g ⊢
  cases e:zdA d with
  | none=>
   rw[show zdx (d::ds) 0=false by unfold zdx;simp[e],if_neg (by decide),List.filterMap_cons,e]
   exact g
  | some m=>
   rw[show zdx (d::ds) 0=true by unfold zdx;simp[e],if_pos rfl,List.filterMap_cons,e,zmc,zmc,g,show zf8 (d::ds) 0=.int m by unfold zf8;simp[e]]
theorem znv (deeds:List Dd)(n:Nat)(h:n=deeds.length):((List.range n).filter (zdx deeds)).map (zf8 deeds)=(zaZ deeds).map D.int:=by
 subst h;exact zic deeds
inductive Qf (K:Fg)(C:Nat->Addr)(vs:List V)(H:Hp)(Q:VK)(E:XK):Prop
 | mk (p:Addr) (dx b3:Addr) (w1 w2 w4:V) (dvs:List V) (deeds:List Dd):vs=[.ref p]->H p=some (.ins (C 0) dx (flds w1 w2 (.ref b3) w4))->H b3=some (.lst dvs)->ze6 H deeds dvs->deeds.length<=1000->(∀ v H',Same H H'->New H H' (nums (zaZ deeds)) v->Q v H')->Qf K C vs H Q E
include B Z in
theorem zjO (F:Fun K "called_by" "called_by" zcZ f fd)(m:mg "called_by"=some (.ref f)):Fn P w K mg b8 "called_by" ["craft"] 1 (Qf K C):=by
 refine Fn.of (k:=0) F zjF m (λ_ _ _ _ _ _ us hl=>(by obtain⟨_,rfl⟩:=len1 hl;rfl)) (λvs H Q E h=>?_) (λcdv A outer s H vs Q E hr h=>?_)
 ·first
  | (obtain⟨_,_,_,_,_,_,_,_,rfl,_⟩:=h;rfl)
 obtain⟨p,dx,b3,w1,w2,w4,dvs,deeds,rfl,hp,hb3,hD,hl,q⟩:=h
 refine⟨_,(zah (zaq (zba rfl (COk.m (sc0:=zaf zcZ) (N:=["craft"]) (N':=["craft","deed"]) (ms:=[false,true])) (zbj K (zax K (pv 0) rfl)) (λ_ _ _ _ _=>(zay (i:=1) (ndS (N:=["craft","deed"])) rfl (Or.inl rfl))) (λ_ _ _ _ _=>(znY (zaA (k_eq K hr) (zau (k_ix K) (pv 1) zae (λ_ _=>rfl)) zbh (zaw _)))) (λ_ _ _ _ _=>(zau (k_ix K) (pv 1) zae (λ_ _=>rfl)))))),?_⟩
 have ld:=hD.1
 ac_rfl
 refine⟨p,(C 0),dx,_,_,rfl,hp,Z.c_Craft,Z.n_Craft_deeds,zbM _ _ _ _,?_⟩
 refine⟨b3,rfl,⟨_,SqL.of hb3⟩,?_⟩
 refine zmR (zaX (SqL.of hb3)) (zdx deeds) (zf8 deeds) (zao (by omega)) (λi x H1 R1 R2' hi s1 hx hy hn=>?_) (λv H1 s1 n1=>?_)
 ·have hi':i<deeds.length:=by omega
  have drx:=(hD.2 i deeds[i] x (by simp) hx).sq s1.sq
  have ek:zdx deeds i=(zdA deeds[i]).isSome:=by unfold zdx;simp[hi']
  have en:zf8 deeds i=.int ((zdA deeds[i]).getD 0):=by unfold zf8;simp[hi']
  generalize deeds[i]=d at drx ek en
  obtain⟨t,xs,rfl,ht⟩:=znd drx
  nofun
  refine zaJ (SqT.of ht) zbu ?_
  nofun
  have ew:decide (zc9 d ="call")=zdx deeds i:=by
   rw[ek]
   cases d <;> first | rfl | (unfold zc9 zdA;decide +kernel)
  rw[ew]
  cases hk:zdx deeds i with
  | false=>
   rw[if_neg (by decide)]
   exact hn hk _ (Same.refl _)
  | true=>
   rw[if_pos rfl]
   rw[hk] at ek
   cases d with
   | call m g0 g1 t0 t1=>
    obtain⟨t',ys,et,hT2,px⟩:=zbl drx
    cases et
    obtain⟨x0,r,rfl,e0,px⟩:=zak px
    obtain⟨x1,r,rfl,e1,px⟩:=zak px
    cases zbq e1
    nofun
    refine zaJ (SqT.of hT2) (v:=.int m) (zaB (j:=1) rfl) ?_
    refine hy hk _ _ (Same.refl _) ?_
    rw[en]
    exact New.int
   | _=>cases ek
 ·ac_rfl
  rw[znv deeds _ ld.symm] at n1
  exact q _ _ s1 n1
inductive Q26 (K:Fg)(vs:List V)(H:Hp)(Q:VK)(E:XK):Prop
 | mk (a b c:Int):vs=[.int a,.int b,.int c]->Q (.bl (decide (a<=b) && decide (b<=c))) H->Q26 K vs H Q E
theorem zdc{a b c:Int}(q:Q (.bl (decide (a<=b) && decide (b<=c))) H):Q26 K [.int a,.int b,.int c] H Q E:=⟨a,b,c,rfl,q⟩
include B Z in
theorem zlW (F:Fun K "between" "between" zfd f fd)(m:mg "between"=some (.ref f)):Fn P w K mg b8 "between" ["low","number","high"] 1 (Q26 K):=by
 refine Fn.of (k:=0) F zlV m (λ_ _ _ _ _ _ us hl=>(by obtain⟨_,_,_,rfl⟩:=len3 hl;rfl)) (λvs H Q E h=>?_) (λcdv A outer s H vs Q E hr h=>?_)
 ·first
  | (obtain⟨_,_,_,rfl,_⟩:=h;rfl)
 obtain⟨a,b,c,rfl,q⟩:=h
 refine⟨_,(zah (zaq (znK zlu zlu (pv 0) (pv 1) (pv 2)))),?_⟩
 ac_rfl
 cases h:decide (a<=b) with
 | false=>rw[h] at q;ac_rfl;exact q
 | true=>rw[h] at q;ac_rfl;exact q
def zco (K:Fg):Sp:=λvs H Q _=>∃ n:Int,vs=[.int n]/\Q (.bl (zeU n)) H
theorem zkE(q:Q (.bl (zeU n)) H):zco K [.int n] H Q E:=⟨n,rfl,q⟩
include B Z in
theorem zhm (Q27:Fn P w K mg b8 "between" ["low","number","high"] 1 (Q26 K))(F:Fun K "small_enough" "small_enough" zcx f fd)(m:mg "small_enough"=some (.ref f)):Fn P w K mg b8 "small_enough" ["number"] 2 (zco K):=by
 refine Fn.of (k:=1) F zhe m (λ_ _ _ _ _ _ us hl=>(by obtain⟨_,rfl⟩:=len1 hl;rfl)) (λvs H Q E h=>?_) (λcdv A outer s H vs Q E hr h=>?_)
 ·first
  | (obtain⟨_,rfl,_⟩:=h;rfl)
 obtain⟨n,rfl,q⟩:=h
 refine⟨_,(zah (zaq (zap Q27 hr rfl (zkh (zde zbP (za4 rfl B.c_GREATEST)) (zac (pv 0) (zac (za4 rfl B.c_GREATEST) zab)))))),?_⟩
 ac_rfl
 refine zdc ?_
 exact q
inductive Q1a (K:Fg)(vs:List V)(H:Hp)(Q:VK)(E:XK):Prop
 | mk (a t:Addr) (l:List Int) (spots:List Nat):vs=[.ref a,.ref t]->SqL K H a (l.map V.int)->SqT K H t (spots.map λ(s:Nat)=>V.int (s:Int))->l.length=9->spots.length<=9->(∀ s∈spots,s<9)->(∀ H',Same H H'->Q (.bl (zes spots l)) H')->Q1a K vs H Q E
include B Z in
theorem ziI (Q25:Fn P w K mg b8 "small_enough" ["number"] 2 (zco K))(F:Fun K "line_right" "line_right" zb3 f fd)(m:mg "line_right"=some (.ref f)):Fn P w K mg b8 "line_right" ["line","nought_spots"] 3 (Q1a K):=by
 refine Fn.of (k:=2) F zfw m (λ_ _ _ _ _ _ us hl=>(by obtain⟨_,_,rfl⟩:=len2 hl;rfl)) (λvs H Q E h=>?_) (λcdv A outer s H vs Q E hr h=>?_)
 ·first
  | (obtain⟨_,_,_,_,rfl,_⟩:=h;rfl)
 obtain⟨a,t,l,spots,rfl,hA,hT,l9,ls9,hs,q⟩:=h
 refine⟨_,(zag (zat (i:=2) zfw.nd rfl (Or.inl rfl) (zav (zjf K rfl) rfl B.all L2.zdr (zc6 (zba rfl (COk.m (sc0:=zaf zb3) (N:=["line","nought_spots","small"]) (N':=["line","nought_spots","small","number"]) (ms:=[false,false,false,true])) (zbj K (pv 0)) (λ_ _ _ _ _=>(zay (i:=3) (ndS (N:=["line","nought_spots","small","number"])) rfl (Or.inl rfl))) (λ_ _ _ _ _=>zaP) (λ_ _ _ _ _=>(zap Q25 hr rfl (zac (pv 3) zab)))) zab)))
   (zah (zaq (zbO (pv 2) (zcq (zav (zjf K rfl) rfl B.all L2.zdr (zc6 (zba rfl (COk.m (sc0:=zaf zb3) (N:=["line","nought_spots","small"]) (N':=["line","nought_spots","small","spot"]) (ms:=[false,false,false,true])) (zjg K (pv 1)) (λ_ _ _ _ _=>(zay (i:=3) (ndS (N:=["line","nought_spots","small","spot"])) rfl (Or.inl rfl))) (λ_ _ _ _ _=>zaP) (λ_ _ _ _ _=>(zbt (k_eq K hr) (zau (k_ix K) (pv 0) (pv 3) (λ_ _=>rfl)) zae (zaw _)))) zab))))))),?_⟩
 unfold zes at q
 ac_rfl
 refine⟨a,rfl,⟨_,hA⟩,?_⟩
 refine zaY (zaX hA) ((l.map zeU).map D.bl) (by simp) (zao (by simp;omega)) (λk x d H1 R hk hd s1 hx hR=>?_) (λv H1 s1 n1=>?_)
 ·rw[zgm] at hx
  obtain⟨y,hy,rfl⟩:=zme.mp hx
  rw[zgm,zgm,hy] at hd
  cases hd
  ac_rfl
  refine zkE ?_
  exact hR _ _ (Same.refl _) New.bl
 obtain⟨la,rfl,la0,la1⟩:=New.bls n1
 ac_rfl
 refine zje (SqL.of la1) ?_
 ac_rfl
 refine zeQ (λe=>?_) (λe=>by have q1:=q _ s1;rw[e] at q1;exact q1)
 rw[e,Bool.true_and] at q
 ac_rfl
 refine⟨t,rfl,⟨_,s1.tup hT⟩,?_⟩
 refine zaY (zfm (s1.tup hT)) ((spots.map λs=>decide (l.getD s 0=0)).map D.bl) (by simp) (zao (by simp;omega)) (λk x d H2 R hk hd s2 hx hR=>?_) (λv H2 s2 n2=>?_)
 ·rw[zgm] at hx
  obtain⟨sp,hsp,rfl⟩:=zme.mp hx
  rw[zgm,zgm,hsp] at hd
  cases hd
  have sl:sp<l.length:=by have:=hs sp (zmg hsp);omega
  ac_rfl
  refine zcf ((s1.trans s2).seq hA) (v:=.int (l.getD sp 0)) (zaB (by simp[sl])) ?_
  ac_rfl
  exact hR _ _ (Same.refl _) New.bl
 obtain⟨lb,rfl,lb0,lb1⟩:=New.bls n2
 ac_rfl
 refine zje (SqL.of lb1) ?_
 exact q _ (s1.trans s2)
inductive Q18 (K:Fg)(vs:List V)(H:Hp)(Q:VK)(E:XK):Prop
 | mk (a t:Addr) (ls:List (List Int)) (spots:List Nat):vs=[.ref a,.ref t]->Rep K H (zaz ls) (.ref a)->SqT K H t (spots.map λ(s:Nat)=>V.int (s:Int))->ls.length<=1000->(∀ l∈ls,l.length=9)->spots.length<=9->(∀ s∈spots,s<9)->(∀ H',Same H H'->Q (.bl (zdz spots ls)) H')->Q18 K vs H Q E
include B Z in
theorem zhD (Q1b:Fn P w K mg b8 "line_right" ["line","nought_spots"] 3 (Q1a K))(F:Fun K "lines_right" "lines_right" zb8 f fd)(m:mg "lines_right"=some (.ref f)):Fn P w K mg b8 "lines_right" ["lines","nought_spots"] 4 (Q18 K):=by
 refine Fn.of (k:=3) F zhA m (λ_ _ _ _ _ _ us hl=>(by obtain⟨_,_,rfl⟩:=len2 hl;rfl)) (λvs H Q E h=>?_) (λcdv A outer s H vs Q E hr h=>?_)
 ·first
  | (obtain⟨_,_,_,_,rfl,_⟩:=h;rfl)
 obtain⟨a,t,ls,spots,rfl,hA,hT,l1000,h9,ls9,hs,q⟩:=h
 refine⟨_,(zah (zaq (zbO (zbt zlu (zav (zd0 K) rfl B.len L2.boot_len (zac (pv 0) zab)) (za4 rfl B.c_MOST_LINES) (zaw _)) (zcq (zav (zjf K rfl) rfl B.all L2.zdr (zc6 (zba rfl (COk.m (sc0:=zaf zb8) (N:=["lines","nought_spots"]) (N':=["lines","nought_spots","line"]) (ms:=[false,false,true])) (zbj K (pv 0)) (λ_ _ _ _ _=>(zay (i:=2) (ndS (N:=["lines","nought_spots","line"])) rfl (Or.inl rfl))) (λ_ _ _ _ _=>zaP) (λ_ _ _ _ _=>(zap Q1b hr rfl (zac (pv 2) (zac (pv 1) zab))))) zab)))))),?_⟩
 unfold zaz Rep at hA
 obtain⟨a',xs,e,hA,hx⟩:=hA
 cases e
 have lx:=hx.length
 rw[zlm] at lx
 unfold zdz at q
 ac_rfl
 refine zep (.inl hA) ?_
 ac_rfl
 rw[<-lx]
 refine zeQ (λe=>?_) (λe=>by have q1:=q _ (Same.refl _);rw[e] at q1;exact q1)
 rw[e,Bool.true_and] at q
 ac_rfl
 refine⟨a,rfl,⟨_,hA⟩,?_⟩
 refine zaY (zaX hA) ((ls.map (zes spots)).map D.bl) (by simp;omega) (zao (by omega)) (λk x d H1 R hk hd s1 hx' hR=>?_) (λv H1 s1 n1=>?_)
 ·obtain⟨d2,hd2,hrx⟩:=Reps.get' hx hx'
  rw[zgm] at hd2
  obtain⟨l,hl,rfl⟩:=zme.mp hd2
  rw[zgm,zgm,hl] at hd
  cases hd
  obtain⟨xa,rfl,hxa⟩:=za8.mp (Rep.same s1 _ hrx)
  ac_rfl
  refine⟨xa,t,l,spots,rfl,hxa,s1.tup hT,h9 l (zmg hl),ls9,hs,λH2 s2=>?_⟩
  exact hR _ _ s2 New.bl
 obtain⟨la,rfl,la0,la1⟩:=New.bls n1
 ac_rfl
 refine zje (SqL.of la1) ?_
 exact q _ s1
inductive Q12 (K:Fg)(C:Nat->Addr)(vs:List V)(H:Hp)(Q:VK)(E:XK):Prop
 | mk (p:Addr) (needs leaves:List (List Int)) (ds:List D) (notes:List (List (List Int))):vs=[.ref p]->zbx K (C 0) H p needs leaves ds notes->needs.length<=1000->leaves.length<=1000->(∀ l∈needs,l.length=9)->(∀ l∈leaves,l.length=9)->(∀ H',Same H H'->Q (.bl (zg1 needs leaves)) H')->Q12 K C vs H Q E
include B Z in
theorem ziJ (Q19:Fn P w K mg b8 "lines_right" ["lines","nought_spots"] 4 (Q18 K))(F:Fun K "oath_right" "oath_right" zdg f fd)(m:mg "oath_right"=some (.ref f)):Fn P w K mg b8 "oath_right" ["craft"] 5 (Q12 K C):=by
 refine Fn.of (k:=4) F zfv m (λ_ _ _ _ _ _ us hl=>(by obtain⟨_,rfl⟩:=len1 hl;rfl)) (λvs H Q E h=>?_) (λcdv A outer s H vs Q E hr h=>?_)
 ·first
  | (obtain⟨_,_,_,_,_,rfl,_⟩:=h;rfl)
 obtain⟨p,needs,leaves,ds,notes,rfl,hC,ln,ll,h9n,h9l,q⟩:=h
 obtain⟨gl,g_LEFT_SPOTS,hL⟩:=B.t_LEFT_SPOTS
 obtain⟨gh,g_HAND_SPOTS,hH⟩:=B.t_HAND_SPOTS
 have sp9:∀ s∈([1,2,3,4,7,8]:List Nat),s<9:=by decide
 have sp4:∀ s∈([1,2,3,4]:List Nat),s<9:=by decide
 refine⟨_,(zag (zat (i:=1) zfv.nd rfl (Or.inl rfl) (zap Q19 hr rfl (za5 (zax K (pv 0) rfl) (zcF (zaW (zaS K) (zb2 rfl g_HAND_SPOTS) (zb2 rfl g_LEFT_SPOTS)) zab))))
   (zah (zaq (zbO (pv 1) (zcq (zap Q19 hr rfl (za5 (zax K (pv 0) rfl) (zac (zb2 rfl g_HAND_SPOTS) zab)))))))),?_⟩
 obtain⟨dx,w1,w2,w3,w4,hp,r1,r2,r3,r4⟩:=hC
 obtain⟨b1,rfl⟩:∃ b,w1=.ref b:=by unfold zaz Rep at r1;obtain⟨a,_,e,_⟩:=r1;exact⟨a,e⟩
 obtain⟨b2,rfl⟩:∃ b,w2=.ref b:=by unfold zaz Rep at r2;obtain⟨a,_,e,_⟩:=r2;exact⟨a,e⟩
 unfold zg1 at q
 ac_rfl
 refine⟨p,(C 0),dx,_,_,rfl,hp,Z.c_Craft,Z.n_Craft_needs,zcC _ _ _ _,?_⟩
 ac_rfl
 refine zrs (hH _) (hL _) (by simp) (by simp) ((by walk_at "sm")) λt t0=>?_
 have s0:=zad t0 (.tup ([V.int 1,.int 2,.int 3,.int 4]++[V.int 7,.int 8]))
 ac_rfl
 refine⟨b1,t,needs,[1,2,3,4,7,8],rfl,Rep.same s0 _ r1,.inl (.inl zaa),ln,h9n,by decide,sp9,λH1 s1=>?_⟩
 have s2:=s0.trans s1
 ac_rfl
 refine zeQ (λe=>?_) (λe=>by have q1:=q _ s2;rw[e] at q1;exact q1)
 rw[e,Bool.true_and] at q
 ac_rfl
 refine⟨p,(C 0),dx,_,_,rfl,s2 _ _ hp,Z.c_Craft,Z.n_Craft_leaves,zck _ _ _ _,?_⟩
 ac_rfl
 exact⟨b2,gh,leaves,[1,2,3,4],rfl,Rep.same s2 _ r2,hH _,ll,h9l,by decide,sp4,λH3 s3=>q _ (s2.trans s3)⟩
def zcY (K:Fg):Sp:=λvs H Q _=>∃ n:Int,vs=[.int n]/\Q (.bl (zcj n)) H
theorem zlo(q:Q (.bl (zcj n)) H):zcY K [.int n] H Q E:=⟨n,rfl,q⟩
include B Z in
theorem ziK (Q27:Fn P w K mg b8 "between" ["low","number","high"] 1 (Q26 K))(F:Fun K "hand_right" "hand_right" zdj f fd)(m:mg "hand_right"=some (.ref f)):Fn P w K mg b8 "hand_right" ["hand"] 2 (zcY K):=by
 refine Fn.of (k:=1) F ziE m (λ_ _ _ _ _ _ us hl=>(by obtain⟨_,rfl⟩:=len1 hl;rfl)) (λvs H Q E h=>?_) (λcdv A outer s H vs Q E hr h=>?_)
 ·first
  | (obtain⟨_,rfl,_⟩:=h;rfl)
 obtain⟨n,rfl,q⟩:=h
 refine⟨_,(zah (zaq (zap Q27 hr rfl (zam zae (zac (pv 0) (zac (za4 rfl B.c_LAST_HAND) zab)))))),?_⟩
 ac_rfl
 refine zdc ?_
 exact q
inductive Q22 (K:Fg)(vs:List V)(H:Hp)(Q:VK)(E:XK):Prop
 | mk (a:Addr) (i j:Int):vs=[.ref a]->SqT K H a [.int i,.int j]->(∀ H',Same H H'->Q (.bl ([zcj i,zcj j].all id)) H')->Q22 K vs H Q E
include B Z in
theorem zfF (Q24:Fn P w K mg b8 "hand_right" ["hand"] 2 (zcY K))(F:Fun K "two_hands_right" "two_hands_right" zbs f fd)(m:mg "two_hands_right"=some (.ref f)):Fn P w K mg b8 "two_hands_right" ["hands"] 3 (Q22 K):=by
 refine Fn.of (k:=2) F zfz m (λ_ _ _ _ _ _ us hl=>(by obtain⟨_,rfl⟩:=len1 hl;rfl)) (λvs H Q E h=>?_) (λcdv A outer s H vs Q E hr h=>?_)
 ·first
  | (obtain⟨_,_,_,rfl,_⟩:=h;rfl)
 obtain⟨a,i,j,rfl,hA,q⟩:=h
 refine⟨_,(zah (zaq (zbO (zbt (k_eq K hr) (zav (zd0 K) rfl B.len L2.boot_len (zac (pv 0) zab)) zae (zaw _)) (zcq (zav (zjf K rfl) rfl B.all L2.zdr (zc6 (zba rfl (COk.m (sc0:=zaf zbs) (N:=["hands"]) (N':=["hands","hand"]) (ms:=[false,true])) (zjg K (pv 0)) (λ_ _ _ _ _=>(zay (i:=1) (ndS (N:=["hands","hand"])) rfl (Or.inl rfl))) (λ_ _ _ _ _=>zaP) (λ_ _ _ _ _=>(zap Q24 hr rfl (zac (pv 1) zab)))) zab)))))),?_⟩
 ac_rfl
 refine zep (.inr hA) ?_
 ac_rfl
 rw[show decide ((([V.int i,.int j].length:Nat):Int)=2)=true from rfl]
 ac_rfl
 refine⟨a,rfl,⟨_,hA⟩,?_⟩
 refine zaY (zfm hA) ([zcj i,zcj j].map D.bl) rfl ((by walk_at "sm")) (λk x d H1 R hk hd s1 hx hR=>?_) (λv H1 s1 n1=>?_)
 ·have hx':([i,j].map V.int)[k]?=some x:=hx
  have hd':([i,j].map λz=>D.bl (zcj z))[k]?=some d:=hd
  rw[zgm] at hx' hd'
  obtain⟨y,hy,rfl⟩:=zme.mp hx'
  rw[hy] at hd'
  cases hd'
  ac_rfl
  refine zlo ?_
  exact hR _ _ (Same.refl _) New.bl
 obtain⟨la,rfl,la0,la1⟩:=New.bls n1
 ac_rfl
 refine zje (SqL.of la1) ?_
 exact q _ s1
inductive Q20 (K:Fg)(vs:List V)(H:Hp)(Q:VK)(E:XK):Prop
 | mk (m:Int) (a b:Addr) (g0 g1 t0 t1:Int):vs=[.int m,.ref a,.ref b]->SqT K H a [.int g0,.int g1]->SqT K H b [.int t0,.int t1]->(∀ H',Same H H'->Q (.bl (([zcj g0,zcj g1].all id && [zcj t0,zcj t1].all id) && (btw 0 m 99 && !decide (t0=t1)))) H')->Q20 K vs H Q E
include B Z in
theorem ziL (Q23:Fn P w K mg b8 "two_hands_right" ["hands"] 3 (Q22 K))(Q27:Fn P w K mg b8 "between" ["low","number","high"] 1 (Q26 K))(F:Fun K "call_right" "call_right" zdi f fd)(m:mg "call_right"=some (.ref f)):Fn P w K mg b8 "call_right" ["number","given","taken"] 4 (Q20 K):=by
 refine Fn.of (k:=3) F zfy m (λ_ _ _ _ _ _ us hl=>(by obtain⟨_,_,_,rfl⟩:=len3 hl;rfl)) (λvs H Q E h=>?_) (λcdv A outer s H vs Q E hr h=>?_)
 ·first
  | (obtain⟨_,_,_,_,_,_,_,rfl,_⟩:=h;rfl)
 obtain⟨m,a,b,g0,g1,t0,t1,rfl,hA,hB,q⟩:=h
 refine⟨_,(zag (zat (i:=3) zfy.nd rfl (Or.inl rfl) (zbO (zap Q23 hr rfl (zac (pv 1) zab)) (zcq (zap Q23 hr rfl (zac (pv 2) zab)))))
   (zah (zaq (zbO (pv 3) (zbO (zap Q27 hr rfl (zam zae (zac (pv 0) (zac (za4 rfl B.c_LAST_NUMBER) zab)))) (zcq (zbt (k_ne K hr) (zau (k_ix K) (pv 2) zae (λ_ _=>rfl)) (zau (k_ix K) (pv 2) zae (λ_ _=>rfl)) (zaw _)))))))),?_⟩
 generalize eg:[zcj g0,zcj g1].all id=bg at q
 generalize et:[zcj t0,zcj t1].all id=bt at q
 ac_rfl
 refine⟨a,g0,g1,rfl,hA,λH1 s1=>?_⟩
 rw[eg]
 -- hands=.. and ..
 refine zdK (λe=>?_) (λe=>?_)
 ·subst e
  ac_rfl
  refine⟨b,t0,t1,rfl,s1.tup hB,λH2 s2=>?_⟩
  rw[et]
  ac_rfl
  have s3:=s1.trans s2
  rw[Bool.true_and] at q
  refine zeQ (λe=>?_) (λe=>by have q1:=q _ s3;rw[e] at q1;exact q1)
  rw[e,Bool.true_and] at q
  ac_rfl
  refine zdc ?_
  refine zdK (λe=>?_) (λe=>by have q1:=q _ s3;unfold btw at q1;rw[e] at q1;exact q1)
  unfold btw at q
  rw[e,Bool.true_and] at q
  ac_rfl
  refine zaJ (s3.tup hB) (v:=.int t0) rfl ?_
  ac_rfl
  refine zaJ (s3.tup hB) (v:=.int t1) rfl ?_
  ac_rfl
  exact q _ s3
 ·subst e
  ac_rfl
  exact q _ s1
inductive Q1e (K:Fg)(vs:List V)(H:Hp)(Q:VK)(E:XK):Prop
 | mk (lo hi:Int):vs=[.int lo,.int hi]->Q (.bl (zeU lo && (zeU hi && decide (lo<=hi)))) H->Q1e K vs H Q E
include B Z in
theorem zhE (Q25:Fn P w K mg b8 "small_enough" ["number"] 2 (zco K))(F:Fun K "range_right" "range_right" zcN f fd)(m:mg "range_right"=some (.ref f)):Fn P w K mg b8 "range_right" ["low","high"] 3 (Q1e K):=by
 refine Fn.of (k:=2) F zhB m (λ_ _ _ _ _ _ us hl=>(by obtain⟨_,_,rfl⟩:=len2 hl;rfl)) (λvs H Q E h=>?_) (λcdv A outer s H vs Q E hr h=>?_)
 ·first
  | (obtain⟨_,_,rfl,_⟩:=h;rfl)
 obtain⟨lo,hi,rfl,q⟩:=h
 refine⟨_,(zah (zaq (zbO (zap Q25 hr rfl (zac (pv 0) zab)) (zbO (zap Q25 hr rfl (zac (pv 1) zab)) (zcq (zbt zlu (pv 0) (pv 1) (zaw _))))))),?_⟩
 ac_rfl
 refine zkE ?_
 refine zdK (λe=>?_) (λe=>by rw[e] at q;exact q)
 rw[e,Bool.true_and] at q
 ac_rfl
 refine zkE ?_
 refine zdK (λe=>?_) (λe=>by rw[e] at q;exact q)
 rw[e,Bool.true_and] at q
 ac_rfl
 exact q
inductive Q1c (K:Fg)(vs:List V)(H:Hp)(Q:VK)(E:XK):Prop
 | mk (v:V) (n:Int) (d:Dd):vs=[v,.int n]->Rep K H (toD d) v->zg0 d->(∀ H',Same H H'->Q (.bl (zbF n d)) H')->Q1c K vs H Q E
theorem zaN{d:D}{ds:List D}(h:Reps K H (d::ds) xs):∃ v r,xs=v::r/\Rep K H d v/\Reps K H ds r:=by unfold Reps at h;exact h
theorem zd7(h:Reps K H [] xs):xs=[]:=by unfold Reps at h;exact h
theorem zdG(h:Rep K H (.int i) v):v=.int i:=by unfold Rep at h;exact h
theorem zfV{i:Str}(h:Rep K H (.str i) v):v=.str i:=by unfold Rep at h;exact h
theorem zlp{j:Int}(h:Rep K H (.tup [.int i,.int j]) v):∃ a,v=.ref a/\SqT K H a [.int i,.int j]:=by
 obtain⟨a,xs,rfl,h1,h2⟩:=zeq h
 obtain⟨v1,r1,rfl,e1,h2⟩:=zaN h2
 obtain⟨v2,r2,rfl,e2,h2⟩:=zaN h2
 cases zd7 h2;cases zdG e1;cases zdG e2
 exact⟨a,rfl,h1⟩
theorem zqj:decide (("part" : Str) ="set")=false:=by decide +kernel
theorem znw:decide (("draw" : Str) ="set")=false/\decide (("draw" : Str) ="part")=false:=by decide +kernel
theorem zkF:decide (("turn" : Str) ="set")=false/\decide (("turn" : Str) ="part")=false/\decide (("turn" : Str) ="draw")=false:=by decide +kernel
theorem ziM:decide (("hold" : Str) ="set")=false/\decide (("hold" : Str) ="part")=false/\decide (("hold" : Str) ="draw")=false/\decide (("hold" : Str) ="turn")=false:=by decide +kernel
theorem zhn:decide (("call" : Str) ="set")=false/\decide (("call" : Str) ="part")=false/\decide (("call" : Str) ="draw")=false/\decide (("call" : Str) ="turn")=false/\decide (("call" : Str) ="hold")=false:=by decide +kernel
include B Z in
theorem ziN (Q21:Fn P w K mg b8 "call_right" ["number","given","taken"] 4 (Q20 K))(Q1b:Fn P w K mg b8 "line_right" ["line","nought_spots"] 3 (Q1a K))(Q24:Fn P w K mg b8 "hand_right" ["hand"] 2 (zcY K))(Q27:Fn P w K mg b8 "between" ["low","number","high"] 1 (Q26 K))(Q1f:Fn P w K mg b8 "range_right" ["low","high"] 3 (Q1e K))(F:Fun K "deed_right" "deed_right" zdh f fd)(m:mg "deed_right"=some (.ref f)):Fn P w K mg b8 "deed_right" ["deed","last_place"] 5 (Q1c K):=by
 refine Fn.of (k:=4) F zfx m (λ_ _ _ _ _ _ us hl=>(by obtain⟨_,_,rfl⟩:=len2 hl;rfl)) (λvs H Q E h=>?_) (λcdv A outer s H vs Q E hr h=>?_)
 ·first
  | (obtain⟨_,_,_,rfl,_⟩:=h;rfl)
 obtain⟨v,n,d,rfl,hR,h9,q⟩:=h
 obtain⟨gl,g_LEFT_SPOTS,hL⟩:=B.t_LEFT_SPOTS
 refine⟨_,(zag (zat (i:=2) zfx.nd rfl (Or.inl rfl) (zau (k_ix K) (pv 0) zae (λ_ _=>rfl)))
   (zag (zbd (zaA (k_eq K hr) (pv 2) zbh (zaw _)) (zah (zaq (zbO (zap Q24 hr rfl (zaD (zau (k_ix K) (pv 0) zae (λ_ _=>rfl)) zab)) (zcq (zap Q1b hr rfl (zaD (zau (k_ix K) (pv 0) zae (λ_ _=>rfl)) (zac (zb2 rfl g_LEFT_SPOTS) zab))))))) zaE)
   (zag (zbd (zaA (k_eq K hr) (pv 2) zbh (zaw _)) (zah (zaq (zbO (zap Q24 hr rfl (zaD (zau (k_ix K) (pv 0) zae (λ_ _=>rfl)) zab)) (zbO (zap Q1b hr rfl (zaD (zau (k_ix K) (pv 0) zae (λ_ _=>rfl)) (zac (zb2 rfl g_LEFT_SPOTS) zab))) (zcq (zap Q27 hr rfl (zam zae (zaD (zau (k_ix K) (pv 0) zae (λ_ _=>rfl)) (zac (za4 rfl B.c_GREATEST_BY) zab))))))))) zaE)
   (zag (zbd (zaA (k_eq K hr) (pv 2) zbh (zaw _)) (zah (zaq (zbO (zap Q24 hr rfl (zaD (zau (k_ix K) (pv 0) zae (λ_ _=>rfl)) zab)) (zcq (zap Q1f hr rfl (zaD (zau (k_ix K) (pv 0) zae (λ_ _=>rfl)) (zaD (zau (k_ix K) (pv 0) zae (λ_ _=>rfl)) zab))))))) zaE)
   (zag (zbd (zaA (k_eq K hr) (pv 2) zbh (zaw _)) (zah (zaq (zbO (zap Q1b hr rfl (zaD (zau (k_ix K) (pv 0) zae (λ_ _=>rfl)) (zac (zb2 rfl g_LEFT_SPOTS) zab))) (zcq (zap Q27 hr rfl (zam zae (zaD (zau (k_ix K) (pv 0) zae (λ_ _=>rfl)) (zac (pv 1) zab)))))))) zaE)
   (zag (zbd (zaA (k_eq K hr) (pv 2) zbh (zaw _)) (zah (zaq (zap Q1b hr rfl (zaD (zau (k_ix K) (pv 0) zae (λ_ _=>rfl)) (zac (zb2 rfl g_LEFT_SPOTS) zab))))) zaE)
   (zah (zaq (zap Q21 hr rfl (zaD (zau (k_ix K) (pv 0) zae (λ_ _=>rfl)) (zaD (zau (k_ix K) (pv 0) zae (λ_ _=>rfl)) (zaD (zau (k_ix K) (pv 0) zae (λ_ _=>rfl)) zab)))))))))))),?_⟩
 have sp9:∀ s∈([7,8]:List Nat),s<9:=by decide
 cases d with
 | set hd l=>
  obtain⟨a,xs,rfl,hA,hx⟩:=zeq hR
  obtain⟨v1,r1,rfl,e1,hx⟩:=zaN hx
  obtain⟨v2,r2,rfl,e2,hx⟩:=zaN hx
  obtain⟨v3,r3,rfl,e3,hx⟩:=zaN hx
  cases zd7 hx;cases zfV e1;cases zdG e2
  obtain⟨la,rfl,hla⟩:=za8.mp e3
  ac_rfl
  refine zaJ hA (v:=.str "set") rfl ?_
  ac_rfl
  rw[decide_eq_true rfl]
  ac_rfl
  refine zaJ hA (v:=.int hd) rfl ?_
  ac_rfl
  refine zlo ?_
  show ∃ c,V.bl (zcj hd)=.bl c/\_
  simp only[zbF] at q
  refine zdK (λe=>?_) (λe=>by have q1:=q _ (Same.refl _);rw[e] at q1;exact q1)
  rw[e,Bool.true_and] at q
  ac_rfl
  refine zaJ hA (v:=.ref la) rfl ?_
  ac_rfl
  exact⟨la,gl,l,[7,8],rfl,hla,hL _,h9,by decide,sp9,λH1 s1=>q _ s1⟩
 | part hd l b=>
  obtain⟨a,xs,rfl,hA,hx⟩:=zeq hR
  obtain⟨v1,r1,rfl,e1,hx⟩:=zaN hx
  obtain⟨v2,r2,rfl,e2,hx⟩:=zaN hx
  obtain⟨v3,r3,rfl,e3,hx⟩:=zaN hx
  obtain⟨v4,r4,rfl,e4,hx⟩:=zaN hx
  cases zd7 hx;cases zfV e1;cases zdG e2;cases zdG e4
  obtain⟨la,rfl,hla⟩:=za8.mp e3
  ac_rfl
  refine zaJ hA (v:=.str "part") rfl ?_
  ac_rfl
  rw[zqj]
  ac_rfl
  rw[decide_eq_true rfl]
  ac_rfl
  refine zaJ hA (v:=.int hd) rfl ?_
  ac_rfl
  refine zlo ?_
  show ∃ c,V.bl (zcj hd)=.bl c/\_
  simp only[zbF] at q
  refine zdK (λe=>?_) (λe=>by have q1:=q _ (Same.refl _);rw[e] at q1;exact q1)
  rw[e,Bool.true_and] at q
  ac_rfl
  refine zaJ hA (v:=.ref la) rfl ?_
  ac_rfl
  refine⟨la,gl,l,[7,8],rfl,hla,hL _,h9,by decide,sp9,λH1 s1=>?_⟩
  refine zdK (λe=>?_) (λe=>by have q1:=q _ s1;rw[e] at q1;exact q1)
  rw[e,Bool.true_and] at q
  ac_rfl
  refine zaJ (s1.tup hA) (v:=.int b) rfl ?_
  ac_rfl
  refine zdc ?_
  exact q _ s1
 | draw hd lo hi=>
  obtain⟨a,xs,rfl,hA,hx⟩:=zeq hR
  obtain⟨v1,r1,rfl,e1,hx⟩:=zaN hx
  obtain⟨v2,r2,rfl,e2,hx⟩:=zaN hx
  obtain⟨v3,r3,rfl,e3,hx⟩:=zaN hx
  obtain⟨v4,r4,rfl,e4,hx⟩:=zaN hx
  cases zd7 hx;cases zfV e1;cases zdG e2;cases zdG e3;cases zdG e4
  ac_rfl
  refine zaJ hA (v:=.str "draw") rfl ?_
  ac_rfl
  rw[znw.1]
  ac_rfl
  rw[znw.2]
  ac_rfl
  rw[decide_eq_true rfl]
  ac_rfl
  refine zaJ hA (v:=.int hd) rfl ?_
  ac_rfl
  refine zlo ?_
  show ∃ c,V.bl (zcj hd)=.bl c/\_
  simp only[zbF] at q
  refine zdK (λe=>?_) (λe=>by have q1:=q _ (Same.refl _);rw[e] at q1;exact q1)
  rw[e,Bool.true_and] at q
  ac_rfl
  refine zaJ hA (v:=.int lo) rfl ?_
  ac_rfl
  refine zaJ hA (v:=.int hi) rfl ?_
  ac_rfl
  exact⟨lo,hi,rfl,q _ (Same.refl _)⟩
 | turn l p=>
  obtain⟨a,xs,rfl,hA,hx⟩:=zeq hR
  obtain⟨v1,r1,rfl,e1,hx⟩:=zaN hx
  obtain⟨v2,r2,rfl,e2,hx⟩:=zaN hx
  obtain⟨v3,r3,rfl,e3,hx⟩:=zaN hx
  cases zd7 hx;cases zfV e1;cases zdG e3
  obtain⟨la,rfl,hla⟩:=za8.mp e2
  ac_rfl
  refine zaJ hA (v:=.str "turn") rfl ?_
  ac_rfl
  rw[zkF.1]
  ac_rfl
  rw[zkF.2.1]
  ac_rfl
  rw[zkF.2.2]
  ac_rfl
  rw[decide_eq_true rfl]
  ac_rfl
  refine zaJ hA (v:=.ref la) rfl ?_
  ac_rfl
  simp only[zbF] at q
  refine⟨la,gl,l,[7,8],rfl,hla,hL _,h9,by decide,sp9,λH1 s1=>?_⟩
  refine zdK (λe=>?_) (λe=>by have q1:=q _ s1;rw[e] at q1;exact q1)
  rw[e,Bool.true_and] at q
  ac_rfl
  refine zaJ (s1.tup hA) (v:=.int p) rfl ?_
  ac_rfl
  refine zdc ?_
  exact q _ s1
 | hold l=>
  obtain⟨a,xs,rfl,hA,hx⟩:=zeq hR
  obtain⟨v1,r1,rfl,e1,hx⟩:=zaN hx
  obtain⟨v2,r2,rfl,e2,hx⟩:=zaN hx
  cases zd7 hx;cases zfV e1
  obtain⟨la,rfl,hla⟩:=za8.mp e2
  ac_rfl
  refine zaJ hA (v:=.str "hold") rfl ?_
  ac_rfl
  rw[ziM.1]
  ac_rfl
  rw[ziM.2.1]
  ac_rfl
  rw[ziM.2.2.1]
  ac_rfl
  rw[ziM.2.2.2]
  ac_rfl
  rw[decide_eq_true rfl]
  ac_rfl
  refine zaJ hA (v:=.ref la) rfl ?_
  ac_rfl
  exact⟨la,gl,l,[7,8],rfl,hla,hL _,h9,by decide,sp9,λH1 s1=>q _ s1⟩
 | call m g0 g1 t0 t1=>
  obtain⟨a,xs,rfl,hA,hx⟩:=zeq hR
  obtain⟨v1,r1,rfl,e1,hx⟩:=zaN hx
  obtain⟨v2,r2,rfl,e2,hx⟩:=zaN hx
  obtain⟨v3,r3,rfl,e3,hx⟩:=zaN hx
  obtain⟨v4,r4,rfl,e4,hx⟩:=zaN hx
  cases zd7 hx;cases zfV e1;cases zdG e2
  obtain⟨ga,rfl,hga⟩:=zlp e3
  obtain⟨ta,rfl,hta⟩:=zlp e4
  ac_rfl
  refine zaJ hA (v:=.str "call") rfl ?_
  ac_rfl
  rw[zhn.1]
  ac_rfl
  rw[zhn.2.1]
  ac_rfl
  rw[zhn.2.2.1]
  ac_rfl
  rw[zhn.2.2.2.1]
  ac_rfl
  rw[zhn.2.2.2.2]
  ac_rfl
  refine zaJ hA (v:=.int m) rfl ?_
  ac_rfl
  refine zaJ hA (v:=.ref ga) rfl ?_
  ac_rfl
  refine zaJ hA (v:=.ref ta) rfl ?_
  ac_rfl
  exact⟨m,ga,ta,g0,g1,t0,t1,rfl,hga,hta,λH1 s1=>q _ s1⟩
inductive Q14 (K:Fg)(vs:List V)(H:Hp)(Q:VK)(E:XK):Prop
 | mk (a:Addr) (ds:List Dd):vs=[.ref a]->Rep K H (.lst (ds.map toD)) (.ref a)->ds.length<=1000->(∀ d∈ds,zg0 d)->(∀ H',Same H H'->Q (.bl (ze3 ds)) H')->Q14 K vs H Q E
include B Z in
theorem zhF (Q27:Fn P w K mg b8 "between" ["low","number","high"] 1 (Q26 K))(Q1d:Fn P w K mg b8 "deed_right" ["deed","last_place"] 5 (Q1c K))(F:Fun K "deeds_right" "deeds_right" zb6 f fd)(m:mg "deeds_right"=some (.ref f)):Fn P w K mg b8 "deeds_right" ["deeds"] 6 (Q14 K):=by
 refine Fn.of (k:=5) F zeV m (λ_ _ _ _ _ _ us hl=>(by obtain⟨_,rfl⟩:=len1 hl;rfl)) (λvs H Q E h=>?_) (λcdv A outer s H vs Q E hr h=>?_)
 ·first
  | (obtain⟨_,_,rfl,_⟩:=h;rfl)
 obtain⟨a,ds,rfl,hA,l1000,h9,q⟩:=h
 refine⟨_,(zag (zat (i:=1) zeV.nd rfl (Or.inr rfl) (zav (zd0 K) rfl B.len L2.boot_len (zac (pv 0) zab)))
   (zah (zaq (zbO (zap Q27 hr rfl (zam zae (zac (pv 1) (zac (za4 rfl B.c_MOST_DEEDS) zab)))) (zcq (zav (zjf K rfl) rfl B.all L2.zdr (zc6 (zba rfl (COk.m (sc0:=zaf zb6) (N:=["deeds","count"]) (N':=["deeds","count","deed"]) (ms:=[false,false,true])) (zbj K (pv 0)) (λ_ _ _ _ _=>(zay (i:=2) (ndS (N:=["deeds","count","deed"])) rfl (Or.inl rfl))) (λ_ _ _ _ _=>zaP) (λ_ _ _ _ _=>(zap Q1d hr rfl (zac (pv 2) (zac (pv 1) zab))))) zab))))))),?_⟩
 unfold Rep at hA
 obtain⟨a',xs,e,hA,hx⟩:=hA
 cases e
 have lx:=hx.length
 rw[zlm] at lx
 unfold ze3 btw at q
 ac_rfl
 refine zep (.inl hA) ?_
 rw[<-lx]
 ac_rfl
 refine zdc ?_
 refine zdK (λe=>?_) (λe=>by have q1:=q _ (Same.refl _);rw[e] at q1;exact q1)
 rw[e,Bool.true_and] at q
 ac_rfl
 refine⟨a,rfl,⟨_,hA⟩,?_⟩
 refine zaY (zaX hA) ((ds.map (zbF (ds.length:Int))).map D.bl) (by simp;omega) (zao (by omega)) (λk x d H1 R hk hd s1 hx' hR=>?_) (λv H1 s1 n1=>?_)
 ·obtain⟨d2,hd2,hrx⟩:=Reps.get' hx hx'
  rw[zgm] at hd2
  obtain⟨l,hl,rfl⟩:=zme.mp hd2
  rw[zgm,zgm,hl] at hd
  cases hd
  ac_rfl
  refine⟨_,_,l,rfl,Rep.same s1 _ hrx,h9 l (zmg hl),λH2 s2=>?_⟩
  exact hR _ _ s2 New.bl
 obtain⟨la,rfl,la0,la1⟩:=New.bls n1
 ac_rfl
 refine zje (SqL.of la1) ?_
 exact q _ s1
inductive Q16 (K:Fg)(C:Nat->Addr)(vs:List V)(H:Hp)(Q:VK)(E:XK):Prop
 | mk (p:Addr) (needs leaves:List (List Int)) (ds:List Dd) (notes:List (List (List Int))):vs=[.ref p]->zbx K (C 0) H p needs leaves (ds.map toD) notes->notes.length<=1000->(∀ ls∈notes,ls.length<=1000/\∀ l∈ls,l.length=9)->(∀ H',Same H H'->Q (.bl (ze4 ds notes)) H')->Q16 K C vs H Q E
include B Z in
theorem zhG (Q19:Fn P w K mg b8 "lines_right" ["lines","nought_spots"] 4 (Q18 K))(F:Fun K "notes_right" "notes_right" zb7 f fd)(m:mg "notes_right"=some (.ref f)):Fn P w K mg b8 "notes_right" ["craft"] 5 (Q16 K C):=by
 refine Fn.of (k:=4) F zeW m (λ_ _ _ _ _ _ us hl=>(by obtain⟨_,rfl⟩:=len1 hl;rfl)) (λvs H Q E h=>?_) (λcdv A outer s H vs Q E hr h=>?_)
 ·first
  | (obtain⟨_,_,_,_,_,rfl,_⟩:=h;rfl)
 obtain⟨p,needs,leaves,ds,notes,rfl,hC,l1000,h9,q⟩:=h
 obtain⟨gl,g_LEFT_SPOTS,hL⟩:=B.t_LEFT_SPOTS
 have sp9:∀ s∈([7,8]:List Nat),s<9:=by decide
 refine⟨_,(zag (zat (i:=1) zeW.nd rfl (Or.inl rfl) (zbt (k_eq K hr) (zav (zd0 K) rfl B.len L2.boot_len (za5 (zax K (pv 0) rfl) zab)) (zav (zd0 K) rfl B.len L2.boot_len (za5 (zax K (pv 0) rfl) zab)) (zaw _)))
   (zah (zaq (zbO (pv 1) (zcq (zav (zjf K rfl) rfl B.all L2.zdr (zc6 (zba rfl (COk.m (sc0:=zaf zb7) (N:=["craft","as_many"]) (N':=["craft","as_many","lines"]) (ms:=[false,false,true])) (zbj K (zax K (pv 0) rfl)) (λ_ _ _ _ _=>(zay (i:=2) (ndS (N:=["craft","as_many","lines"])) rfl (Or.inl rfl))) (λ_ _ _ _ _=>zaP) (λ_ _ _ _ _=>(zap Q19 hr rfl (zac (pv 2) (zac (zb2 rfl g_LEFT_SPOTS) zab))))) zab))))))),?_⟩
 obtain⟨dx,w1,w2,w3,w4,hp,r1,r2,r3,r4⟩:=hC
 unfold Rep at r3 r4
 obtain⟨b3,xs3,rfl,q3,z3⟩:=r3
 obtain⟨b4,xs4,rfl,q4,z4⟩:=r4
 have m3:=z3.length
 have m4:=z4.length
 rw[zlm] at m3 m4
 unfold ze4 at q
 ac_rfl
 refine⟨p,(C 0),dx,_,_,rfl,hp,Z.c_Craft,Z.n_Craft_notes,zdv _ _ _ _,?_⟩
 ac_rfl
 refine zep (.inl q4) ?_
 ac_rfl
 refine⟨p,(C 0),dx,_,_,rfl,hp,Z.c_Craft,Z.n_Craft_deeds,zbM _ _ _ _,?_⟩
 ac_rfl
 refine zep (.inl q3) ?_
 rw[<-m3,<-m4]
 ac_rfl
 refine zeQ (λe=>?_) (λe=>by have q1:=q _ (Same.refl _);rw[e] at q1;exact q1)
 rw[e,Bool.true_and] at q
 ac_rfl
 refine⟨p,(C 0),dx,_,_,rfl,hp,Z.c_Craft,Z.n_Craft_notes,zdv _ _ _ _,?_⟩
 refine⟨b4,rfl,⟨_,q4⟩,?_⟩
 refine zaY (zaX q4) ((notes.map (zdz [7,8])).map D.bl) (by simp;omega) (zao (by omega)) (λk x d H1 R hk hd s1 hx' hR=>?_) (λv H1 s1 n1=>?_)
 ·obtain⟨d2,hd2,hrx⟩:=Reps.get' z4 hx'
  rw[zgm] at hd2
  obtain⟨l,hl,rfl⟩:=zme.mp hd2
  rw[zgm,zgm,hl] at hd
  cases hd
  have hr':=Rep.same s1 _ hrx
  obtain⟨xa,rfl⟩:∃ b,x=.ref b:=by unfold zaz Rep at hrx;obtain⟨a,_,e,_⟩:=hrx;exact⟨a,e⟩
  have h9':=h9 l (zmg hl)
  ac_rfl
  refine⟨xa,gl,l,[7,8],rfl,hr',hL _,h9'.1,h9'.2,by decide,sp9,λH2 s2=>?_⟩
  exact hR _ _ s2 New.bl
 obtain⟨la,rfl,la0,la1⟩:=New.bls n1
 ac_rfl
 refine zje (SqL.of la1) ?_
 exact q _ s1
inductive Q11 (K:Fg)(C:Nat->Addr)(vs:List V)(H:Hp)(Q:VK)(E:XK):Prop
 | mk (p:Addr) (needs leaves:List (List Int)) (ds:List Dd) (notes:List (List (List Int))):vs=[.ref p]->zbx K (C 0) H p needs leaves (ds.map toD) notes->needs.length<=1000->leaves.length<=1000->ds.length<=1000->notes.length<=1000->(∀ l∈needs,l.length=9)->(∀ l∈leaves,l.length=9)->(∀ d∈ds,zg0 d)->(∀ ls∈notes,ls.length<=1000/\∀ l∈ls,l.length=9)->(∀ H',Same H H'->Q (.bl (zeb needs leaves ds notes)) H')->Q11 K C vs H Q E
include B Z in
theorem zoD (Q13:Fn P w K mg b8 "oath_right" ["craft"] 5 (Q12 K C))(Q15:Fn P w K mg b8 "deeds_right" ["deeds"] 6 (Q14 K))(Q17:Fn P w K mg b8 "notes_right" ["craft"] 5 (Q16 K C))(F:Fun K "right" "right" zig f fd)(m:mg "right"=some (.ref f)):Fn P w K mg b8 "right" ["craft"] 7 (Q11 K C):=by
 refine Fn.of (k:=6) F zox m (λ_ _ _ _ _ _ us hl=>(by obtain⟨_,rfl⟩:=len1 hl;rfl)) (λvs H Q E h=>?_) (λcdv A outer s H vs Q E hr h=>?_)
 ·first
  | (obtain⟨_,_,_,_,_,rfl,_⟩:=h;rfl)
 obtain⟨p,needs,leaves,ds,notes,rfl,hC,ln,ll,ld,lo,h9n,h9l,h9d,h9o,q⟩:=h
 refine⟨_,(zah (zaq (zbO (zap Q13 hr rfl (zac (pv 0) zab)) (zbO (zap Q15 hr rfl (za5 (zax K (pv 0) rfl) zab)) (zcq (zap Q17 hr rfl (zac (pv 0) zab))))))),?_⟩
 unfold zeb at q
 ac_rfl
 refine⟨p,needs,leaves,_,notes,rfl,hC,ln,ll,h9n,h9l,λH1 s1=>?_⟩
 refine zdK (λe=>?_) (λe=>by have q1:=q _ s1;rw[e] at q1;exact q1)
 rw[e,Bool.true_and] at q
 ac_rfl
 obtain⟨dx,w1,w2,w3,w4,hp,r1,r2,r3,r4⟩:=zbx.same s1 hC
 obtain⟨b3,rfl⟩:∃ b,w3=.ref b:=by unfold Rep at r3;obtain⟨a,_,e,_⟩:=r3;exact⟨a,e⟩
 refine⟨p,(C 0),dx,_,_,rfl,hp,Z.c_Craft,Z.n_Craft_deeds,zbM _ _ _ _,?_⟩
 ac_rfl
 refine⟨b3,ds,rfl,r3,ld,h9d,λH2 s2=>?_⟩
 have s3:=s1.trans s2
 refine zdK (λe=>?_) (λe=>by have q1:=q _ s3;rw[e] at q1;exact q1)
 rw[e,Bool.true_and] at q
 ac_rfl
 exact⟨p,needs,leaves,ds,notes,rfl,zbx.same s3 hC,lo,h9o,λH4 s4=>q _ (s3.trans s4)⟩
inductive Q28 (K:Fg)(C:Nat->Addr)(vs:List V)(H:Hp)(Q:VK)(E:XK):Prop
 | mk (p:Addr) (place:Int) (needs leaves:List (List Int)) (deeds:List D) (notes:List (List (List Int))):vs=[.ref p,.int place]->zbx K (C 0) H p needs leaves deeds notes->0<=place->place<=(deeds.length:Int)->deeds.length=notes.length->deeds.length<=1000->leaves.length<=1000->(∀ l∈leaves,l.length=9)->(∀ ls∈notes,ls.length<=1000)->(∀ v H',Same H H'->New H H' (zaz (dueL leaves notes place)) v->Q v H')->Q28 K C vs H Q E
include B Z in
theorem znx (Q27:Fn P w K mg b8 "between" ["low","number","high"] 1 (Q26 K))(Qa:Fn P w K mg b8 "copied_lines" ["lines"] 1 (Q9 K))(Q3:Fn P w K mg b8 "bare" ["i"] 1 (zez K))(Q7:Fn P w K mg b8 "turned" ["line","eight"] 2 (Q6 K))(F:Fun K "due_at" "due_at" zeA f fd)(m:mg "due_at"=some (.ref f)):Fn P w K mg b8 "due_at" ["craft","place"] 3 (Q28 K C):=by
 refine Fn.of (k:=2) F zjG m (λ_ _ _ _ _ _ us hl=>(by obtain⟨_,_,rfl⟩:=len2 hl;rfl)) (λvs H Q E h=>?_) (λcdv A outer s H vs Q E hr h=>?_)
 ·first
  | (obtain⟨_,_,_,_,_,_,rfl,_⟩:=h;rfl)
 obtain⟨p,place,needs,leaves,deeds,notes,rfl,hC,h0,hn,hdn,h1000,hl1000,h9,hns,q⟩:=h
 obtain⟨ga,g_LEFT_AS_HANDS,hT⟩:=B.t_LEFT_AS_HANDS
 refine⟨_,(zag (zbd (zaA (k_eq K hr) (pv 1) (zav (zd0 K) rfl B.len L2.boot_len (za5 (zax K (pv 0) rfl) zab)) (zaw _)) (zag (zat (i:=2) zjG.nd rfl (Or.inr rfl) (zba rfl (COk.m (sc0:=zaf zeA) (N:=["craft","place","eight"]) (N':=["craft","place","eight","i"]) (ms:=[false,false,false,true])) (zjg K (zb2 rfl g_LEFT_AS_HANDS)) (λ_ _ _ _ _=>(zay (i:=3) (ndS (N:=["craft","place","eight","i"])) rfl (Or.inl rfl))) (λ_ _ _ _ _=>zaP) (λ_ _ _ _ _=>(zap Q3 hr rfl (zac (pv 3) zab)))))
   (zah (zaq (zba rfl (COk.m (sc0:=zaf zeA) (N:=["craft","place","eight"]) (N':=["craft","place","eight","line"]) (ms:=[false,false,false,true])) (zbj K (zax K (pv 0) rfl)) (λ_ _ _ _ _=>(zay (i:=3) (ndS (N:=["craft","place","eight","line"])) rfl (Or.inl rfl))) (λ_ _ _ _ _=>zaP) (λ_ _ _ _ _=>(zap Q7 hr rfl (zac (pv 3) (zac (pv 2) zab)))))))) zaE)
   (zag (zbd (zcJ (zap Q27 hr rfl (zam zae (zac (pv 1) (zcF (zaW zkT (zav (c_min rfl) rfl B.min L2.zoa (zaC (zav (zd0 K) rfl B.len L2.boot_len (za5 (zax K (pv 0) rfl) zab)) (zaC (zav (zd0 K) rfl B.len L2.boot_len (za5 (zax K (pv 0) rfl) zab)) zab))) zae) zab))))) (zah (zaq (zap Qa hr rfl (zaD (zau (k_ix K) (zax K (pv 0) rfl) (pv 1) (λ_ _=>rfl)) zab)))) zaE)
   (zah (zaq (zaO zab))))),?_⟩
 obtain⟨dx,w1,w2,w3,w4,hp,r1,r2,r3,r4⟩:=hC
 unfold zaz Rep at r2
 unfold Rep at r3 r4
 obtain⟨b2,xs2,rfl,q2,z2⟩:=r2
 obtain⟨b3,xs3,rfl,q3,z3⟩:=r3
 obtain⟨b4,xs4,rfl,q4,z4⟩:=r4
 have m2:=z2.length
 have m3:=z3.length
 have m4:=z4.length
 rw[zlm] at m2 m4
 ac_rfl
 refine⟨p,(C 0),dx,_,_,rfl,hp,Z.c_Craft,Z.n_Craft_deeds,zbM _ _ _ _,?_⟩
 ac_rfl
 refine zep (.inl q3) ?_
 ac_rfl
 unfold dueL at q
 refine ite2 (λe=>?_) (λe=>?_)
 ·have e':place=(xs3.length:Int):=of_decide_eq_true e
  rw[if_pos (by omega)] at q
  ac_rfl
  refine⟨ga,rfl,⟨_,hT _⟩,?_⟩
  refine zaY (n:=8) (zfm (xs:=zlf.map V.int) (hT H)) (zdM.map nums) (by simp[zdM,zlf]) (by decide) (λj x d H1 R hj hd s1 hx hR=>?_) (λv H1 s1 n1=>?_)
  ·unfold zdM at hd
   rw[zgm] at hx
   obtain⟨i,hi,rfl⟩:=zme.mp hx
   rw[zgm,zgm,hi] at hd
   cases hd
   ac_rfl
   refine zdw λv H2 s2 n2=>?_
   exact hR _ _ s2 n2
  have hE:Rep K H1 (.lst (zdM.map nums)) v:=New.rep n1
  obtain⟨ea,evs,rfl,ea0,ea1,ew⟩:=New.news n1
  ac_rfl
  refine⟨p,(C 0),dx,_,_,rfl,s1 _ _ hp,Z.c_Craft,Z.n_Craft_leaves,zck _ _ _ _,?_⟩
  refine⟨b2,rfl,⟨_,s1.seq q2⟩,?_⟩
  refine zaY (zaX (s1.seq q2)) ((leaves.map λl=>zaV l zdM).map nums) (by rw[zlm,zlm];omega) (zao (by omega)) (λj x d H2 R hj hd s2 hx hR=>?_) (λv H2 s2 n2=>?_)
  ·obtain⟨d2,hd2,hrx⟩:=Reps.get' z2 hx
   rw[zgm] at hd2
   obtain⟨l,hl,rfl⟩:=zme.mp hd2
   rw[zgm,zgm,hl] at hd
   cases hd
   obtain⟨xa,rfl,hxa⟩:=za8.mp (Rep.same (s1.trans s2) _ hrx)
   have l9:=h9 l (zmg hl)
   cases l with
   | nil=>simp at l9
   | cons c fs=>
    ac_rfl
    refine⟨xa,ea,c,fs,zdM,rfl,hxa,Rep.same s2 _ hE,by simpa using l9,by simp[zdM,zlf],zlM,λi l w el _ n hn=>?_,λv' H3 s3 n3=>?_⟩
    ·rcases zlN l (zmg el) n hn with z | z <;> subst z <;> exact .inl ⟨by decide,by decide⟩
    ·exact hR _ _ s3 n3
  exact q _ _ (s1.trans s2) (n2.back s1)
 ·have e':¬ place=(xs3.length:Int):=of_decide_eq_false (Bool.eq_false_iff.mpr e)
  rw[if_neg (by omega)] at q
  ac_rfl
  refine⟨p,(C 0),dx,_,_,rfl,hp,Z.c_Craft,Z.n_Craft_deeds,zbM _ _ _ _,?_⟩
  ac_rfl
  refine zep (.inl q3) ?_
  ac_rfl
  refine⟨p,(C 0),dx,_,_,rfl,hp,Z.c_Craft,Z.n_Craft_notes,zdv _ _ _ _,?_⟩
  ac_rfl
  refine zep (.inl q4) ?_
  ac_rfl
  refine i_min ?_
  ac_rfl
  refine zdc ?_
  rw[show (if ((xs4.length:Nat):Int)<((xs3.length:Nat):Int) then ((xs4.length:Nat):Int) else ((xs3.length:Nat):Int))=(xs3.length:Int) by rw[if_neg (by omega)],decide_eq_true h0,decide_eq_true (show place<=(xs3.length:Int) - 1 by omega)]
  show ∃ c,V.bl true=.bl c/\_
  ac_rfl
  refine⟨p,(C 0),dx,_,_,rfl,hp,Z.c_Craft,Z.n_Craft_notes,zdv _ _ _ _,?_⟩
  ac_rfl
  have pl:place.toNat<notes.length:=by omega
  obtain⟨x,hx,hr4⟩:=z4.get (i:=place.toNat) (d:=zaz notes[place.toNat]) (by simp[pl])
  have ei:atI xs4 place=some x:=by
   have:=zaB hx
   rwa [show ((place.toNat:Nat):Int)=place by omega] at this
  obtain⟨b,rfl⟩:∃ b,x=.ref b:=by unfold zaz Rep at hr4;obtain⟨a,_,e,_⟩:=hr4;exact⟨a,e⟩
  refine zcf q4 ei ?_
  ac_rfl
  refine⟨b,_,rfl,hr4,hns _ (List.getElem_mem pl),λv H1 s1 n1=>?_⟩
  refine q _ _ s1 ?_
  rw[show notes.getD place.toNat []=notes[place.toNat] by simp[List.getD,pl]]
  exact n1
inductive Q3c (K:Fg)(vs:List V)(H:Hp)(Q:VK)(E:XK):Prop
 | mk (d:Addr) (kvs:List (Key × V)) (ch:Nat->Option (List Int)):vs=[.ref d]->H d=some (.dK kvs)->(∀ i:Nat,i<8->(ch i=none/\valV kvs (.inl (0+(i:Int)))=none)\/∃ a l,ch i=some l/\valV kvs (.inl (0+(i:Int)))=some (.ref a)/\l.length=9/\H a=some (.lst (l.map V.int)))->(∀ a H',Same H H'->H a=none->Ls H' a (zaM ch)->Q (.ref a) H')->Q3c K vs H Q E
theorem zjP (i:Int):(zaF i).length=9:=by simp[zaF]
theorem zbz (ch:Nat->Option (List Int)):(zaM ch).length=8:=by simp[zaM]
theorem zlX(h:n∈zaF i):n=0\/n=1:=by
 unfold zaF at h
 rcases List.mem_cons.mp h with h | h
 ·exact .inl h
 ·obtain⟨k,_,rfl⟩:=zmm.mp h
  split
  ·exact .inr rfl
  ·exact .inl rfl
theorem zcp (i:Int):Sm (zaF i):=λn hn=>by rcases zlX hn with z | z <;> subst z <;> exact⟨by decide,by decide⟩
theorem zd8 {eight:List (List Int)}{ws:List Int}(h:∀ l∈eight,Sm l):zoo eight ws:=λi l w e _ n hn=>.inl (h l (zmg e) n hn)
theorem zbp {ch:Nat->Option (List Int)}{P:List Int->Prop}(hb:∀ i:Int,P (zaF i))(hc:∀ i l,ch i=some l->P l):∀ l∈zaM ch,P l:=λl hl=>by
 obtain⟨i,_,rfl⟩:=zmm.mp hl
 cases e:ch i with
 | none=>exact hb _
 | some l=>exact hc i l e
theorem zfW{k:Int}{P:List Int->Prop}(h:P l):∀ i m,ch1 k l i=some m->P m:=λi m e=>by
 unfold ch1 at e
 split at e
 ·cases e;exact h
 ·cases e
theorem zny{k:Int}(h9:l.length=9)(ha:H a=some (.lst (l.map V.int))):∀ i:Nat,i<8->(ch1 k l i=none/\valV (zbQ [] [(Sum.inl k,V.ref a)]) (.inl (0+(i:Int)))=none)\/∃ b m,ch1 k l i=some m/\valV (zbQ [] [(Sum.inl k,V.ref a)]) (.inl (0+(i:Int)))=some (.ref b)/\m.length=9/\H b=some (.lst (m.map V.int)):=λi _=>by
 have e:valV (zbQ [] [((Sum.inl k:Key),V.ref a)]) (.inl (0+(i:Int)))=if (Sum.inl (0+(i:Int)):Key)=Sum.inl k then some (.ref a) else none:=by
  show valV (putK [] _ _) _=_
  rw[zeK];rfl
 by_cases z:k=0+(i:Int)
 ·refine .inr ⟨a,l,by unfold ch1;rw[if_pos z],?_,h9,ha⟩
  rw[e,if_pos (by rw[z])]
 ·refine .inl ⟨by unfold ch1;rw[if_neg z],?_⟩
  rw[e,if_neg (by intro w;injection w with w;exact z w.symm)]
theorem ziO{P:List Int->Prop}(h0:P l0)(h1:P l1):∀ i m,ch2 k0 l0 k1 l1 i=some m->P m:=λi m e=>by
 unfold ch2 at e
 split at e
 ·cases e;exact h1
 split at e
 ·cases e;exact h0
 ·cases e
theorem zpa{a0 a1:Addr}(h90:l0.length=9)(h91:l1.length=9)(ha0:H a0=some (.lst (l0.map V.int)))(ha1:H a1=some (.lst (l1.map V.int))):∀ i:Nat,i<8->(ch2 k0 l0 k1 l1 i=none/\valV (zbQ [] [(Sum.inl k0,V.ref a0),(Sum.inl k1,V.ref a1)]) (.inl (0+(i:Int)))=none)\/∃ b m,ch2 k0 l0 k1 l1 i=some m/\valV (zbQ [] [(Sum.inl k0,V.ref a0),(Sum.inl k1,V.ref a1)]) (.inl (0+(i:Int)))=some (.ref b)/\m.length=9/\H b=some (.lst (m.map V.int)):=λi _=>by
 have e:valV (zbQ [] [((Sum.inl k0:Key),V.ref a0),(Sum.inl k1,V.ref a1)]) (.inl (0+(i:Int)))=if (Sum.inl (0+(i:Int)):Key)=Sum.inl k1 then some (.ref a1) else if (Sum.inl (0+(i:Int)):Key)=Sum.inl k0 then some (.ref a0) else none:=by
  show valV (putK (putK [] _ _) _ _) _=_
  rw[zeK,zeK];rfl
 by_cases z1:k1=0+(i:Int)
 ·refine .inr ⟨a1,l1,by unfold ch2;rw[if_pos z1],?_,h91,ha1⟩
  rw[e,if_pos (by rw[z1])]
 ·have n1:¬ (Sum.inl (0+(i:Int)):Key)=Sum.inl k1:=by intro w;injection w with w;exact z1 w.symm
  by_cases z0:k0=0+(i:Int)
  ·refine .inr ⟨a0,l0,by unfold ch2;rw[if_neg z1,if_pos z0],?_,h90,ha0⟩
   rw[e,if_neg n1,if_pos (by rw[z0])]
  ·refine .inl ⟨by unfold ch2;rw[if_neg z1,if_neg z0],?_⟩
   rw[e,if_neg n1,if_neg (by intro w;injection w with w;exact z0 w.symm)]
include B Z in
theorem ziP (Q3:Fn P w K mg b8 "bare" ["i"] 1 (zez K))(F:Fun K "eight_with" "eight_with" zcE f fd)(m:mg "eight_with"=some (.ref f)):Fn P w K mg b8 "eight_with" ["changes"] 2 (Q3c K):=by
 refine Fn.of (k:=1) F ziG m (λ_ _ _ _ _ _ us hl=>(by obtain⟨_,rfl⟩:=len1 hl;rfl)) (λvs H Q E h=>?_) (λcdv A outer s H vs Q E hr h=>?_)
 ·first
  | (obtain⟨_,_,_,rfl,_⟩:=h;rfl)
 obtain⟨d,kvs,ch,rfl,hd,hch,q⟩:=h
 refine⟨_,(zah (zaq (zba rfl (COk.m (sc0:=zaf zcE) (N:=["changes"]) (N':=["changes","i"]) (ms:=[false,true])) (zej rfl B.range (zac (za4 rfl B.c_FACTORS) zab)) (λ_ _ _ _ _=>(zay (i:=1) (ndS (N:=["changes","i"])) rfl (Or.inl rfl))) (λ_ _ _ _ _=>zaP) (λ_ _ _ _ _=>(znU (hr_u hr) (pv 0) (pv 1) (zap Q3 hr rfl (zac (pv 1) zab)) ⟨rfl,rfl,rfl,rfl⟩))))),?_⟩
 have h9:∀ l∈zaM ch,l.length=9:=λl hl=>by
  obtain⟨i,hi,rfl⟩:=zmm.mp hl
  rcases hch i (List.mem_range.mp hi) with ⟨e,_⟩ | ⟨a,l,e,_,hl9,_⟩
  ·rw[e];exact zjP _
  ·rw[e];exact hl9
 ac_rfl
 refine zgS (by decide) (by decide) ?_
 refine zpR (n:=8) zh1 (zaM ch) (zbz ch) (by decide) h9 (λi x l H1 R hi hl s1 hx hR=>?_) (λa H1 s1 ha hL=>?_)
 ·subst hx
  have el:l=(ch i).getD (zaF (0+(i:Int))):=by
   unfold zaM at hl
   rw[zgm,List.getElem?_range hi] at hl
   cases hl;rfl
  ac_rfl
  refine⟨d,rfl,.inl ⟨kvs,.inl (s1 _ _ hd)⟩,?_⟩
  ac_rfl
  refine zdw λv H2 s2 n2=>?_
  obtain⟨b,rfl,b0,b1⟩:=New.iif.mp n2
  have hg:DGet H2 d (.int (0+(i:Int))) (valV kvs (.inl (0+(i:Int)))):=DGet.k (k:=.inl (0+(i:Int))) (s2 _ _ (s1 _ _ hd))
  refine⟨_,hg,?_⟩
  rcases hch i hi with ⟨e,ev⟩ | ⟨a,l',e,ev,_,ha⟩
  ·rw[ev]
   exact hR b _ s2 (by rw[el,e];exact b1)
  ·rw[ev]
   exact hR a _ s2 (by rw[el,e];exact s2 _ _ (s1 _ _ ha))
 ·ac_rfl
  exact q a H1 s1 ha hL
inductive Q38 (K:Fg)(vs:List V)(H:Hp)(Q:VK)(E:XK):Prop
 | mk (a b:Addr) (goals hyps:List (List Int)):vs=[.ref a,.ref b]->Rep K H (zaz goals) (.ref a)->Rep K H (zaz hyps) (.ref b)->goals.length<=1000->hyps.length<=1000->(∀ v H',Same H H'->New H H' (.lst (goals.map λg=>zeh g hyps)) v->Q v H')->Q38 K vs H Q E
include B Z in
theorem zjQ (Qa:Fn P w K mg b8 "copied_lines" ["lines"] 1 (Q9 K))(F:Fun K "each_from" "each_from" zc0 f fd)(m:mg "each_from"=some (.ref f)):Fn P w K mg b8 "each_from" ["goals","hypotheses"] 2 (Q38 K):=by
 refine Fn.of (k:=1) F zjH m (λ_ _ _ _ _ _ us hl=>(by obtain⟨_,_,rfl⟩:=len2 hl;rfl)) (λvs H Q E h=>?_) (λcdv A outer s H vs Q E hr h=>?_)
 ·first
  | (obtain⟨_,_,_,_,rfl,_⟩:=h;rfl)
 obtain⟨a,b,goals,hyps,rfl,hA,hB,hg,hh,q⟩:=h
 refine⟨_,(zah (zaq (zba rfl (COk.m (sc0:=zaf zc0) (N:=["goals","hypotheses"]) (N':=["goals","hypotheses","goal"]) (ms:=[false,false,true])) (zbj K (pv 0)) (λ_ _ _ _ _=>(zay (i:=2) (ndS (N:=["goals","hypotheses","goal"])) rfl (Or.inl rfl))) (λ_ _ _ _ _=>zaP) (λ_ _ _ _ _=>(zdm (zaC (zdH (zk4 K) rfl B.list L2.zdJ (zac (pv 2) zab)) (zaC (zap Qa hr rfl (zac (pv 1) zab)) zab))))))),?_⟩
 unfold zaz Rep at hA
 obtain⟨_,xs,e,hA,hx⟩:=hA
 cases e
 have lx:=hx.length
 rw[zlm] at lx
 ac_rfl
 refine⟨a,rfl,⟨_,hA⟩,?_⟩
 refine zaY (zaX hA) (goals.map λg=>zeh g hyps) (by simp[lx]) (zao (by omega)) (λi x d H1 R hi hd s1 hx' hR=>?_) (λv H1 s1 n1=>?_)
 ·obtain⟨d2,hd2,hrx⟩:=hx.get' hx'
  rw[zgm] at hd2
  obtain⟨l,hl',rfl⟩:=zme.mp hd2
  rw[zgm,hl'] at hd
  cases hd
  obtain⟨xa,rfl,hxa⟩:=za8.mp (Rep.same s1 _ hrx)
  ac_rfl
  refine zgw (.inl hxa) λp hp=>?_
  have t1:=zad hp (.lst (l.map V.int))
  ac_rfl
  refine⟨b,hyps,rfl,Rep.same (s1.trans t1) _ hB,hh,λv H2 s2 n2=>?_⟩
  ac_rfl
  refine⟨(by walk_at "sm"),λT hT=>?_⟩
  have t3:=zad hT (.tup [.ref p,v])
  obtain⟨fp,f1,f2,f3⟩:=n2
  have pn:p∉fp:=λm=>by have:=f3 p m;rw[zaa] at this;cases this
  refine hR _ _ (t1.trans (s2.trans t3)) (New.tup (fp:=p::fp) (zaj.cany (f:=[p]) (fp:=fp) (RepF.line (t3 _ _ (s2 _ _ zaa))) ?_) (List.nodup_cons.mpr ⟨pn,f2⟩) (λc hc=>?_) zaa)
  ·have:=zaj.cany (RepF.sq t3.sq _ f1) (zaj.nil (H:=upd H2 T (.tup [.ref p,v])))
   rw[List.append_nil] at this
   exact this
  ·rcases List.mem_cons.mp hc with z | z
   ·rw[z];exact hp
   ·exact t1.free (f3 c z)
 ·ac_rfl
  exact q _ _ s1 n1
inductive Q3a (K:Fg)(vs:List V)(H:Hp)(Q:VK)(E:XK):Prop
 | mk (a b:Addr) (ls eight:List (List Int)):vs=[.ref a,.ref b]->Rep K H (zaz ls) (.ref a)->Rep K H (.lst (eight.map nums)) (.ref b)->ls.length<=1000->(∀ l∈ls,l.length=9/\zoo eight l.tail)->eight.length=8->(∀ l∈eight,l.length=9)->(∀ v H',Same H H'->New H H' (zaz (ls.map λl=>zaV l eight)) v->Q v H')->Q3a K vs H Q E
include B Z in
theorem ziQ (Q7:Fn P w K mg b8 "turned" ["line","eight"] 2 (Q6 K))(F:Fun K "all_turned" "all_turned" zcD f fd)(m:mg "all_turned"=some (.ref f)):Fn P w K mg b8 "all_turned" ["lines","eight"] 3 (Q3a K):=by
 refine Fn.of (k:=2) F ziF m (λ_ _ _ _ _ _ us hl=>(by obtain⟨_,_,rfl⟩:=len2 hl;rfl)) (λvs H Q E h=>?_) (λcdv A outer s H vs Q E hr h=>?_)
 ·first
  | (obtain⟨_,_,_,_,rfl,_⟩:=h;rfl)
 obtain⟨a,b,ls,eight,rfl,hA,hB,hl,hk,l8,e9,q⟩:=h
 refine⟨_,(zah (zaq (zba rfl (COk.m (sc0:=zaf zcD) (N:=["lines","eight"]) (N':=["lines","eight","line"]) (ms:=[false,false,true])) (zbj K (pv 0)) (λ_ _ _ _ _=>(zay (i:=2) (ndS (N:=["lines","eight","line"])) rfl (Or.inl rfl))) (λ_ _ _ _ _=>zaP) (λ_ _ _ _ _=>(zap Q7 hr rfl (zac (pv 2) (zac (pv 1) zab))))))),?_⟩
 unfold zaz Rep at hA
 obtain⟨_,xs,e,hA,hx⟩:=hA
 cases e
 have lx:=hx.length
 rw[zlm] at lx
 ac_rfl
 refine⟨a,rfl,⟨_,hA⟩,?_⟩
 refine zaY (zaX hA) ((ls.map λl=>zaV l eight).map nums) (by simp[lx]) (zao (by omega)) (λi x d H1 R hi hd s1 hx' hR=>?_) (λv H1 s1 n1=>?_)
 ·obtain⟨d2,hd2,hrx⟩:=hx.get' hx'
  rw[zgm] at hd2
  obtain⟨l,hl',rfl⟩:=zme.mp hd2
  rw[zgm,zgm,hl'] at hd
  cases hd
  obtain⟨xa,rfl,hxa⟩:=za8.mp (Rep.same s1 _ hrx)
  obtain⟨l9,ok⟩:=hk l (zmg hl')
  obtain⟨c,fs,rfl⟩:∃ c fs,l=c::fs:=by
   cases l with
   | nil=>simp at l9
   | cons c fs=>exact⟨c,fs,rfl⟩
  ac_rfl
  refine⟨xa,b,c,fs,eight,rfl,hxa,Rep.same s1 _ hB,by simpa using l9,l8,e9,ok,λv H2 s2 n2=>?_⟩
  exact hR _ _ s2 n2
 ·ac_rfl
  exact q _ _ s1 n1
abbrev zpb:=kL
def zcv (K:Fg):Sp:=λvs H Q _=>∃ i:Int,vs=[.int i]/\∀ v H',Same H H'->New H H' (nums (zpb i)) v->Q v H'
theorem zfX(q:∀ v H',Same H H'->New H H' (nums (zpb i)) v->Q v H'):zcv K [.int i] H Q E:=⟨i,rfl,q⟩
include B Z in
theorem zkG (F:Fun K "constant" "constant" zeB f fd)(m:mg "constant"=some (.ref f)):Fn P w K mg b8 "constant" ["number"] 1 (zcv K):=by
 refine Fn.of (k:=0) F zkB m (λ_ _ _ _ _ _ us hl=>(by obtain⟨_,rfl⟩:=len1 hl;rfl)) (λvs H Q E h=>?_) (λcdv A outer s H vs Q E hr h=>?_)
 ·first
  | (obtain⟨_,rfl,_⟩:=h;rfl)
 obtain⟨i,rfl,q⟩:=h
 refine⟨_,(zah (zaq (zaW (zaS K) (zaO (zac (pv 0) zab)) (zaW zdq (zaO (zam zae zab)) (za4 rfl B.c_FACTORS))))),?_⟩
 ac_rfl
 refine⟨(by walk_at "sm"),λp hp=>?_⟩
 ac_rfl
 refine⟨(by walk_at "sm"),λp2 hp2=>?_⟩
 ac_rfl
 refine .inr ⟨p2,8,[.int 0],rfl,rfl,zaa,by decide,by decide,by decide,λp3 hp3=>?_⟩
 have t1:=zad hp (.lst [.int i])
 have t2:=zad hp2 (.lst [.int 0])
 have t3:=zad hp3 (.lst (List.replicate (8:Int).toNat [V.int 0]).flatten)
 ac_rfl
 refine zbr (t3 _ _ (t2 _ _ zaa)) zaa (zao (by show 1+8<=1000;decide)) λp4 hp4=>?_
 have s:=t1.trans (t2.trans t3)
 exact q _ _ (s.trans (zad hp4 _)) (New.iif.mpr ⟨p4,rfl,s.free hp4,zaa⟩)
theorem sm_k(h:-(2 ^ 64)<n/\n<2 ^ 64):Sm (kL n):=λm hm=>by
 unfold kL at hm
 rcases List.mem_cons.mp hm with z | z
 ·rw[z];exact h
 ·rw[(List.mem_replicate.mp z).2];exact⟨by decide,by decide⟩
theorem znz {P:List Int->Prop}(h4:P (zaF 4))(h5:P (zaF 5))(hk:P (kL 0)):∀ i m,ch4 i=some m->P m:=λi m e=>by
 unfold ch4 at e
 split at e
 ·cases e;exact h4
 split at e
 ·cases e;exact h5
 split at e
 ·cases e;exact hk
 split at e
 ·cases e;exact hk
 ·cases e
theorem zrZ(ha:H a=some (.lst ((zaF 4).map V.int)))(hb:H b=some (.lst ((zaF 5).map V.int)))(hc:H c=some (.lst ((kL 0).map V.int)))(hd:H d=some (.lst ((kL 0).map V.int))):∀ i:Nat,i<8->(ch4 i=none/\valV (zbQ [] [(Sum.inl 0,V.ref a),(Sum.inl 1,V.ref b),(Sum.inl 2,V.ref c),(Sum.inl 3,V.ref d)]) (.inl (0+(i:Int)))=none)\/∃ x m,ch4 i=some m/\valV (zbQ [] [(Sum.inl 0,V.ref a),(Sum.inl 1,V.ref b),(Sum.inl 2,V.ref c),(Sum.inl 3,V.ref d)]) (.inl (0+(i:Int)))=some (.ref x)/\m.length=9/\H x=some (.lst (m.map V.int)):=λi hi=>by
 have e:∀ k:Key,valV (zbQ [] [((Sum.inl 0:Key),V.ref a),(Sum.inl 1,V.ref b),(Sum.inl 2,V.ref c),(Sum.inl 3,V.ref d)]) k=if k=Sum.inl 3 then some (.ref d) else if k=Sum.inl 2 then some (.ref c) else if k=Sum.inl 1 then some (.ref b) else if k=Sum.inl 0 then some (.ref a) else none:=λk=>by
  simp only[zbQ,List.foldl_cons,List.foldl_nil,zeK]
  rfl
 rw[e]
 match i,hi with
 | 0,_=>exact .inr ⟨a,_,rfl,rfl,zar 4,ha⟩
 | 1,_=>exact .inr ⟨b,_,rfl,rfl,zar 5,hb⟩
 | 2,_=>exact .inr ⟨c,_,rfl,rfl,zbv 0,hc⟩
 | 3,_=>exact .inr ⟨d,_,rfl,rfl,zbv 0,hd⟩
 | 4,_=>exact .inl ⟨rfl,rfl⟩
 | 5,_=>exact .inl ⟨rfl,rfl⟩
 | 6,_=>exact .inl ⟨rfl,rfl⟩
 | 7,_=>exact .inl ⟨rfl,rfl⟩
inductive Q2c (K:Fg)(C:Nat->Addr)(vs:List V)(H:Hp)(Q:VK)(E:XK):Prop
 | mk (p:Addr) (needs leaves:List (List Int)) (deeds:List D) (notes:List (List (List Int))):vs=[.ref p]->zbx K (C 0) H p needs leaves deeds notes->Good needs leaves deeds.length notes->(∀ v H',Same H H'->New H H' (.lst (zjx needs leaves notes)) v->Q v H')->Q2c K C vs H Q E
include B Z in
theorem zho (Q3d:Fn P w K mg b8 "eight_with" ["changes"] 2 (Q3c K))(Q39:Fn P w K mg b8 "each_from" ["goals","hypotheses"] 2 (Q38 K))(Q3b:Fn P w K mg b8 "all_turned" ["lines","eight"] 3 (Q3a K))(Q3:Fn P w K mg b8 "bare" ["i"] 1 (zez K))(Q3e:Fn P w K mg b8 "constant" ["number"] 1 (zcv K))(Q29:Fn P w K mg b8 "due_at" ["craft","place"] 3 (Q28 K C))(F:Fun K "first_duties" "first_duties" zcy f fd)(m:mg "first_duties"=some (.ref f)):Fn P w K mg b8 "first_duties" ["craft"] 4 (Q2c K C):=by
 refine Fn.of (k:=3) F zex m (λ_ _ _ _ _ _ us hl=>(by obtain⟨_,rfl⟩:=len1 hl;rfl)) (λvs H Q E h=>?_) (λcdv A outer s H vs Q E hr h=>?_)
 ·first
  | (obtain⟨_,_,_,_,_,rfl,_⟩:=h;rfl)
 obtain⟨p,needs,leaves,deeds,notes,rfl,hC,hg,q⟩:=h
 refine⟨_,(zag (zat (i:=1) zex.nd rfl (Or.inl rfl) (zap Q3d hr rfl (zaQ (zfJ (zce zae (zap Q3 hr rfl (zac (za4 rfl B.c_ASKED_0) zab)) (zce zae (zap Q3 hr rfl (zac (za4 rfl B.c_ASKED_1) zab)) (zce zae (zap Q3e hr rfl (zam zae zab)) (zce zae (zap Q3e hr rfl (zam zae zab)) zfI)))) rfl rfl (by simp) (by simp)) zab)))
   (zah (zaq (zap Q39 hr rfl (zaC (zap Q3b hr rfl (zaC (zap Q29 hr rfl (zac (pv 0) (zam zae zab))) (zac (pv 1) zab))) (za5 (zax K (pv 0) rfl) zab)))))),?_⟩
 walk_at "q"
 nofun
 refine zh4 λdp hdp=>?_
 have u0:=zad hdp (.dK [])
 nofun
 refine zdw λv H1 s1 n1=>?_
 obtain⟨b1,rfl,b10,b11⟩:=New.iif.mp n1
 nofun
 refine zdw λv H2 s2 n2=>?_
 obtain⟨b2,rfl,b20,b21⟩:=New.iif.mp n2
 nofun
 refine zfX λv H3 s3 n3=>?_
 obtain⟨b3,rfl,b30,b31⟩:=New.iif.mp n3
 nofun
 refine zfX λv H4 s4 n4=>?_
 obtain⟨b4,rfl,b40,b41⟩:=New.iif.mp n4
 nofun
 have d1:H1 dp=some (.dK []):=s1 _ _ zaa
 have d4:H4 dp=some (.dK []):=s4 _ _ (s3 _ _ (s2 _ _ d1))
 have ne:∀ {b:Addr}{l:List Int},H4 b=some (.lst (l.map V.int))->b≠dp:=λe z=>by rw[z,d4] at e;cases e
 have f1:=s4 _ _ (s3 _ _ (s2 _ _ b11))
 have f2:=s4 _ _ (s3 _ _ b21)
 have f3:=s4 _ _ b31
 refine⟨d4,[(.inl 0,.ref b1),(.inl 1,.ref b2),(.inl 2,.ref b3),(.inl 3,.ref b4)],rfl,by simp,?_⟩
 have s05:Same H (upd H4 dp (.dK (zbQ [] [(.inl 0,.ref b1),(.inl 1,.ref b2),(.inl 2,.ref b3),(.inl 3,.ref b4)]))):=(u0.trans (s1.trans (s2.trans (s3.trans s4)))).put hdp
 nofun
 refine⟨dp,_,ch4,rfl,zaa,zrZ (by rw[zai (ne f1)];exact f1) (by rw[zai (ne f2)];exact f2) (by rw[zai (ne f3)];exact f3) (by rw[zai (ne b41)];exact b41),λea H6 s6 ea0 hE=>?_⟩
 have s06:=s05.trans s6
 have m9:∀ l∈zaM ch4,l.length=9:=zbp (λi=>zar i) (znz (zar 4) (zar 5) (zbv 0))
 have msm:∀ l∈zaM ch4,Sm l:=zbp (λi=>zcp i) (znz (zcp 4) (zcp 5) (sm_k ⟨by decide,by decide⟩))
 have gd:=hg.due 0
 nofun
 refine⟨p,0,needs,leaves,deeds,notes,rfl,hC.same s06,by decide,by omega,hg.dn,by have:=hg.d;omega,by have:=hg.l;omega,hg.l9,λls hl=>by have:=(hg.o ls hl).1;omega,λv H7 s7 n7=>?_⟩
 have rv:=New.rep (K:=K) n7
 obtain⟨da,rfl⟩:∃ b,v=.ref b:=by obtain⟨b,_,e,_⟩:=New.news n7;exact⟨b,e⟩
 nofun
 refine⟨da,ea,_,zaM ch4,rfl,rv,(hE.same s7).rep,by omega,λl hl=>⟨gd.2 l hl,zd8 msm⟩,zbz _,m9,λv H8 s8 n8=>?_⟩
 have rv8:=New.rep (K:=K) n8
 obtain⟨ga,rfl⟩:∃ b,v=.ref b:=by obtain⟨b,_,e,_⟩:=New.news n8;exact⟨b,e⟩
 have s08:=s06.trans (s7.trans s8)
 obtain⟨dx,w1,w2,w3,w4,hp,r1,r2,r3,r4⟩:=hC.same s08
 obtain⟨y1,rfl⟩:∃ b,w1=.ref b:=by unfold zaz Rep at r1;obtain⟨a,_,e,_⟩:=r1;exact⟨a,e⟩
 nofun
 refine⟨p,(C 0),dx,_,_,rfl,hp,Z.c_Craft,Z.n_Craft_needs,zcC _ _ _ _,?_⟩
 nofun
 refine⟨ga,y1,_,needs,rfl,rv8,r1,by simp;omega,by have:=hg.n;omega,λv H9 s9 n9=>?_⟩
 exact q _ _ (s08.trans s9) (n9.back s08)
--LEN (obtain ⟨_, _, _, _, _, _, _, _, _, _, _, _, _, _, _, _, _, rfl, _⟩ := h; rfl)
inductive Q36 (K:Fg)(C:Nat->Addr)(vs:List V)(H:Hp)(Q:VK)(E:XK):Prop
 | mk (t na aa o g2 t2:Addr) (m g0 g1 t0 t1:Int) (notes after needs leaves:List (List Int)) (deeds:List D) (ns:List (List (List Int))):vs=[.ref t,.ref na,.ref aa,.ref o]->SqT K H t [.str "call",.int m,.ref g2,.ref t2]->SqT K H g2 [.int g0,.int g1]->SqT K H t2 [.int t0,.int t1]->Ls H na notes->Rep K H (zaz after) (.ref aa)->notes.length<=100->after.length<=100->(∀ l∈notes,l.length=9)->(∀ l∈after,l.length=9)->zbx K (C 0) H o needs leaves deeds ns->Good needs leaves deeds.length ns->(∀ v H',Same H H'->New H H' (.lst (((needs.map λl=>zaV l (zaM (ch2 4 (zaF g0) 5 (zaF g1)))).map λg=>zeh g notes)++(after.map λl=>zaV l (zaM (ch2 t0 (zaF 6) t1 (zaF 7)))).map λg=>zeh g (notes++leaves.map λl=>zaV l (zaM (ch2 4 (zaF g0) 5 (zaF g1)))))) v->Q v H')->Q36 K C vs H Q E
include B Z in
theorem zhH (Q3d:Fn P w K mg b8 "eight_with" ["changes"] 2 (Q3c K))(Q39:Fn P w K mg b8 "each_from" ["goals","hypotheses"] 2 (Q38 K))(Q3b:Fn P w K mg b8 "all_turned" ["lines","eight"] 3 (Q3a K))(Q3:Fn P w K mg b8 "bare" ["i"] 1 (zez K))(F:Fun K "call_duties" "call_duties" zcS f fd)(m:mg "call_duties"=some (.ref f)):Fn P w K mg b8 "call_duties" ["deed","notes","after","other"] 4 (Q36 K C):=by
 refine Fn.of (k:=3) F zbA m (λ_ _ _ _ _ _ us hl=>(by obtain⟨_,_,_,_,rfl⟩:=len4 hl;rfl)) (λvs H Q E h=>?_) (λcdv A outer s H vs Q E hr h=>?_)
 ·first
  | (obtain⟨_,_,_,_,_,_,_,_,_,_,_,_,_,_,_,_,_,rfl,_⟩:=h;rfl)
 obtain⟨t,na,aa,o,g2,t2,m,g0,g1,t0,t1,notes,after,needs,leaves,deeds,ns,rfl,hT,hG,hK,hN,hA,ln,lf,o9,a9,hC,hg,q⟩:=h
 refine⟨_,(zag (zat (i:=4) zbA.nd rfl (Or.inl rfl) (zau (k_ix K) (pv 0) zae (λ_ _=>rfl)))
   (zag (zat (i:=5) zbA.nd rfl (Or.inl rfl) (zau (k_ix K) (pv 0) zae (λ_ _=>rfl)))
   (zag (zat (i:=6) zbA.nd rfl (Or.inl rfl) (zap Q3d hr rfl (zaQ (zfJ (zce (za4 rfl B.c_ASKED_0) (zap Q3 hr rfl (zaD (zau (k_ix K) (pv 4) zae (λ_ _=>rfl)) zab)) (zce (za4 rfl B.c_ASKED_1) (zap Q3 hr rfl (zaD (zau (k_ix K) (pv 4) zae (λ_ _=>rfl)) zab)) zfI)) rfl rfl (by simp) (by simp)) zab)))
   (zag (zat (i:=7) zbA.nd rfl (Or.inl rfl) (zap Q3d hr rfl (zaQ (zfJ (zce (zau (k_ix K) (pv 5) zae (λ_ _=>rfl)) (zap Q3 hr rfl (zac (za4 rfl B.c_NEW_0) zab)) (zce (zau (k_ix K) (pv 5) zae (λ_ _=>rfl)) (zap Q3 hr rfl (zac (za4 rfl B.c_NEW_1) zab)) zfI)) rfl rfl (by simp) (by simp)) zab)))
   (zag (zat (i:=8) zbA.nd rfl (Or.inl rfl) (zap Q39 hr rfl (zaC (zap Q3b hr rfl (za5 (zax K (pv 3) rfl) (zac (pv 6) zab))) (zac (pv 1) zab))))
   (zah (zaq (zaW (zaS K) (pv 8) (zap Q39 hr rfl (zaC (zap Q3b hr rfl (zac (pv 2) (zac (pv 7) zab))) (zcF (zaW (zaS K) (pv 1) (zap Q3b hr rfl (za5 (zax K (pv 3) rfl) (zac (pv 6) zab)))) zab))))))))))),?_⟩
 walk_at "q"
 nofun
 refine zaJ hT (v:=.ref g2) (zaB (j:=2) rfl) ?_
 nofun
 walk_at "q"
 nofun
 refine zaJ hT (v:=.ref t2) (zaB (j:=3) rfl) ?_
 nofun
 walk_at "q"
 nofun
 refine zh4 λdp hdp=>?_
 have u0:=zad hdp (.dK [])
 nofun
 refine zaJ (u0.tup hG) (v:=.int g0) zbu ?_
 nofun
 refine zdw λv H1 s1 n1=>?_
 obtain⟨b1,rfl,b10,b11⟩:=New.iif.mp n1
 nofun
 refine zaJ ((u0.trans s1).tup hG) (v:=.int g1) (zaB (j:=1) rfl) ?_
 nofun
 refine zdw λv H2 s2 n2=>?_
 obtain⟨b2,rfl,b20,b21⟩:=New.iif.mp n2
 nofun
 have d2:H2 dp=some (.dK []):=s2 _ _ (s1 _ _ zaa)
 have ne:∀ {b:Addr}{l:List Int},H2 b=some (.lst (l.map V.int))->b≠dp:=λe z=>by rw[z,d2] at e;cases e
 have f1:=s2 _ _ b11
 refine⟨d2,[(.inl 4,.ref b1),(.inl 5,.ref b2)],rfl,by simp,?_⟩
 have s03:Same H (upd H2 dp (.dK (zbQ [] [(.inl 4,.ref b1),(.inl 5,.ref b2)]))):=(u0.trans (s1.trans s2)).put hdp
 nofun
 refine⟨dp,_,ch2 4 (zaF g0) 5 (zaF g1),rfl,zaa,zpa (zar g0) (zar g1) (by rw[zai (ne f1)];exact f1) (by rw[zai (ne b21)];exact b21),λea H4 s4 ea0 hE=>?_⟩
 have s04:=s03.trans s4
 have e9:∀ l∈zaM (ch2 4 (zaF g0) 5 (zaF g1)),l.length=9:=zbp (λi=>zar i) (ziO (zar g0) (zar g1))
 have esm:∀ l∈zaM (ch2 4 (zaF g0) 5 (zaF g1)),Sm l:=zbp (λi=>zcp i) (ziO (zcp g0) (zcp g1))
 have elen:=zbz (ch2 4 (zaF g0) 5 (zaF g1))
 generalize zaM (ch2 4 (zaF g0) 5 (zaF g1))=giving at hE e9 esm elen q
 nofun
 walk_at "q"
 nofun
 refine zh4 λdq hdq=>?_
 have w0:=zad hdq (.dK [])
 nofun
 refine zaJ ((s04.trans w0).tup hK) (v:=.int t0) zbu ?_
 nofun
 refine zdw λv H5 s5 n5=>?_
 obtain⟨b3,rfl,b30,b31⟩:=New.iif.mp n5
 nofun
 refine zaJ ((s04.trans (w0.trans s5)).tup hK) (v:=.int t1) (zaB (j:=1) rfl) ?_
 nofun
 refine zdw λv H6 s6 n6=>?_
 obtain⟨b4,rfl,b40,b41⟩:=New.iif.mp n6
 nofun
 have d6:H6 dq=some (.dK []):=s6 _ _ (s5 _ _ zaa)
 have ne6:∀ {b:Addr}{l:List Int},H6 b=some (.lst (l.map V.int))->b≠dq:=λe z=>by rw[z,d6] at e;cases e
 have f3:=s6 _ _ b31
 refine⟨d6,[(.inl t0,.ref b3),(.inl t1,.ref b4)],rfl,by simp,?_⟩
 have s47:Same H4 (upd H6 dq (.dK (zbQ [] [(.inl t0,.ref b3),(.inl t1,.ref b4)]))):=(w0.trans (s5.trans s6)).put hdq
 nofun
 refine⟨dq,_,ch2 t0 (zaF 6) t1 (zaF 7),rfl,zaa,zpa (zar 6) (zar 7) (by rw[zai (ne6 f3)];exact f3) (by rw[zai (ne6 b41)];exact b41),λta H8 s8 ta0 hF=>?_⟩
 have s48:=s47.trans s8
 have s08:=s04.trans s48
 have k9:∀ l∈zaM (ch2 t0 (zaF 6) t1 (zaF 7)),l.length=9:=zbp (λi=>zar i) (ziO (zar 6) (zar 7))
 have ksm:∀ l∈zaM (ch2 t0 (zaF 6) t1 (zaF 7)),Sm l:=zbp (λi=>zcp i) (ziO (zcp 6) (zcp 7))
 have klen:=zbz (ch2 t0 (zaF 6) t1 (zaF 7))
 generalize zaM (ch2 t0 (zaF 6) t1 (zaF 7))=taking at hF k9 ksm klen q
 obtain⟨dx,w1,w2,w3,w4,hp,r1,r2,r3,r4⟩:=hC
 obtain⟨y1,rfl⟩:∃ b,w1=.ref b:=by unfold zaz Rep at r1;obtain⟨a,_,e,_⟩:=r1;exact⟨a,e⟩
 obtain⟨y2,rfl⟩:∃ b,w2=.ref b:=by unfold zaz Rep at r2;obtain⟨a,_,e,_⟩:=r2;exact⟨a,e⟩
 nofun
 walk_at "q"
 nofun
 refine⟨o,(C 0),dx,_,_,rfl,s08 _ _ hp,Z.c_Craft,Z.n_Craft_needs,zcC _ _ _ _,?_⟩
 nofun
 have hE8:=hE.same s48
 refine⟨y1,ea,needs,giving,rfl,Rep.same s08 _ r1,hE8.rep,by have:=hg.n;omega,λl hl=>⟨hg.n9 l hl,zd8 esm⟩,elen,e9,λv H9 s9 n9=>?_⟩
 have rv9:=New.rep (K:=K) n9
 obtain⟨ga,rfl⟩:∃ b,v=.ref b:=by obtain⟨b,_,e,_⟩:=New.news n9;exact⟨b,e⟩
 nofun
 have hN9:=hN.same (s08.trans s9)
 refine⟨ga,na,_,notes,rfl,rv9,hN9.rep,by simp;have:=hg.n;omega,by omega,λv1 Ha sa n1'=>?_⟩
 have s0a:=s08.trans (s9.trans sa)
 nofun
 refine⟨aa,ta,after,taking,rfl,Rep.same s0a _ hA,(hF.same (s9.trans sa)).rep,by omega,λl hl=>⟨a9 l hl,zd8 ksm⟩,klen,k9,λv Hb sb nb=>?_⟩
 have rvb:=New.rep (K:=K) nb
 obtain⟨ha,rfl⟩:∃ b,v=.ref b:=by obtain⟨b,_,e,_⟩:=New.news nb;exact⟨b,e⟩
 have s0b:=s0a.trans sb
 nofun
 refine⟨o,(C 0),dx,_,_,rfl,s0b _ _ hp,Z.c_Craft,Z.n_Craft_leaves,zck _ _ _ _,?_⟩
 nofun
 refine⟨y2,ea,leaves,giving,rfl,Rep.same s0b _ r2,(hE8.same (s9.trans (sa.trans sb))).rep,by have:=hg.l;omega,λl hl=>⟨hg.l9 l hl,zd8 esm⟩,elen,e9,λv Hc sc nc=>?_⟩
 obtain⟨la,rfl,la0,hL⟩:=nc.ls
 have s0c:=s0b.trans sc
 obtain⟨xs,hxs,lxs⟩:=(hN.same s0c).len
 have hLl:=hL.len
 obtain⟨bs,hbs,lbs,ibs⟩:=hL
 rw[zlm] at lbs
 nofun
 refine zbr hxs hbs (zao (by rw[zlm];have:=hg.l;omega)) λp7 hp7=>?_
 have hM:=Ls.more (p:=p7) (bs:=bs) (ms:=leaves.map λl=>zaV l giving) (hN.same s0c) hxs (by rw[zlm];exact lbs) ibs hp7
 have t7:=zad hp7 (.lst (xs++bs.map V.ref))
 nofun
 refine⟨ha,p7,_,notes++leaves.map λl=>zaV l giving,rfl,Rep.same (sc.trans t7) _ rvb,hM.rep,by simp;omega,by simp;have:=hg.l;omega,λv2 Hd sd nd=>?_⟩
 obtain⟨a1,vs1,fa1,rfl,z1,y1',r1',_⟩:=New.lso n1'
 obtain⟨a2,vs2,fa2,rfl,z2,y2',r2',_⟩:=New.lso nd
 have l1:=r1'.length
 have l2:=r2'.length
 simp only[zlm] at l1 l2
 have sad:=sb.trans (sc.trans (t7.trans sd))
 nofun
 refine zbr (sad _ _ y1') y2' (zao (by have:=hg.n;omega)) λp8 hp8=>?_
 exact q _ _ ((s0a.trans sad).trans (zad hp8 _)) (New.cat (n1'.back (s08.trans s9)) s0a sad (nd.back (sb.trans (sc.trans t7))) (sad _ _ y1') y2' hp8)
theorem zkH{k j:List Int}(h:H a=some (.lst (l.map V.int)))(h':H c=some (.lst (k.map V.int)))(h2:H d=some (.lst (j.map V.int))):∀ (i:Nat) b m,[a,c,d][i]?=some b->[l,k,j][i]?=some m->H b=some (.lst (m.map V.int)):=λi b m e1 e2=>by
 cases i with
 | zero=>simp at e1 e2;subst e1;subst e2;exact h
 | succ i=>exact zc8 h' h2 i b m (by simpa using e1) (by simpa using e2)
inductive Q30 (K:Fg)(vs:List V)(H:Hp)(Q:VK)(E:XK):Prop
 | mk (t na aa la:Addr) (h by':Int) (line:List Int) (notes after:List (List Int)):vs=[.ref t,.ref na,.ref aa]->SqT K H t [.str "part",.int h,.ref la,.int by']->H la=some (.lst (line.map V.int))->line.length=9->(-1000000<by'/\by'<1000000)->Ls H na notes->Rep K H (zaz after) (.ref aa)->notes.length<=100->after.length<=100->(∀ l∈after,l.length=9)->(∀ v H',Same H H'->New H H' (.lst ((after.map λl=>zaV l (zaM (ch1 h (zaF 6)))).map λg=>zeh g (notes++[zd2 line by',greatest line by']))) v->Q v H')->Q30 K vs H Q E
include B Z in
theorem zhI (Q5:Fn P w K mg b8 "summed" ["lines","weights"] 1 (Q4 K))(Q39:Fn P w K mg b8 "each_from" ["goals","hypotheses"] 2 (Q38 K))(Q3b:Fn P w K mg b8 "all_turned" ["lines","eight"] 3 (Q3a K))(Q3:Fn P w K mg b8 "bare" ["i"] 1 (zez K))(Q3e:Fn P w K mg b8 "constant" ["number"] 1 (zcv K))(Q3d:Fn P w K mg b8 "eight_with" ["changes"] 2 (Q3c K))(F:Fun K "part_duties" "part_duties" zcP f fd)(m:mg "part_duties"=some (.ref f)):Fn P w K mg b8 "part_duties" ["deed","notes","after"] 4 (Q30 K):=by
 refine Fn.of (k:=3) F zbW m (λ_ _ _ _ _ _ us hl=>(by obtain⟨_,_,_,rfl⟩:=len3 hl;rfl)) (λvs H Q E h=>?_) (λcdv A outer s H vs Q E hr h=>?_)
 ·first
  | (obtain⟨_,_,_,_,_,_,_,_,_,rfl,_⟩:=h;rfl)
 obtain⟨t,na,aa,la,h,by',line,notes,after,rfl,hT,hla,l9,hby,hN,hA,ln,lf,a9,q⟩:=h
 refine⟨_,(zag (zat (i:=3) zbW.nd rfl (Or.inl rfl) (zau (k_ix K) (pv 0) zae (λ_ _=>rfl)))
   (zag (zat (i:=4) zbW.nd rfl (Or.inl rfl) (zau (k_ix K) (pv 0) zae (λ_ _=>rfl)))
   (zag (zat (i:=5) zbW.nd rfl (Or.inl rfl) (zap Q5 hr rfl (zcL (zaO (zac (pv 3) (zaC (zap Q3 hr rfl (zac (za4 rfl B.c_NEW_0) zab)) zab))) (zcL (zaO (zam zae (zkh (zde zbP (pv 4)) zab))) zab))))
   (zag (zat (i:=6) zbW.nd rfl (Or.inl rfl) (zap Q5 hr rfl (zcL (zaO (zaC (zap Q3 hr rfl (zac (za4 rfl B.c_NEW_0) zab)) (zaC (zap Q3e hr rfl (zcF (zaW zkT (pv 4) zae) zab)) (zac (pv 3) zab)))) (zcL (zaO (zac (pv 4) (zam zae (zkh (zde zbP zae) zab)))) zab))))
   (zah (zaq (zap Q39 hr rfl (zaC (zap Q3b hr rfl (zac (pv 2) (zaC (zap Q3d hr rfl (zaQ (zfJ (zce (zau (k_ix K) (pv 0) zae (λ_ _=>rfl)) (zap Q3 hr rfl (zac (za4 rfl B.c_NEW_0) zab)) zfI) rfl rfl (by simp) (by simp)) zab)) zab))) (zcF (zaW (zaS K) (pv 1) (zaO (zac (pv 5) (zac (pv 6) zab)))) zab))))))))),?_⟩
 walk_at "q"
 nofun
 refine zaJ hT (v:=.ref la) (zaB (j:=2) rfl) ?_
 nofun
 walk_at "q"
 nofun
 refine zaJ hT (v:=.int by') (zaB (j:=3) rfl) ?_
 nofun
 walk_at "q"
 nofun
 refine zdw λv H1 s1 n1=>?_
 obtain⟨b1,rfl,b10,b11⟩:=New.iif.mp n1
 nofun
 refine⟨(by walk_at "sm"),λp hp=>?_⟩
 have t1:=zad hp (.lst [V.ref la,.ref b1])
 nofun
 refine⟨(by walk_at "sm"),λp2 hp2=>?_⟩
 have t2:=zad hp2 (.lst [V.int 1,.int (-by')])
 have s02:=s1.trans (t1.trans t2)
 nofun
 refine⟨p,p2,[line,zaF 6],[1,-by'],rfl,zdL (bs:=[la,b1]) (t2 _ _ zaa) rfl (zc8 (s02 _ _ hla) ((t1.trans t2) _ _ b11)),SqL.of zaa,rfl,by simp,λl hl=>?_,λi l w _ e2 n _=>?_,λv H3 s3 n3=>?_⟩
 ·simp at hl;rcases hl with rfl | rfl
  ·exact l9
  ·exact zar 6
 ·have:w=1\/w=-by':=by
   have:=zmg e2
   simp at this;exact this
  rcases this with z | z <;> subst z <;> exact .inr ⟨by omega,by omega⟩
 obtain⟨fa,rfl,fa0,fa1⟩:=New.iif.mp n3
 have s03:=s02.trans s3
 nofun
 walk_at "q"
 nofun
 refine zdw λv H4 s4 n4=>?_
 obtain⟨b2,rfl,b20,b21⟩:=New.iif.mp n4
 nofun
 refine zfX λv H5 s5 n5=>?_
 obtain⟨c2,rfl,c20,c21⟩:=New.iif.mp n5
 nofun
 refine⟨(by walk_at "sm"),λp3 hp3=>?_⟩
 have t3:=zad hp3 (.lst [V.ref b2,.ref c2,.ref la])
 nofun
 refine⟨(by walk_at "sm"),λp4 hp4=>?_⟩
 have t4:=zad hp4 (.lst [V.int by',.int 1,.int (-1)])
 have s35:=s4.trans (s5.trans (t3.trans t4))
 nofun
 refine⟨p3,p4,[zaF 6,kL (by' - 1),line],[by',1,-1],rfl,zdL (bs:=[b2,c2,la]) (t4 _ _ zaa) rfl (zkH ((s5.trans (t3.trans t4)) _ _ b21) ((t3.trans t4) _ _ c21) ((s03.trans s35) _ _ hla)),SqL.of zaa,rfl,by simp,λl hl=>?_,λi l w _ e2 n _=>?_,λv H6 s6 n6=>?_⟩
 ·simp at hl;rcases hl with rfl | rfl | rfl
  ·exact zar 6
  ·exact zbv _
  ·exact l9
 ·have:w=by'\/w=1\/w=-1:=by
   have:=zmg e2
   simp at this;exact this
  rcases this with z | z | z <;> subst z <;> exact .inr ⟨by omega,by omega⟩
 obtain⟨ta,rfl,ta0,ta1⟩:=New.iif.mp n6
 have s36:=s35.trans s6
 have s06:=s03.trans s36
 nofun
 refine zh4 λdp hdp=>?_
 have u0:=zad hdp (.dK [])
 nofun
 refine zaJ ((s06.trans u0).tup hT) (v:=.int h) (zaB (j:=1) rfl) ?_
 nofun
 refine zdw λv H7 s7 n7=>?_
 obtain⟨b3,rfl,b30,b31⟩:=New.iif.mp n7
 nofun
 refine⟨s7 _ _ zaa,[(.inl h,.ref b3)],rfl,by simp,?_⟩
 have b3d:b3≠dp:=λz=>by rw[z,zaa] at b30;cases b30
 have s67:Same H6 (upd H7 dp (.dK (zbQ [] [(.inl h,.ref b3)]))):=(u0.trans s7).put hdp
 have s07:=s06.trans s67
 nofun
 refine⟨dp,_,ch1 h (zaF 6),rfl,zaa,zny (zar 6) (by rw[zai b3d];exact b31),λea H8 s8 ea0 hE=>?_⟩
 have s08:=s07.trans s8
 have m9:∀ l∈zaM (ch1 h (zaF 6)),l.length=9:=zbp (λi=>zar i) (zfW (zar 6))
 have msm:∀ l∈zaM (ch1 h (zaF 6)),Sm l:=zbp (λi=>zcp i) (zfW (zcp 6))
 nofun
 refine⟨aa,ea,after,zaM (ch1 h (zaF 6)),rfl,Rep.same s08 _ hA,hE.rep,by omega,λl hl=>⟨a9 l hl,zd8 msm⟩,zbz _,m9,λv H9 s9 n9=>?_⟩
 have gv:=New.rep (K:=K) n9
 obtain⟨ga,rfl⟩:∃ b,v=.ref b:=by obtain⟨b,_,e,_⟩:=New.news n9;exact⟨b,e⟩
 have s09:=s08.trans s9
 have s69:=s67.trans (s8.trans s9)
 nofun
 refine⟨(by walk_at "sm"),λp5 hp5=>?_⟩
 have t5:=zad hp5 (.lst [V.ref fa,.ref ta])
 obtain⟨xs,hxs,lxs⟩:=(hN.same s09).len
 nofun
 refine zbr (t5 _ _ hxs) zaa (zao (by simp;omega)) λp6 hp6=>?_
 have hL:=Ls.more (p:=p6) (bs:=[fa,ta]) (ms:=[zd2 line by',greatest line by']) ((hN.same s09).same t5) (t5 _ _ hxs) rfl (zc8 (t5 _ _ (s69 _ _ (s36 _ _ fa1))) (t5 _ _ (s69 _ _ ta1))) hp6
 have t6:=zad hp6 (.lst (xs++[V.ref fa,.ref ta]))
 have t56:=t5.trans t6
 nofun
 refine⟨ga,p6,_,notes++[zd2 line by',greatest line by'],rfl,Rep.same t56 _ gv,hL.rep,by simp;omega,by simp;omega,λv Ha sa na'=>?_⟩
 exact q _ _ (s09.trans (t56.trans sa)) (na'.back (s09.trans t56))
inductive Q32 (K:Fg)(vs:List V)(H:Hp)(Q:VK)(E:XK):Prop
 | mk (t na aa:Addr) (h lo hi:Int) (notes after:List (List Int)):vs=[.ref t,.ref na,.ref aa]->SqT K H t [.str "draw",.int h,.int lo,.int hi]->Ls H na notes->Rep K H (zaz after) (.ref aa)->notes.length<=100->after.length<=100->(∀ l∈after,l.length=9)->(∀ v H',Same H H'->New H H' (.lst ((after.map λl=>zaV l (zaM (ch1 h (zaF 6)))).map λg=>zeh g (notes++[ze5 lo,zg5 hi]))) v->Q v H')->Q32 K vs H Q E
include B Z in
theorem zhJ (Q5:Fn P w K mg b8 "summed" ["lines","weights"] 1 (Q4 K))(Q39:Fn P w K mg b8 "each_from" ["goals","hypotheses"] 2 (Q38 K))(Q3b:Fn P w K mg b8 "all_turned" ["lines","eight"] 3 (Q3a K))(Q3:Fn P w K mg b8 "bare" ["i"] 1 (zez K))(Q3e:Fn P w K mg b8 "constant" ["number"] 1 (zcv K))(Q3d:Fn P w K mg b8 "eight_with" ["changes"] 2 (Q3c K))(F:Fun K "draw_duties" "draw_duties" zcQ f fd)(m:mg "draw_duties"=some (.ref f)):Fn P w K mg b8 "draw_duties" ["deed","notes","after"] 4 (Q32 K):=by
 refine Fn.of (k:=3) F zdD m (λ_ _ _ _ _ _ us hl=>(by obtain⟨_,_,_,rfl⟩:=len3 hl;rfl)) (λvs H Q E h=>?_) (λcdv A outer s H vs Q E hr h=>?_)
 ·first
  | (obtain⟨_,_,_,_,_,_,_,_,rfl,_⟩:=h;rfl)
 obtain⟨t,na,aa,h,lo,hi,notes,after,rfl,hT,hN,hA,ln,lf,a9,q⟩:=h
 refine⟨_,(zag (zat (i:=3) zdD.nd rfl (Or.inl rfl) (zap Q5 hr rfl (zcL (zaO (zaC (zap Q3 hr rfl (zac (za4 rfl B.c_NEW_0) zab)) (zaC (zap Q3e hr rfl (zaD (zau (k_ix K) (pv 0) zae (λ_ _=>rfl)) zab)) zab))) (zcL (zaO (zam zae (zkh (zde zbP zae) zab))) zab))))
   (zag (zat (i:=4) zdD.nd rfl (Or.inl rfl) (zap Q5 hr rfl (zcL (zaO (zaC (zap Q3e hr rfl (zaD (zau (k_ix K) (pv 0) zae (λ_ _=>rfl)) zab)) (zaC (zap Q3 hr rfl (zac (za4 rfl B.c_NEW_0) zab)) zab))) (zcL (zaO (zam zae (zkh (zde zbP zae) zab))) zab))))
   (zah (zaq (zap Q39 hr rfl (zaC (zap Q3b hr rfl (zac (pv 2) (zaC (zap Q3d hr rfl (zaQ (zfJ (zce (zau (k_ix K) (pv 0) zae (λ_ _=>rfl)) (zap Q3 hr rfl (zac (za4 rfl B.c_NEW_0) zab)) zfI) rfl rfl (by simp) (by simp)) zab)) zab))) (zcF (zaW (zaS K) (pv 1) (zaO (zac (pv 3) (zac (pv 4) zab)))) zab))))))),?_⟩
 obtain⟨c6,hc6⟩:=B.c_NEW_0
 walk_at "q"
 nofun
 refine zdw λv H1 s1 n1=>?_
 obtain⟨b1,rfl,b10,b11⟩:=New.iif.mp n1
 nofun
 refine zaJ (s1.tup hT) (v:=.int lo) (zaB (j:=2) rfl) ?_
 nofun
 refine zfX λv H2 s2 n2=>?_
 obtain⟨c1,rfl,c10,c11⟩:=New.iif.mp n2
 nofun
 refine⟨(by walk_at "sm"),λp hp=>?_⟩
 have t1:=zad hp (.lst [V.ref b1,.ref c1])
 nofun
 refine⟨(by walk_at "sm"),λp2 hp2=>?_⟩
 have t2:=zad hp2 (.lst [V.int 1,.int (-1)])
 have s02:=s1.trans (s2.trans (t1.trans t2))
 nofun
 refine⟨p,p2,[zaF 6,kL lo],[1,-1],rfl,zdL (bs:=[b1,c1]) (t2 _ _ zaa) rfl (zc8 ((s2.trans (t1.trans t2)) _ _ b11) ((t1.trans t2) _ _ c11)),SqL.of zaa,rfl,by simp,λl hl=>?_,λi l w _ e2 n _=>?_,λv H3 s3 n3=>?_⟩
 ·simp at hl;rcases hl with rfl | rfl
  ·exact zar 6
  ·exact zbv lo
 ·have:w=1\/w=-1:=by
   have:=zmg e2
   simp at this;exact this
  rcases this with z | z <;> subst z <;> exact .inr ⟨by decide,by decide⟩
 obtain⟨fa,rfl,fa0,fa1⟩:=New.iif.mp n3
 have s03:=s02.trans s3
 nofun
 walk_at "q"
 nofun
 refine zaJ (s03.tup hT) (v:=.int hi) (zaB (j:=3) rfl) ?_
 nofun
 refine zfX λv H4 s4 n4=>?_
 obtain⟨c2,rfl,c20,c21⟩:=New.iif.mp n4
 nofun
 refine zdw λv H5 s5 n5=>?_
 obtain⟨b2,rfl,b20,b21⟩:=New.iif.mp n5
 nofun
 refine⟨(by walk_at "sm"),λp3 hp3=>?_⟩
 have t3:=zad hp3 (.lst [V.ref c2,.ref b2])
 nofun
 refine⟨(by walk_at "sm"),λp4 hp4=>?_⟩
 have t4:=zad hp4 (.lst [V.int 1,.int (-1)])
 have s35:=s4.trans (s5.trans (t3.trans t4))
 nofun
 refine⟨p3,p4,[kL hi,zaF 6],[1,-1],rfl,zdL (bs:=[c2,b2]) (t4 _ _ zaa) rfl (zc8 ((s5.trans (t3.trans t4)) _ _ c21) ((t3.trans t4) _ _ b21)),SqL.of zaa,rfl,by simp,λl hl=>?_,λi l w _ e2 n _=>?_,λv H6 s6 n6=>?_⟩
 ·simp at hl;rcases hl with rfl | rfl
  ·exact zbv hi
  ·exact zar 6
 ·have:w=1\/w=-1:=by
   have:=zmg e2
   simp at this;exact this
  rcases this with z | z <;> subst z <;> exact .inr ⟨by decide,by decide⟩
 obtain⟨ta,rfl,ta0,ta1⟩:=New.iif.mp n6
 have s36:=s35.trans s6
 have s06:=s03.trans s36
 nofun
 refine zh4 λdp hdp=>?_
 have u0:=zad hdp (.dK [])
 nofun
 refine zaJ ((s06.trans u0).tup hT) (v:=.int h) (zaB (j:=1) rfl) ?_
 nofun
 refine zdw λv H7 s7 n7=>?_
 obtain⟨b3,rfl,b30,b31⟩:=New.iif.mp n7
 nofun
 refine⟨s7 _ _ zaa,[(.inl h,.ref b3)],rfl,by simp,?_⟩
 have b3d:b3≠dp:=λz=>by rw[z,zaa] at b30;cases b30
 have s67:Same H6 (upd H7 dp (.dK (zbQ [] [(.inl h,.ref b3)]))):=(u0.trans s7).put hdp
 have s07:=s06.trans s67
 nofun
 refine⟨dp,_,ch1 h (zaF 6),rfl,zaa,zny (zar 6) (by rw[zai b3d];exact b31),λea H8 s8 ea0 hE=>?_⟩
 have s08:=s07.trans s8
 have m9:∀ l∈zaM (ch1 h (zaF 6)),l.length=9:=zbp (λi=>zar i) (zfW (zar 6))
 have msm:∀ l∈zaM (ch1 h (zaF 6)),Sm l:=zbp (λi=>zcp i) (zfW (zcp 6))
 nofun
 refine⟨aa,ea,after,zaM (ch1 h (zaF 6)),rfl,Rep.same s08 _ hA,hE.rep,by omega,λl hl=>⟨a9 l hl,zd8 msm⟩,zbz _,m9,λv H9 s9 n9=>?_⟩
 have gv:=New.rep (K:=K) n9
 obtain⟨ga,rfl⟩:∃ b,v=.ref b:=by obtain⟨b,_,e,_⟩:=New.news n9;exact⟨b,e⟩
 have s09:=s08.trans s9
 have s69:=s67.trans (s8.trans s9)
 nofun
 refine⟨(by walk_at "sm"),λp5 hp5=>?_⟩
 have t5:=zad hp5 (.lst [V.ref fa,.ref ta])
 obtain⟨xs,hxs,lxs⟩:=(hN.same s09).len
 nofun
 refine zbr (t5 _ _ hxs) zaa (zao (by simp;omega)) λp6 hp6=>?_
 have hL:=Ls.more (p:=p6) (bs:=[fa,ta]) (ms:=[ze5 lo,zg5 hi]) ((hN.same s09).same t5) (t5 _ _ hxs) rfl (zc8 (t5 _ _ (s69 _ _ (s36 _ _ fa1))) (t5 _ _ (s69 _ _ ta1))) hp6
 have t6:=zad hp6 (.lst (xs++[V.ref fa,.ref ta]))
 have t56:=t5.trans t6
 nofun
 refine⟨ga,p6,_,notes++[ze5 lo,zg5 hi],rfl,Rep.same t56 _ gv,hL.rep,by simp;omega,by simp;omega,λv Ha sa na'=>?_⟩
 exact q _ _ (s09.trans (t56.trans sa)) (na'.back (s09.trans t56))
inductive Q34 (K:Fg)(vs:List V)(H:Hp)(Q:VK)(E:XK):Prop
 | mk (la na ta aa:Addr) (line:List Int) (notes there after:List (List Int)):vs=[.ref la,.ref na,.ref ta,.ref aa]->H la=some (.lst (line.map V.int))->line.length=9->Ls H na notes->Rep K H (zaz there) (.ref ta)->Rep K H (zaz after) (.ref aa)->notes.length<=100->there.length<=100->after.length<=100->(∀ v H',Same H H'->New H H' (.lst ((there.map λg=>zeh g (notes++[line]))++after.map λg=>zeh g (notes++[zg4 line]))) v->Q v H')->Q34 K vs H Q E
include B Z in
theorem zhK (Q5:Fn P w K mg b8 "summed" ["lines","weights"] 1 (Q4 K))(Q39:Fn P w K mg b8 "each_from" ["goals","hypotheses"] 2 (Q38 K))(Q3e:Fn P w K mg b8 "constant" ["number"] 1 (zcv K))(F:Fun K "turn_duties" "turn_duties" zcR f fd)(m:mg "turn_duties"=some (.ref f)):Fn P w K mg b8 "turn_duties" ["line","notes","there","after"] 3 (Q34 K):=by
 refine Fn.of (k:=2) F zeX m (λ_ _ _ _ _ _ us hl=>(by obtain⟨_,_,_,_,rfl⟩:=len4 hl;rfl)) (λvs H Q E h=>?_) (λcdv A outer s H vs Q E hr h=>?_)
 ·first
  | (obtain⟨_,_,_,_,_,_,_,_,rfl,_⟩:=h;rfl)
 obtain⟨la,na,ta,aa,line,notes,there,after,rfl,hla,l9,hN,hT,hA,ln,lt,lf,q⟩:=h
 refine⟨_,(zag (zat (i:=4) zeX.nd rfl (Or.inl rfl) (zap Q5 hr rfl (zcL (zaO (zac (pv 0) (zaC (zap Q3e hr rfl (zam zae zab)) zab))) (zcL (zaO (zkh (zde zbP zae) (zkh (zde zbP zae) zab))) zab))))
   (zah (zaq (zaW (zaS K) (zap Q39 hr rfl (zac (pv 2) (zcF (zaW (zaS K) (pv 1) (zaO (zac (pv 0) zab))) zab))) (zap Q39 hr rfl (zac (pv 3) (zcF (zaW (zaS K) (pv 1) (zaO (zac (pv 4) zab))) zab))))))),?_⟩
 walk_at "q"
 nofun
 refine zfX λv H1 s1 n1=>?_
 obtain⟨ca,rfl,ca0,ca1⟩:=New.iif.mp n1
 nofun
 refine⟨(by walk_at "sm"),λp hp=>?_⟩
 have t1:=zad hp (.lst [V.ref la,.ref ca])
 nofun
 refine⟨(by walk_at "sm"),λp2 hp2=>?_⟩
 have t2:=zad hp2 (.lst [V.int (-1),.int (-1)])
 have s12:=s1.trans (t1.trans t2)
 nofun
 refine⟨p,p2,[line,kL 1],[-1,-1],rfl,zdL (bs:=[la,ca]) (t2 _ _ zaa) rfl (zc8 (s12 _ _ hla) ((t1.trans t2) _ _ ca1)),SqL.of zaa,rfl,by simp,λl hl=>?_,λi l w _ e2 n _=>?_,λv H2 s2 n2=>?_⟩
 ·simp at hl;rcases hl with rfl | rfl
  ·exact l9
  ·exact zbv 1
 ·have:w=-1:=by
   have:=zmg e2
   simp at this;exact this
  subst this;exact .inr ⟨by decide,by decide⟩
 obtain⟨ba,rfl,ba0,ba1⟩:=New.iif.mp n2
 have sA:=s12.trans s2
 obtain⟨xs,hxs,lxs⟩:=(hN.same sA).len
 nofun
 refine⟨(by walk_at "sm"),λp3 hp3=>?_⟩
 have t3:=zad hp3 (.lst [V.ref la])
 nofun
 refine zbr (t3 _ _ hxs) zaa (zao (by simp;omega)) λp4 hp4=>?_
 have hL4:=Ls.more (p:=p4) (bs:=[la]) (ms:=[line]) ((hN.same sA).same t3) (t3 _ _ hxs) rfl (zgy (t3 _ _ (sA _ _ hla))) hp4
 have t4:=zad hp4 (.lst (xs++[V.ref la]))
 have sB:=sA.trans (t3.trans t4)
 nofun
 refine⟨ta,p4,there,notes++[line],rfl,Rep.same sB _ hT,hL4.rep,by omega,by simp;omega,λv1 H3 s3 n3=>?_⟩
 have sC:=sB.trans s3
 have sAC:=(t3.trans t4).trans s3
 nofun
 refine⟨(by walk_at "sm"),λp5 hp5=>?_⟩
 have t5:=zad hp5 (.lst [V.ref ba])
 nofun
 refine zbr (t5 _ _ (sAC _ _ hxs)) zaa (zao (by simp;omega)) λp6 hp6=>?_
 have hL6:=Ls.more (p:=p6) (bs:=[ba]) (ms:=[zg4 line]) ((hN.same sC).same t5) (t5 _ _ (sAC _ _ hxs)) rfl (zgy (t5 _ _ (sAC _ _ ba1))) hp6
 have t6:=zad hp6 (.lst (xs++[V.ref ba]))
 have t56:=t5.trans t6
 nofun
 refine⟨aa,p6,after,notes++[zg4 line],rfl,Rep.same (sC.trans t56) _ hA,hL6.rep,by omega,by simp;omega,λv2 H4 s4 n4=>?_⟩
 obtain⟨a1,vs1,f1,rfl,z1,y1,r1,_⟩:=New.lso n3
 obtain⟨a2,vs2,f2,rfl,z2,y2,r2,_⟩:=New.lso n4
 have l1:=r1.length
 have l2:=r2.length
 simp only[zlm] at l1 l2
 have sD:=t56.trans s4
 nofun
 refine zbr (sD _ _ y1) y2 (zao (by omega)) λp7 hp7=>?_
 exact q _ _ ((sC.trans sD).trans (zad hp7 _)) (New.cat (n3.back sB) sC sD (n4.back t56) (sD _ _ y1) y2 hp7)
theorem zoE:decide (("part" : Str) ="set")=false/\decide (("draw" : Str) ="set")=false/\decide (("draw" : Str) ="part")=false/\decide (("turn" : Str) ="set")=false/\decide (("turn" : Str) ="part")=false/\decide (("turn" : Str) ="draw")=false/\decide (("hold" : Str) ="set")=false/\decide (("hold" : Str) ="part")=false/\decide (("hold" : Str) ="draw")=false/\decide (("hold" : Str) ="turn")=false/\decide (("call" : Str) ="set")=false/\decide (("call" : Str) ="part")=false/\decide (("call" : Str) ="draw")=false/\decide (("call" : Str) ="turn")=false/\decide (("call" : Str) ="hold")=false:=by decide +kernel
inductive Q2e (K:Fg)(C:Nat->Addr)(vs:List V)(H:Hp)(Q:VK)(E:XK):Prop
 | mk (p ca:Addr) (place:Nat) (needs leaves:List (List Int)) (deeds:List Dd) (notes:List (List (List Int))) (kvs:List (Key × V)) (oath:Oath) (d:Dd):vs=[.ref p,.int place,.ref ca]->zet K (C 0) H p needs leaves deeds notes->Good needs leaves deeds.length notes->deeds[place]?=some d->dOk deeds.length d->H ca=some (.dK kvs)->znl K (C 0) H kvs oath d->(∀ v H',Same H H'->New H H' (.lst (zfq (dueL leaves notes place) (dueL leaves notes (place+1)) (dueL leaves notes) oath d)) v->Q v H')->Q2e K C vs H Q E
include B Z in
theorem zhL (Q29:Fn P w K mg b8 "due_at" ["craft","place"] 3 (Q28 K C))(Q37:Fn P w K mg b8 "call_duties" ["deed","notes","after","other"] 4 (Q36 K C))(Q39:Fn P w K mg b8 "each_from" ["goals","hypotheses"] 2 (Q38 K))(Q31:Fn P w K mg b8 "part_duties" ["deed","notes","after"] 4 (Q30 K))(Q33:Fn P w K mg b8 "draw_duties" ["deed","notes","after"] 4 (Q32 K))(Q35:Fn P w K mg b8 "turn_duties" ["line","notes","there","after"] 3 (Q34 K))(Q3b:Fn P w K mg b8 "all_turned" ["lines","eight"] 3 (Q3a K))(Q3d:Fn P w K mg b8 "eight_with" ["changes"] 2 (Q3c K))(F:Fun K "deed_duties" "deed_duties" zcO f fd)(m:mg "deed_duties"=some (.ref f)):Fn P w K mg b8 "deed_duties" ["craft","place","crafts"] 5 (Q2e K C):=by
 refine Fn.of (k:=4) F zbV m (λ_ _ _ _ _ _ us hl=>(by obtain⟨_,_,_,rfl⟩:=len3 hl;rfl)) (λvs H Q E h=>?_) (λcdv A outer s H vs Q E hr h=>?_)
 ·first
  | (obtain⟨_,_,_,_,_,_,_,_,_,_,rfl,_⟩:=h;rfl)
 obtain⟨p,ca,place,needs,leaves,deeds,notes,kvs,oath,d,rfl,hT,hg,hd,ok,hca,hcl,q⟩:=h
 refine⟨_,(zag (zat (i:=3) zbV.nd rfl (Or.inl rfl) (zau (k_ix K) (zax K (pv 0) rfl) (pv 1) (λ_ _=>rfl)))
   (zag (zat (i:=4) zbV.nd rfl (Or.inl rfl) (zap Q29 hr rfl (zac (pv 0) (zac (pv 1) zab))))
   (zag (zat (i:=5) zbV.nd rfl (Or.inl rfl) (zap Q29 hr rfl (zac (pv 0) (zcF (zaW (zaS K) (pv 1) zae) zab))))
   (zag (zat (i:=6) zbV.nd rfl (Or.inl rfl) (zau (k_ix K) (pv 3) zae (λ_ _=>rfl)))
   (zag (zbd (zaA (k_eq K hr) (pv 6) zbh (zaw _)) (zah (zaq (zap Q39 hr rfl (zaC (zap Q3b hr rfl (zac (pv 5) (zaC (zap Q3d hr rfl (zaQ (zfJ (zce (zau (k_ix K) (pv 3) zae (λ_ _=>rfl)) (zau (k_ix K) (pv 3) zae (λ_ _=>rfl)) zfI) rfl rfl (by simp) (by simp)) zab)) zab))) (zac (pv 4) zab))))) zaE)
   (zag (zbd (zaA (k_eq K hr) (pv 6) zbh (zaw _)) (zah (zaq (zap Q31 hr rfl (zac (pv 3) (zac (pv 4) (zac (pv 5) zab)))))) zaE)
   (zag (zbd (zaA (k_eq K hr) (pv 6) zbh (zaw _)) (zah (zaq (zap Q33 hr rfl (zac (pv 3) (zac (pv 4) (zac (pv 5) zab)))))) zaE)
   (zag (zbd (zaA (k_eq K hr) (pv 6) zbh (zaw _)) (zah (zaq (zap Q35 hr rfl (zaD (zau (k_ix K) (pv 3) zae (λ_ _=>rfl)) (zac (pv 4) (zaC (zap Q29 hr rfl (zac (pv 0) (zaD (zau (k_ix K) (pv 3) zae (λ_ _=>rfl)) zab))) (zac (pv 5) zab))))))) zaE)
   (zag (zbd (zaA (k_eq K hr) (pv 6) zbh (zaw _)) (zah (zaq (zaW (zaS K) (zap Q39 hr rfl (zcL (zaO (zaD (zau (k_ix K) (pv 3) zae (λ_ _=>rfl)) zab)) (zac (pv 4) zab))) (zap Q39 hr rfl (zac (pv 5) (zcF (zaW (zaS K) (pv 4) (zaO (zaD (zau (k_ix K) (pv 3) zae (λ_ _=>rfl)) zab))) zab)))))) zaE)
   (zah (zaq (zap Q37 hr rfl (zac (pv 3) (zac (pv 4) (zac (pv 5) (zaD (zdZ (hr_u hr) (pv 2) (zau (k_ix K) (pv 3) zae (λ_ _=>rfl)) (λ_ _=>rfl)) zab)))))))))))))))),?_⟩
 obtain⟨k1,k2,k3,k4,k5,k6,k7,k8,k9,k10,k11,k12,k13,k14,k15⟩:=zoE
 have lp:place<deeds.length:=(zge.mp hd).1
 obtain⟨hC,dx,w1,w2,bd,w4,dvs,hp,hbd,hD⟩:=hT
 obtain⟨x,hx,rx⟩:=R2.get hD lp
 rw[List.getElem?_eq_getElem lp] at hd
 cases hd
 generalize hdd:deeds[place]=d at rx ok hcl q
 obtain⟨t,ys,rfl,htup⟩:=znd rx
 walk_at "q"
 nofun
 refine⟨p,(C 0),dx,_,_,rfl,hp,Z.c_Craft,Z.n_Craft_deeds,zbM _ _ _ _,?_⟩
 nofun
 refine zcf (SqL.of hbd) (v:=.ref t) (zaB hx) ?_
 nofun
 have due:∀ {Hx:Hp}{Q':VK}(k:Int),Same H Hx->0<=k->k<=(deeds.length:Int)->(∀ a H',Same Hx H'->Hx a=none->Ls H' a (dueL leaves notes k)->Q' (.ref a) H')->Q28 K C [.ref p,.int k] Hx Q' E0:=λ{Hx Q'} k s k0 kn hq=>
  ⟨p,k,needs,leaves,deeds.map toD,notes,rfl,hC.same s,k0,by rw[zlm];exact kn,by rw[zlm];exact hg.dn,by rw[zlm];have:=hg.d;omega,by have:=hg.l;omega,hg.l9,λls hl=>by have:=(hg.o ls hl).1;omega,λv H' s' n'=>by obtain⟨a,rfl,a0,hL⟩:=n'.ls;exact hq a H' s' a0 hL⟩
 walk_at "q"
 nofun
 refine due _ (Same.refl _) (by omega) (by omega) λna H1 s1 na0 hN=>?_
 nofun
 walk_at "q"
 nofun
 refine due _ s1 (by omega) (by omega) λaa H2 s2 aa0 hA=>?_
 have s02:=s1.trans s2
 have hN2:=hN.same s2
 have gN:=hg.due (place:Int)
 have gA:=hg.due ((place:Int)+1)
 have h2:=s02 _ _ htup
 nofun
 walk_at "q"
 nofun
 refine zaJ (SqT.of h2) zbu ?_
 nofun
 have rx2:zc5 H2 (toD d) (.ref t):=rx.sq s02.sq
 generalize dueL leaves notes (place:Int)=N at hN2 gN q
 generalize dueL leaves notes ((place:Int)+1)=A at hA gA q
 cases d with
 | set h l=>
  obtain⟨t',xs,et,hT2,px⟩:=zbl rx2
  cases et
  obtain⟨x0,r,rfl,e0,px⟩:=zak px
  obtain⟨x1,r,rfl,e1,px⟩:=zak px
  obtain⟨x2,r,rfl,e2,px⟩:=zak px
  cases zbG px;cases zbL e0
  cases zbq e1
  obtain⟨b2,rfl,hb2⟩:=zcG e2
  with_reducible refine zjn (λQ2 q2=>?_) (λNX=>?_)
  ·nofun
   rw[decide_eq_true (show zc9 (Dd.set h l) ="set" from rfl)]
   exact q2
  nofun
  refine zh4 λdp hdp=>?_
  have u0:=zad hdp (.dK [])
  nofun
  refine zaJ (SqT.of (u0 _ _ hT2)) (v:=.int h) (zaB (j:=1) rfl) ?_
  nofun
  refine zaJ (SqT.of (u0 _ _ hT2)) (v:=.ref b2) (zaB (j:=2) rfl) ?_
  nofun
  refine⟨zaa,[(.inl h,.ref b2)],rfl,by simp,?_⟩
  have s23:Same H2 (upd (upd H2 dp (.dK [])) dp (.dK (zbQ [] [(.inl h,.ref b2)]))):=u0.put hdp
  nofun
  refine⟨dp,_,ch1 h l,rfl,zaa,zny ok.1 (s23 _ _ hb2),λea H4 s4 ea0 hE=>?_⟩
  have s24:=s23.trans s4
  nofun
  refine⟨aa,ea,A,zaM (ch1 h l),rfl,(hA.same s24).rep,hE.rep,by omega,λz hz=>⟨gA.2 z hz,zd8 (zbp (λi=>zcp i) (zfW ok.2))⟩,zbz _,zbp (λi=>zar i) (zfW ok.1),λv H5 s5 n5=>?_⟩
  have rv:=New.rep (K:=K) n5
  obtain⟨ga,rfl⟩:∃ b,v=.ref b:=by obtain⟨b,_,e,_⟩:=New.news n5;exact⟨b,e⟩
  have s25:=s24.trans s5
  nofun
  refine⟨ga,na,_,N,rfl,rv,(hN2.same s25).rep,by simp;omega,by omega,λv H6 s6 n6=>?_⟩
  exact q _ _ (s02.trans (s25.trans s6)) (n6.back (s02.trans s25))
 | part h l b=>
  obtain⟨t',xs,et,hT2,px⟩:=zbl rx2
  cases et
  obtain⟨x0,r,rfl,e0,px⟩:=zak px
  obtain⟨x1,r,rfl,e1,px⟩:=zak px
  obtain⟨x2,r,rfl,e2,px⟩:=zak px
  obtain⟨x3,r,rfl,e3,px⟩:=zak px
  cases zbG px;cases zbL e0
  cases zbq e1
  obtain⟨b2,rfl,hb2⟩:=zcG e2
  cases zbq e3
  with_reducible refine zcM (λQ2 q2=>?_) ?_
  ·nofun
   rw[show decide (zc9 (Dd.part h l b) ="set")=false from k1]
   exact q2
  with_reducible refine zjn (λQ2 q2=>?_) (λNX=>?_)
  ·nofun
   rw[decide_eq_true (show zc9 (Dd.part h l b) ="part" from rfl)]
   exact q2
  nofun
  refine⟨t,na,aa,b2,h,b,l,N,A,rfl,SqT.of hT2,hb2,ok.1,ok.2,hN2,hA.rep,by omega,by omega,gA.2,λv H3 s3 n3=>?_⟩
  exact q _ _ (s02.trans s3) (n3.back s02)
 | draw h lo hi=>
  obtain⟨t',xs,et,hT2,px⟩:=zbl rx2
  cases et
  obtain⟨x0,r,rfl,e0,px⟩:=zak px
  obtain⟨x1,r,rfl,e1,px⟩:=zak px
  obtain⟨x2,r,rfl,e2,px⟩:=zak px
  obtain⟨x3,r,rfl,e3,px⟩:=zak px
  cases zbG px;cases zbL e0
  cases zbq e1
  cases zbq e2
  cases zbq e3
  with_reducible refine zcM (λQ2 q2=>?_) ?_
  ·nofun
   rw[show decide (zc9 (Dd.draw h lo hi) ="set")=false from k2]
   exact q2
  with_reducible refine zcM (λQ2 q2=>?_) ?_
  ·nofun
   rw[show decide (zc9 (Dd.draw h lo hi) ="part")=false from k3]
   exact q2
  with_reducible refine zjn (λQ2 q2=>?_) (λNX=>?_)
  ·nofun
   rw[decide_eq_true (show zc9 (Dd.draw h lo hi) ="draw" from rfl)]
   exact q2
  nofun
  refine⟨t,na,aa,h,lo,hi,N,A,rfl,SqT.of hT2,hN2,hA.rep,by omega,by omega,gA.2,λv H3 s3 n3=>?_⟩
  exact q _ _ (s02.trans s3) (n3.back s02)
 | turn l p2=>
  obtain⟨t',xs,et,hT2,px⟩:=zbl rx2
  cases et
  obtain⟨x0,r,rfl,e0,px⟩:=zak px
  obtain⟨x1,r,rfl,e1,px⟩:=zak px
  obtain⟨x2,r,rfl,e2,px⟩:=zak px
  cases zbG px;cases zbL e0
  obtain⟨b1,rfl,hb1⟩:=zcG e1
  cases zbq e2
  with_reducible refine zcM (λQ2 q2=>?_) ?_
  ·nofun
   rw[show decide (zc9 (Dd.turn l p2) ="set")=false from k4]
   exact q2
  with_reducible refine zcM (λQ2 q2=>?_) ?_
  ·nofun
   rw[show decide (zc9 (Dd.turn l p2) ="part")=false from k5]
   exact q2
  with_reducible refine zcM (λQ2 q2=>?_) ?_
  ·nofun
   rw[show decide (zc9 (Dd.turn l p2) ="draw")=false from k6]
   exact q2
  with_reducible refine zjn (λQ2 q2=>?_) (λNX=>?_)
  ·nofun
   rw[decide_eq_true (show zc9 (Dd.turn l p2) ="turn" from rfl)]
   exact q2
  nofun
  refine zaJ (SqT.of hT2) (v:=.ref b1) (zaB (j:=1) rfl) ?_
  nofun
  refine zaJ (SqT.of hT2) (v:=.int p2) (zaB (j:=2) rfl) ?_
  nofun
  refine due _ s02 ok.2.1 ok.2.2 λta H3 s3 ta0 hTh=>?_
  have gT:=hg.due p2
  have s03:=s02.trans s3
  nofun
  refine⟨b1,na,ta,aa,l,N,_,A,rfl,s3 _ _ hb1,ok.1,hN2.same s3,hTh.rep,(hA.same s3).rep,by omega,by omega,by omega,λv H4 s4 n4=>?_⟩
  exact q _ _ (s03.trans s4) (n4.back s03)
 | hold l=>
  obtain⟨t',xs,et,hT2,px⟩:=zbl rx2
  cases et
  obtain⟨x0,r,rfl,e0,px⟩:=zak px
  obtain⟨x1,r,rfl,e1,px⟩:=zak px
  cases zbG px;cases zbL e0
  obtain⟨b1,rfl,hb1⟩:=zcG e1
  with_reducible refine zcM (λQ2 q2=>?_) ?_
  ·nofun
   rw[show decide (zc9 (Dd.hold l) ="set")=false from k7]
   exact q2
  with_reducible refine zcM (λQ2 q2=>?_) ?_
  ·nofun
   rw[show decide (zc9 (Dd.hold l) ="part")=false from k8]
   exact q2
  with_reducible refine zcM (λQ2 q2=>?_) ?_
  ·nofun
   rw[show decide (zc9 (Dd.hold l) ="draw")=false from k9]
   exact q2
  with_reducible refine zcM (λQ2 q2=>?_) ?_
  ·nofun
   rw[show decide (zc9 (Dd.hold l) ="turn")=false from k10]
   exact q2
  with_reducible refine zjn (λQ2 q2=>?_) (λNX=>?_)
  ·nofun
   rw[decide_eq_true (show zc9 (Dd.hold l) ="hold" from rfl)]
   exact q2
  nofun
  refine zaJ (SqT.of hT2) (v:=.ref b1) (zaB (j:=1) rfl) ?_
  nofun
  refine⟨(by walk_at "sm"),λp3 hp3=>?_⟩
  have t3:=zad hp3 (.lst [V.ref b1])
  nofun
  refine⟨p3,na,[l],N,rfl,zdL (bs:=[b1]) zaa rfl (zgy (t3 _ _ hb1)),(hN2.same t3).rep,by simp,by omega,λv1 H3 s3 n3=>?_⟩
  have s23:=t3.trans s3
  nofun
  refine zaJ (SqT.of (s23 _ _ hT2)) (v:=.ref b1) (zaB (j:=1) rfl) ?_
  nofun
  refine⟨(by walk_at "sm"),λp5 hp5=>?_⟩
  have t5:=zad hp5 (.lst [V.ref b1])
  obtain⟨xs,hxs,lxs⟩:=(hN2.same s23).len
  nofun
  refine zbr (t5 _ _ hxs) zaa (zao (by simp;omega)) λp6 hp6=>?_
  have hL6:=Ls.more (p:=p6) (bs:=[b1]) (ms:=[l]) ((hN2.same s23).same t5) (t5 _ _ hxs) rfl (zgy (t5 _ _ (s23 _ _ hb1))) hp6
  have t6:=zad hp6 (.lst (xs++[V.ref b1]))
  have t56:=t5.trans t6
  nofun
  refine⟨aa,p6,A,N++[l],rfl,(hA.same (s23.trans t56)).rep,hL6.rep,by omega,by simp;omega,λv2 H4 s4 n4=>?_⟩
  obtain⟨a1,vs1,f1,rfl,z1,y1,r1,_⟩:=New.lso n3
  obtain⟨a2,vs2,f2,rfl,z2,y2,r2,_⟩:=New.lso n4
  have l1:=r1.length
  have l2:=r2.length
  simp only[zlm] at l1 l2
  have sD:=t56.trans s4
  nofun
  refine zbr (sD _ _ y1) y2 (zao (by simp at l1;omega)) λp7 hp7=>?_
  exact q _ _ ((s02.trans (s23.trans sD)).trans (zad hp7 _)) (New.cat (n3.back (s02.trans t3)) (s02.trans s23) sD (n4.back t56) (sD _ _ y1) y2 hp7)
 | call m g0 g1 t0 t1=>
  obtain⟨t',xs,et,hT2,px⟩:=zbl rx2
  cases et
  obtain⟨x0,r,rfl,e0,px⟩:=zak px
  obtain⟨x1,r,rfl,e1,px⟩:=zak px
  obtain⟨x2,r,rfl,e2,px⟩:=zak px
  obtain⟨x3,r,rfl,e3,px⟩:=zak px
  cases zbG px;cases zbL e0
  cases zbq e1
  obtain⟨b2,rfl,hb2⟩:=zfp e2
  obtain⟨b3,rfl,hb3⟩:=zfp e3
  with_reducible refine zcM (λQ2 q2=>?_) ?_
  ·nofun
   rw[show decide (zc9 (Dd.call m g0 g1 t0 t1) ="set")=false from k11]
   exact q2
  with_reducible refine zcM (λQ2 q2=>?_) ?_
  ·nofun
   rw[show decide (zc9 (Dd.call m g0 g1 t0 t1) ="part")=false from k12]
   exact q2
  with_reducible refine zcM (λQ2 q2=>?_) ?_
  ·nofun
   rw[show decide (zc9 (Dd.call m g0 g1 t0 t1) ="draw")=false from k13]
   exact q2
  with_reducible refine zcM (λQ2 q2=>?_) ?_
  ·nofun
   rw[show decide (zc9 (Dd.call m g0 g1 t0 t1) ="turn")=false from k14]
   exact q2
  with_reducible refine zcM (λQ2 q2=>?_) ?_
  ·nofun
   rw[show decide (zc9 (Dd.call m g0 g1 t0 t1) ="hold")=false from k15]
   exact q2
  obtain⟨o,od,ons,hv,hO,hgo⟩:=hcl
  nofun
  refine zaJ (SqT.of hT2) (v:=.int m) (zaB (j:=1) rfl) ?_
  nofun
  refine⟨ca,.ref o,rfl,by rw[<-hv];exact DGet.k (k:=.inl m) (s02 _ _ hca),?_⟩
  nofun
  refine⟨t,na,aa,o,b2,b3,m,g0,g1,t0,t1,N,A,_,_,od,ons,rfl,SqT.of hT2,SqT.of hb2,SqT.of hb3,hN2,hA.rep,by omega,by omega,gN.2,gA.2,hO.same s02,hgo,λv H3 s3 n3=>?_⟩
  exact q _ _ (s02.trans s3) (n3.back s02)
inductive Q2a (K:Fg)(C:Nat->Addr)(vs:List V)(H:Hp)(Q:VK)(E:XK):Prop
  | mk (p ca:Addr) (needs leaves:List (List Int)) (deeds:List Dd) (notes:List (List (List Int))) (kvs:List (Key × V)) (oath:Oath):vs=[.ref p,.ref ca]->zet K (C 0) H p needs leaves deeds notes->Good needs leaves deeds.length notes->(∀ d∈deeds,dOk deeds.length d)->H ca=some (.dK kvs)->(∀ m∈zaZ deeds,m.natAbs<zbn)->(((∃ m∈zaZ deeds,valV kvs (.inl m)=none)/\∀ H',Same H H'->E (.ref (C 4)) none H')\/
   ((∀ m∈zaZ deeds,(valV kvs (.inl m)).isSome=true)/\(∀ d∈deeds,znl K (C 0) H kvs oath d)/\(zg7 needs leaves deeds notes oath).length<=1000/\∀ v H',Same H H'->New H H' (.lst (zg7 needs leaves deeds notes oath)) v->Q v H'))->Q2a K C vs H Q E
include B Z in
theorem znA (Q10:Fn P w K mg b8 "called_by" ["craft"] 1 (Qf K C))(Q2d:Fn P w K mg b8 "first_duties" ["craft"] 4 (Q2c K C))(Q2f:Fn P w K mg b8 "deed_duties" ["craft","place","crafts"] 5 (Q2e K C))(F:Fun K "duties" "duties" zgk f fd)(m:mg "duties"=some (.ref f)):Fnx P w K mg b8 "duties" ["craft","crafts"] 6 (Q2a K C):=by
 refine⟨f,fd,F.okx (k:=5) zfA (λvs H Q E h=>?_) (λcdv A outer s H vs Q E hr h=>?_),F.binds λ_ _ _ _ _ _ us hl=>(by obtain⟨_,_,rfl⟩:=len2 hl;rfl),F.kp,m⟩
 ·first
  | (obtain⟨_,_,_,_,_,_,_,_,rfl,_⟩:=h;rfl)
 obtain⟨p,ca,needs,leaves,deeds,notes,kvs,oath,rfl,hT,hg,hok,hca,hm,hc⟩:=h
 refine⟨_,(zag (zek PassesOwn.leaving rfl (zbj K (zap Q10 hr rfl (zac (pv 0) zab))) (zay (i:=2) zfA.nd rfl (Or.inl rfl)) (zah (zbd (zhS (zfi (hr_u hr) (pv 2) (pv 1))) (zah (zeM Z.e_Unmet rfl Z.m_Unmet rfl zfN (zaQ (zrF (pv 2) (by decide +kernel) (by decide +kernel)) zab))) zaE)))
   (zag (zat (i:=3) zfA.nd rfl (Or.inl rfl) (zap Q2d hr rfl (zac (pv 0) zab)))
   (zag (zek PassesOwn.leaving rfl (zej rfl B.range (zaC (zav (zd0 K) rfl B.len L2.boot_len (za5 (zax K (pv 0) rfl) zab)) zab)) (zay (i:=4) zfA.nd rfl (Or.inl rfl)) (zah (za3 (zmy PySem.F.plainAttrs_list PySem.F.slot_list_extend PySem.F.type_list_extend zmA (pv 3) (zaC (zap Q2f hr rfl (zac (pv 0) (zac (pv 4) (zac (pv 1) zab)))) zab)))))
   (zah (zaq (pv 3)))))),?_⟩
 have hT0:=hT
 obtain⟨hC,dx,w1,w2,bd,w4,dvs,hp,hbd,hD⟩:=hT
 walk_at "q"
 nofun
 refine⟨p,dx,bd,w1,w2,w4,dvs,deeds,rfl,hp,hbd,hD,by have:=hg.d;omega,λv H1 s1 n1=>?_⟩
 obtain⟨la,rfl,la0,la1⟩:=New.iif.mp n1
 have lc:(zaZ deeds).length<=deeds.length:=List.length_filterMap_le _ _
 refine⟨la,rfl,⟨_,SqL.of la1⟩,?_⟩
 refine zfM (zaX (SqL.of la1)) (λi σ H2=>∃ x,A3 (σ=[some (.ref p),some (.ref ca),x,none,none]) (Same H1 H2) (∀ m∈(zaZ deeds).take i,(valV kvs (.inl m)).isSome=true))
  ⟨none,rfl,Same.refl _,λm hm=>by simp at hm⟩ (λi σ H2 ⟨_,_,e,_⟩=>e) ?_ ?_
 ·rintro i v σ H2 H3 hi ⟨x,rfl,s2,hpre⟩ s3 hv
  rw[zgm] at hv
  obtain⟨m,hm',rfl⟩:=zme.mp hv
  have mm:=zmg hm'
  have s03:=s1.trans (s2.trans s3)
  nofun
  refine⟨ca,_,rfl,DGet.k (k:=.inl m) (s03 _ _ hca),?_⟩
  cases hv':valV kvs (.inl m) with
  | none=>
   nofun
   refine zeQ (λ_=>?_) (λz=>by cases z)
   nofun
   refine⟨hm m mm,λz=>?_⟩
   nofun
   refine⟨(by walk_at "sm"),?_⟩
   rcases hc with ⟨_,hE⟩ | ⟨hB,_⟩
   ·exact hE _ s03
   ·have:=hB m mm
    rw[hv'] at this;cases this
  | some y=>
   nofun
   refine zeQ (λz=>by cases z) (λ_=>?_)
   nofun
   refine⟨_,rfl,s2.trans s3,λk hk=>?_⟩
   rw[List.take_add_one,hm'] at hk
   rcases zma.mp hk with hk | hk
   ·exact hpre k hk
   ·simp at hk;subst hk;rw[hv'];rfl
 rintro σ H2 ⟨x,rfl,s2,hall⟩
 rw[zlm,List.take_of_length_le (Nat.le_refl _)] at hall
 rcases hc with ⟨⟨m,mm,hn⟩,_⟩ | ⟨_,hcl,hlen,q⟩
 ·have:=hall m mm
  rw[hn] at this;cases this
 have s02:=s1.trans s2
 walk_at "q"
 nofun
 refine⟨p,needs,leaves,deeds.map toD,notes,rfl,hC.same s02,by rw[zlm];exact hg,λv H3 s3 n3=>?_⟩
 have s03:=s02.trans s3
 obtain⟨ta,tvs,rfl,ta0,ac⟩:=(n3.back s02).acc
 nofun
 walk_at "q"
 nofun
 refine⟨p,(C 0),dx,_,_,rfl,s03 _ _ hp,Z.c_Craft,Z.n_Craft_deeds,zbM _ _ _ _,?_⟩
 nofun
 refine zep (.inl (SqL.of (s03 _ _ hbd))) ?_
 rw[<-hD.1]
 refine zgS (by omega) (by have:=hg.d;omega) ?_
 refine zkf (λi σ H4=>∃ x y vs,i<=deeds.length/\σ=[some (.ref p),some (.ref ca),x,some (.ref ta),y]/\Same H H4/\Free H H4/\Acc H ta H4 (zjx needs leaves notes++zbe leaves notes oath (deeds.take i) 0) vs)
  ⟨_,none,tvs,Nat.zero_le _,rfl,s03,s03.fr,by rw[List.take_zero];show Acc H ta H3 (_++[]) tvs;rw[List.append_nil];exact ac⟩ ?_ ?_
 ·rintro i σ H4 hi ⟨x',y,vs,him,rfl,s4,f4,ac4⟩
  have hi':i<deeds.length:=by have:i<((deeds.length:Int)).toNat:=hi;omega
  have eT:deeds=deeds.take i++deeds[i]::deeds.drop (i+1):=by rw[List.getElem_cons_drop,List.take_append_drop]
  have eS:deeds.take (i+1)=deeds.take i++[deeds[i]]:=by rw[List.take_add_one,List.getElem?_eq_getElem hi'];rfl
  have step:zbe leaves notes oath (deeds.take (i+1)) 0=zbe leaves notes oath (deeds.take i) 0++zfq (dueL leaves notes i) (dueL leaves notes ((i:Int)+1)) (dueL leaves notes) oath deeds[i]:=by
   rw[eS,ze7]
   congr 1
   show zfq _ _ _ _ _++[]=_
   rw[List.append_nil,List.length_take,Nat.zero_add,Nat.min_eq_left (by omega)]
  have short:(zjx needs leaves notes++zbe leaves notes oath (deeds.take (i+1)) 0).length<=1000:=by
   refine Nat.le_trans ?_ hlen
   unfold zg7
   have:=ze7 leaves notes oath (deeds.take (i+1)) (deeds.drop (i+1)) 0
   rw[List.take_append_drop] at this
   rw[this]
   simp only[List.length_append];omega
  nofun
  refine⟨tyL ac4.get,?_⟩
  nofun
  rw[Int.zero_add]
  refine⟨p,ca,i,needs,leaves,deeds,notes,kvs,oath,deeds[i],rfl,zet.same s4 hT0,hg,List.getElem?_eq_getElem hi',hok _ (List.getElem_mem hi'),s4 _ _ hca,(hcl _ (List.getElem_mem hi')).same s4,λv H5 s5 n5=>?_⟩
  obtain⟨b,zs,rfl,b0,ab⟩:=n5.acc
  have lz:=ab.len
  have lv:=ac4.len
  nofun
  refine⟨ta,b,vs,zs,rfl,rfl,s5 _ _ ac4.get,ab.get,?_,?_⟩
  ·rw[step] at short
   simp only[List.length_append] at short lv
   exact zao (by omega)
  ·refine⟨_,_,vs++zs,hi',rfl,(s4.trans s5).put ta0,f4.trans (s5.fr.trans zds),?_⟩
   rw[step,<-List.append_assoc]
   exact ac4.ext f4 s5 n5 ab.get
 ·rintro σ H4 ⟨x',y,vs,him,rfl,s4,f4,ac4⟩
  nofun
  refine q _ _ s4 ?_
  rw[show ((deeds.length:Int)).toNat=deeds.length by omega,List.take_of_length_le (Nat.le_refl _)] at ac4
  exact ac4.new ta0
--LEN (rcases h with ⟨_, rfl, _⟩ | ⟨_, _, _, _, _, _, _, _, _, _, rfl, _⟩ <;> rfl)
def CB (w:Int):Prop:=-(2 ^ 62)<w/\w<2 ^ 62
def ziR (K:Fg):Sp:=λvs H Q _=>(∃ d,vs=[d,.non]/\Q (.bl false) H)\/∃ (d r ga ha wa:Addr) (goal:List Int) (hyps:List (List Int)) (xs:List V) (whole:Int) (ws:List Int),vs=[.ref d,.ref r]/\SqT K H d [.ref ga,.ref ha]/\H ga=some (.lst (goal.map V.int))/\H ha=some (.lst xs)/\Reps K H (hyps.map nums) xs/\SqT K H r [.int whole,.ref wa]/\SqL K H wa (ws.map V.int)/\goal.length=9/\(∀ l∈hyps,l.length=9)/\hyps.length<=100/\ws.length<=1000/\CB whole/\(∀ w∈ws,CB w)/\
 ∀ H',Same H H'->Q (.bl (zg2 goal hyps whole ws)) H'
theorem zqk (ws:List Int):(ws.map λw=>decide (w<0)).any id=!ws.all λw=>decide (0<=w):=by
 induction ws with
 | nil=>rfl
 | cons w ws ih=>
  rw[zmc,List.any_cons,ih,List.all_cons,Bool.not_and]
  congr 1
  by_cases h:w<0
  ·rw[id,decide_eq_true h,decide_eq_false (by omega)];rfl
  ·rw[id,decide_eq_false h,decide_eq_true (by omega)];rfl
theorem zr0:(List.replicate (8:Int).toNat [V.int 0]).flatten=(List.replicate 8 (0:Int)).map V.int:=rfl
include B Z in
theorem zoF (Q5:Fn P w K mg b8 "summed" ["lines","weights"] 1 (Q4 K))(F:Fun K "shows" "shows" zei f fd)(m:mg "shows"=some (.ref f)):Fn P w K mg b8 "shows" ["duty","row"] 2 (ziR K):=by
 refine Fn.of (k:=1) F zcm m (λ_ _ _ _ _ _ us hl=>(by obtain⟨_,_,rfl⟩:=len2 hl;rfl)) (λvs H Q E h=>?_) (λcdv A outer s H vs Q E hr h=>?_)
 ·first
  | (rcases h with ⟨_,rfl,_⟩ | ⟨_,_,_,_,_,_,_,_,_,_,rfl,_⟩ <;> rfl)
  | (obtain⟨rfl,_⟩:=h;rfl)
  | (obtain⟨_,rfl,_⟩:=h;rfl)
  | (obtain⟨_,_,rfl,_⟩:=h;rfl)
  | (obtain⟨_,_,_,rfl,_⟩:=h;rfl)
  | (obtain⟨_,_,_,_,rfl,_⟩:=h;rfl)
  | (obtain⟨_,_,_,_,_,rfl,_⟩:=h;rfl)
  | (obtain⟨_,_,_,_,_,_,rfl,_⟩:=h;rfl)
  | (obtain⟨_,_,_,_,_,_,_,rfl,_⟩:=h;rfl)
  | (obtain⟨_,_,_,_,_,_,_,_,rfl,_⟩:=h;rfl)
  | (obtain⟨_,_,_,_,_,_,_,_,_,rfl,_⟩:=h;rfl)
  | (obtain⟨_,_,_,_,_,_,_,_,_,_,rfl,_⟩:=h;rfl)
  | (obtain⟨_,_,_,_,_,_,_,_,_,_,_,rfl,_⟩:=h;rfl)
  | (obtain⟨_,_,_,_,_,_,_,_,_,_,_,_,rfl,_⟩:=h;rfl)
  | (obtain⟨_,_,_,_,_,_,_,_,_,_,_,_,_,rfl,_⟩:=h;rfl)
  | (obtain⟨_,_,_,_,_,_,_,_,_,_,_,_,_,_,rfl,_⟩:=h;rfl)
  | (obtain⟨_,_,_,_,_,_,_,_,_,_,_,_,_,_,_,rfl,_⟩:=h;rfl)
  | (obtain⟨_,_,_,_,_,_,_,_,_,_,_,_,_,_,_,_,rfl,_⟩:=h;rfl)
 rcases h with ⟨d,rfl,q⟩ | ⟨d,r,ga,ha,wa,goal,hyps,xs,whole,ws,rfl,hd,hga,hha,hx,hrr,hwa,l9,h9,hl,hlw,cw,cws,q⟩
 ·refine⟨_,(zag (zbd (zaA zgE (pv 1) zdl (zaw _)) (zah (zaq zf9)) zaE)
   (zag (zat (i:=2) zcm.nd rfl (Or.inl rfl) (zau (k_ix K) (pv 0) zae (λ_ _=>rfl)))
   (zag (zat (i:=3) zcm.nd rfl (Or.inl rfl) (zau (k_ix K) (pv 0) zae (λ_ _=>rfl)))
   (zag (zat (i:=4) zcm.nd rfl (Or.inl rfl) (zau (k_ix K) (pv 1) zae (λ_ _=>rfl)))
   (zag (zat (i:=5) zcm.nd rfl (Or.inl rfl) (zau (k_ix K) (pv 1) zae (λ_ _=>rfl)))
   (zag (zbd (PW.pt (zj3 (zaA zmi (pv 4) zae (zaw _)) (zj3 (zaA (k_ne K hr) (zav (zd0 K) rfl B.len L2.boot_len (zac (pv 5) zab)) (zav (zd0 K) rfl B.len L2.boot_len (zac (pv 3) zab)) (zaw _)) (zkQ (zcJ (zav (zrp K rfl) rfl B.any L2.zk6 (zc6 (zba rfl (COk.m (sc0:=zaf zei) (N:=["duty","row","goal","hypotheses","whole","weights","rest"]) (N':=["duty","row","goal","hypotheses","whole","weights","rest","weight"]) (ms:=[false,false,false,false,false,false,false,true])) (zbj K (pv 5)) (λ_ _ _ _ _=>(zay (i:=7) (ndS (N:=["duty","row","goal","hypotheses","whole","weights","rest","weight"])) rfl (Or.inl rfl))) (λ_ _ _ _ _=>zaP) (λ_ _ _ _ _=>(zbt zmi (pv 7) zae (zaw _)))) zab))))))) (zah (zaq zf9)) zaE)
   (zag (zat (i:=6) zcm.nd rfl (Or.inl rfl) (zap Q5 hr rfl (zcF (zaW (zaS K) (zaO (zac (pv 2) zab)) (pv 3)) (zcF (zaW (zaS K) (zaO (zac (pv 4) zab)) (zba rfl (COk.m (sc0:=zaf zei) (N:=["duty","row","goal","hypotheses","whole","weights","rest"]) (N':=["duty","row","goal","hypotheses","whole","weights","rest","weight"]) (ms:=[false,false,false,false,false,false,false,true])) (zbj K (pv 5)) (λ_ _ _ _ _=>(zay (i:=7) (ndS (N:=["duty","row","goal","hypotheses","whole","weights","rest","weight"])) rfl (Or.inl rfl))) (λ_ _ _ _ _=>zaP) (λ_ _ _ _ _=>(zde zbP (pv 7))))) zab))))
   (zah (zaq (zbO (zbt zpk (zau (k_ix K) (pv 6) zae (λ_ _=>rfl)) (zde zbP (pv 4)) (zaw _)) (zcq (zbt (k_eq K hr) (zfh (k_sl K) (pv 6) (zgJ zae) zgI) (zaW zdq (zaO (zam zae zab)) (za4 rfl B.c_FACTORS)) (zaw _))))))))))))),?_⟩
  ac_rfl
  refine⟨rfl,?_⟩
  rw[ziu]
  ac_rfl
  exact q
 refine⟨_,(zag (zbd (zaA zgE (pv 1) zdl (zaw _)) (zah (zaq zf9)) zaE)
   (zag (zat (i:=2) zcm.nd rfl (Or.inl rfl) (zau (k_ix K) (pv 0) zae (λ_ _=>rfl)))
   (zag (zat (i:=3) zcm.nd rfl (Or.inl rfl) (zau (k_ix K) (pv 0) zae (λ_ _=>rfl)))
   (zag (zat (i:=4) zcm.nd rfl (Or.inl rfl) (zau (k_ix K) (pv 1) zae (λ_ _=>rfl)))
   (zag (zat (i:=5) zcm.nd rfl (Or.inl rfl) (zau (k_ix K) (pv 1) zae (λ_ _=>rfl)))
   (zag (zbd (PW.pt (zj3 (zaA zmi (pv 4) zae (zaw _)) (zj3 (zaA (k_ne K hr) (zav (zd0 K) rfl B.len L2.boot_len (zac (pv 5) zab)) (zav (zd0 K) rfl B.len L2.boot_len (zac (pv 3) zab)) (zaw _)) (zkQ (zcJ (zav (zrp K rfl) rfl B.any L2.zk6 (zc6 (zba rfl (COk.m (sc0:=zaf zei) (N:=["duty","row","goal","hypotheses","whole","weights","rest"]) (N':=["duty","row","goal","hypotheses","whole","weights","rest","weight"]) (ms:=[false,false,false,false,false,false,false,true])) (zbj K (pv 5)) (λ_ _ _ _ _=>(zay (i:=7) (ndS (N:=["duty","row","goal","hypotheses","whole","weights","rest","weight"])) rfl (Or.inl rfl))) (λ_ _ _ _ _=>zaP) (λ_ _ _ _ _=>(zbt zmi (pv 7) zae (zaw _)))) zab))))))) (zah (zaq zf9)) zaE)
   (zag (zat (i:=6) zcm.nd rfl (Or.inl rfl) (zap Q5 hr rfl (zcF (zaW (zaS K) (zaO (zac (pv 2) zab)) (pv 3)) (zcF (zaW (zaS K) (zaO (zac (pv 4) zab)) (zba rfl (COk.m (sc0:=zaf zei) (N:=["duty","row","goal","hypotheses","whole","weights","rest"]) (N':=["duty","row","goal","hypotheses","whole","weights","rest","weight"]) (ms:=[false,false,false,false,false,false,false,true])) (zbj K (pv 5)) (λ_ _ _ _ _=>(zay (i:=7) (ndS (N:=["duty","row","goal","hypotheses","whole","weights","rest","weight"])) rfl (Or.inl rfl))) (λ_ _ _ _ _=>zaP) (λ_ _ _ _ _=>(zde zbP (pv 7))))) zab))))
   (zah (zaq (zbO (zbt zpk (zau (k_ix K) (pv 6) zae (λ_ _=>rfl)) (zde zbP (pv 4)) (zaw _)) (zcq (zbt (k_eq K hr) (zfh (k_sl K) (pv 6) (zgJ zae) zgI) (zaW zdq (zaO (zam zae zab)) (za4 rfl B.c_FACTORS)) (zaw _))))))))))))),?_⟩
 have lx:=hx.length
 rw[zlm] at lx
 ac_rfl
 refine⟨rfl,?_⟩
 rw[zkk]
 ac_rfl
 refine zaJ hd zbu ?_
 ac_rfl
 refine zaJ hd (v:=.ref ha) (zaB (j:=1) rfl) ?_
 ac_rfl
 refine zaJ hrr zbu ?_
 ac_rfl
 refine zaJ hrr (v:=.ref wa) (zaB (j:=1) rfl) ?_
 ac_rfl
 have no:rowB hyps whole ws=false->∀ H',Same H H'->Q (.bl false) H':=λe H' s=>by
  have:=q H' s
  unfold zg2 at this
  rwa [e,Bool.false_and] at this
 refine zeQ (λe=>?_) (λe=>?_)
 ·ac_rfl
  refine no ?_ _ (Same.refl _)
  unfold rowB
  rw[decide_eq_false (by have:=of_decide_eq_true e;omega)];rfl
 have w1:1<=whole:=by have:=of_decide_eq_false e;omega
 ac_rfl
 refine zep (.inl hwa) ?_
 ac_rfl
 refine zep (.inl (SqL.of hha)) ?_
 ac_rfl
 refine zeQ (λe=>?_) (λe=>?_)
 ·ac_rfl
  refine no ?_ _ (Same.refl _)
  have e1:¬ ((((ws.map V.int).length:Nat):Int)=(xs.length:Int)):=by simpa using e
  unfold rowB
  rw[decide_eq_false (show ¬ (ws.length=hyps.length) by rw[zlm] at e1;omega),Bool.false_and,Bool.and_false]
 have e1:(((ws.map V.int).length:Nat):Int)=(xs.length:Int):=by simpa using e
 have lw:ws.length=hyps.length:=by rw[zlm] at e1;omega
 ac_rfl
 refine⟨wa,rfl,⟨_,hwa⟩,?_⟩
 refine zaY (zaX hwa) ((ws.map λw=>decide (w<0)).map D.bl) (by simp) (zao (by simp;omega)) (λj x d' H4 R hj hd' s4 hx' hR=>?_) (λv H4 s4 n4=>?_)
 ·rw[zgm] at hx'
  obtain⟨w,hw,rfl⟩:=zme.mp hx'
  rw[zgm,zgm,hw] at hd'
  cases hd'
  ac_rfl
  exact hR _ _ (Same.refl _) New.bl
 obtain⟨ba,rfl,ba0,ba1⟩:=New.bls n4
 ac_rfl
 refine i_any (SqL.of ba1) ?_
 rw[zqk]
 ac_rfl
 refine zeQ (λe=>?_) (λe=>?_)
 ·ac_rfl
  refine no ?_ _ s4
  unfold rowB
  rw[show (ws.all λw=>decide (0<=w))=false by simpa using e,Bool.and_false,Bool.and_false]
 have hrow:rowB hyps whole ws=true:=by
  unfold rowB
  rw[decide_eq_true w1,decide_eq_true lw,show (ws.all λw=>decide (0<=w))=true by simpa using e];rfl
 ac_rfl
 refine⟨(by walk_at "sm"),λp hp=>?_⟩
 have s5:=s4.trans (zad hp (.lst [.ref ga]))
 ac_rfl
 refine zbr zaa (s5 _ _ hha) (zao (by simp;omega)) λp2 hp2=>?_
 have s6:=s5.trans (zad hp2 (.lst ([.ref ga]++xs)))
 ac_rfl
 refine⟨(by walk_at "sm"),λp3 hp3=>?_⟩
 have s7:=s6.trans (zad hp3 (.lst [.int whole]))
 ac_rfl
 refine⟨wa,rfl,⟨_,s7.seq hwa⟩,?_⟩
 refine zaY (zaX (s7.seq hwa)) ((negs ws).map D.int) (by simp[negs]) (zao (by simp;omega)) (λj x d' H8 R hj hd' s8 hx' hR=>?_) (λv H8 s8 n8=>?_)
 ·rw[zgm] at hx'
  obtain⟨w,hw,rfl⟩:=zme.mp hx'
  unfold negs at hd'
  rw[zgm,zgm,hw] at hd'
  cases hd'
  ac_rfl
  exact hR _ _ (Same.refl _) New.int
 obtain⟨na,rfl,na0,na1⟩:=New.iif.mp n8
 ac_rfl
 refine zbr (s8 _ _ zaa) na1 (zao (by simp[negs];omega)) λp4 hp4=>?_
 have s9:=s8.trans (zad hp4 (.lst ([.int whole]++(negs ws).map V.int)))
 have s09:=s7.trans s9
 ac_rfl
 have hL:Rep K (upd H8 p4 (.lst ([.int whole]++(negs ws).map V.int))) (.lst ((goal::hyps).map nums)) (.ref p2):=by
  unfold Rep
  refine⟨p2,[.ref ga]++xs,rfl,SqL.of (s9 _ _ (zad hp3 _ _ _ zaa)),?_⟩
  rw[zmc]
  unfold Reps
  exact⟨_,_,rfl,za8.mpr ⟨ga,rfl,SqL.of (s09 _ _ hga)⟩,Reps.same s09 _ hx⟩
 refine⟨p2,p4,goal::hyps,whole::negs ws,rfl,hL,SqL.of zaa,by simp[negs];omega,by simp;omega,λl hl=>?_,λi l w e1 e2 n hn=>?_,λv Ha sa na=>?_⟩
 ·rcases List.mem_cons.mp hl with hl | hl
  ·subst hl;exact l9
  ·exact h9 l hl
 ·refine .inr ?_
  cases i with
  | zero=>simp at e2;subst e2;unfold CB at cw;exact⟨by omega,by omega⟩
  | succ i=>
   have e2':(negs ws)[i]?=some w:=by simpa using e2
   unfold negs at e2'
   rw[zgm] at e2'
   obtain⟨u,hu,rfl⟩:=zme.mp e2'
   have:=cws u (zmg hu)
   unfold CB at this
   exact⟨by omega,by omega⟩
 obtain⟨ra,rfl,ra0,ra1⟩:=New.iif.mp na
 have hr9:(znc goal hyps whole ws).length=9:=za2 λl hl=>by
  rcases List.mem_cons.mp hl with hl | hl
  ·subst hl;exact l9
  ·exact h9 l hl
 obtain⟨c,fs,ec⟩:∃ c fs,znc goal hyps whole ws=c::fs:=by
  cases e:znc goal hyps whole ws with
  | nil=>rw[e] at hr9;simp at hr9
  | cons c fs=>exact⟨c,fs,rfl⟩
 have ra2:Ha ra=some (.lst ((c::fs).map V.int)):=by rw[<-ec];exact ra1
 have sf:=s09.trans sa
 have yes:∀ H',Same H H'->Q (.bl (decide (-whole<c) && decide (fs=List.replicate 8 0))) H':=λH' s=>by
  have:=q H' s
  unfold zg2 zrS at this
  rw[hrow,ec,Bool.true_and] at this
  exact this
 ac_rfl
 refine zcf (SqL.of ra2) (v:=.int c) zbu ?_
 ac_rfl
 cases hb:decide (-whole<c) with
 | false=>
  ac_rfl
  have:=yes _ sf
  rw[hb,Bool.false_and] at this
  exact this
 | true=>
  ac_rfl
  refine zrC (SqL.of ra2) λp5 hp5=>?_
  rw[show cutV ((c::fs).map V.int) (some 1) none=fs.map V.int from zog (k:=1) (by simp)]
  ac_rfl
  refine⟨(by walk_at "sm"),λp6 hp6=>?_⟩
  ac_rfl
  refine .inr ⟨p6,8,[.int 0],rfl,rfl,zaa,by decide,by decide,by decide,λp7 hp7=>?_⟩
  rw[zr0]
  have t5:=zad hp5 (.lst (fs.map V.int))
  have t6:=zad hp6 (.lst [.int 0])
  have t7:=zad hp7 (.lst ((List.replicate 8 (0:Int)).map V.int))
  ac_rfl
  refine zn7 (d:=nums fs) (e:=nums (List.replicate 8 0)) (za8.mpr ⟨p5,rfl,SqL.of (t7 _ _ (t6 _ _ zaa))⟩) (za8.mpr ⟨p7,rfl,SqL.of zaa⟩) (Nat.le_trans (zgu _) (by decide)) ?_
  have:=yes _ (sf.trans (t5.trans (t6.trans t7)))
  rw[hb,Bool.true_and] at this
  unfold pyEq
  rw[zfL]
  exact this
def zdd (K:Fg):Sp:=λvs H Q _=>∃ n:Nat,vs=[.int n]/\n<=8/\∀ v H',Same H H'->New H H' (.lst ((zeR n).map nums)) v->Q v H'
variable {n:Nat}
theorem znB(h:n<=8):(zeR n).length<=256:=by
 rw[zf4]
 exact Nat.le_trans (Nat.pow_le_pow_right (by decide) h) (by decide)
theorem zoG{r:Addr}(hp:H p=none)(hr:(upd H p (.lst [])) r=none):New H (upd (upd H p (.lst [])) r (.lst [.ref p])) (.lst ((zeR 0).map nums)) (.ref r):=by
 have s1:=zad hp (.lst [])
 have s2:=zad hr (.lst [.ref p])
 have pr:r≠p:=λz=>by rw[z,zaa] at hr;cases hr
 refine New.lst (fp:=[p]) ?_ (by simp) (λb hb=>?_) (s1.free hr) (by simpa using pr) zaa
 ·show zaj _ [nums []] [.ref p] [p]
  exact zaj.cany (f:=[p]) (fp:=[]) (RepF.line (ns:=[]) (s2 _ _ zaa)) zaj.nil
 ·rw[zms.mp hb];exact hp
include B Z in
theorem zfb (F:Fun K "noughts_and_ones" "noughts_and_ones" za7 f fd)(m:mg "noughts_and_ones"=some (.ref f)):Fn P w K mg b8 "noughts_and_ones" ["count"] 1 (zdd K):=by
 refine Fn.of (k:=0) F zby m (λ_ _ _ _ _ _ us hl=>(by obtain⟨_,rfl⟩:=len1 hl;rfl)) (λvs H Q E h=>?_) (λcdv A outer s H vs Q E hr h=>?_)
 ·first
  | (obtain⟨_,rfl,_⟩:=h;rfl)
 obtain⟨n,rfl,hn,q⟩:=h
 refine⟨_,(zag (zat (i:=1) zby.nd rfl (Or.inl rfl) (zaO (zcL (zaO zab) zab)))
   (zag (zek PassesOwn.never rfl (zej rfl B.range (zac (pv 0) zab)) (zay (i:=2) zby.nd rfl (Or.inl rfl)) (zah (zat (i:=1) zby.nd rfl (Or.inl rfl) (zaW (zaS K) (zba rfl (COk.m (sc0:=zaf za7) (N:=["count","found","bit"]) (N':=["count","found","bit","weights"]) (ms:=[false,false,false,true])) (zbj K (pv 1)) (λ_ _ _ _ _=>(zay (i:=3) (ndS (N:=["count","found","bit","weights"])) rfl (Or.inl rfl))) (λ_ _ _ _ _=>zaP) (λ_ _ _ _ _=>(zaW (zaS K) (pv 3) (zaO (zam zae zab))))) (zba rfl (COk.m (sc0:=zaf za7) (N:=["count","found","bit"]) (N':=["count","found","bit","weights"]) (ms:=[false,false,false,true])) (zbj K (pv 1)) (λ_ _ _ _ _=>(zay (i:=3) (ndS (N:=["count","found","bit","weights"])) rfl (Or.inl rfl))) (λ_ _ _ _ _=>zaP) (λ_ _ _ _ _=>(zaW (zaS K) (pv 3) (zaO (zam zae zab)))))))))
   (zah (zaq (pv 1))))),?_⟩
 ac_rfl
 refine⟨(by walk_at "sm"),λp1 hp1=>?_⟩
 ac_rfl
 refine⟨(by walk_at "sm"),λp2 hp2=>?_⟩
 have n0:=zoG hp1 hp2
 have s0:=(zad hp1 (.lst [])).trans (zad hp2 (.lst [.ref p1]))
 ac_rfl
 refine zgS (by omega) (by omega) ?_
 refine zkf (λi σ H2=>∃ x fa,i<=n/\σ=[some (.int n),some (.ref fa),x]/\Same H H2/\New H H2 (.lst ((zeR i).map nums)) (.ref fa))
  ⟨none,p2,Nat.zero_le _,rfl,s0,n0⟩ ?_ ?_
 ·rintro i σ H2 hi ⟨x,fa,him,rfl,s2,n2⟩
  have hi':i<n:=by have:i<((n:Int)).toNat:=hi;omega
  have lr:=znB (n:=i) (by omega)
  obtain⟨_,ef,fa0,lsf⟩:=n2.ls
  cases ef
  obtain⟨vs,hvs,lvs⟩:=lsf.len
  ac_rfl
  refine⟨fa,rfl,⟨_,SqL.of hvs⟩,?_⟩
  refine zaY (zaX (SqL.of hvs)) (((zeR i).map λr=>r++[0]).map nums) (by simp[lvs]) (zao (by omega)) (λj x' d H4 R hj hd s4 hx' hR=>?_) (λv H3 s3 n3=>?_)
  ·obtain⟨wa,r,rfl,hr',hwa⟩:=lsf.item hvs hx'
   rw[zgm,zgm,hr'] at hd;cases hd
   have lr2:=(zdN _ _ (zmg hr')).1
   ac_rfl
   refine⟨(by walk_at "sm"),λp hp=>?_⟩
   have t1:=zad hp (.lst [.int 0])
   ac_rfl
   refine zbr (t1 _ _ (s4 _ _ hwa)) zaa (zao (by simp;omega)) λp' hp'=>?_
   exact hR _ _ (t1.trans (zad hp' _)) (New.iif.mpr ⟨p',rfl,t1.free hp',by rw[zaa,List.map_append];rfl⟩)
  ac_rfl
  refine⟨fa,rfl,⟨_,SqL.of (s3 _ _ hvs)⟩,?_⟩
  refine zaY (zaX (SqL.of (s3 _ _ hvs))) (((zeR i).map λr=>r++[1]).map nums) (by simp[lvs]) (zao (by omega)) (λj x' d H4 R hj hd s4 hx' hR=>?_) (λv' H4 s4 n4=>?_)
  ·obtain⟨wa,r,rfl,hr',hwa⟩:=lsf.item hvs hx'
   rw[zgm,zgm,hr'] at hd;cases hd
   have lr2:=(zdN _ _ (zmg hr')).1
   ac_rfl
   refine⟨(by walk_at "sm"),λp hp=>?_⟩
   have t1:=zad hp (.lst [.int 1])
   ac_rfl
   refine zbr (t1 _ _ (s4 _ _ (s3 _ _ hwa))) zaa (zao (by simp;omega)) λp' hp'=>?_
   exact hR _ _ (t1.trans (zad hp' _)) (New.iif.mpr ⟨p',rfl,t1.free hp',by rw[zaa,List.map_append];rfl⟩)
  obtain⟨a1,vs1,f1,rfl,z1,y1,r1,_⟩:=New.lso n3
  obtain⟨a2,vs2,f2,rfl,z2,y2,r2,_⟩:=New.lso n4
  have l1:=r1.length
  have l2:=r2.length
  simp only[zlm] at l1 l2
  ac_rfl
  refine zbr (s4 _ _ y1) y2 (zao (by omega)) λp hp=>?_
  ac_rfl
  refine⟨_,p,by omega,rfl,(s2.trans (s3.trans s4)).trans (zad hp _),?_⟩
  have:=New.cat (n3.back s2) (s2.trans s3) s4 n4 (s4 _ _ y1) y2 hp
  rw[<-List.map_append] at this
  exact this
 ·rintro σ H2 ⟨x,fa,him,rfl,s2,n2⟩
  ac_rfl
  exact q _ _ s2 n2
inductive Q40 (K:Fg)(vs:List V)(H:Hp)(Q:VK)(E:XK):Prop
 | mk (d ga ha:Addr) (goal:List Int) (hyps:List (List Int)) (xs:List V):vs=[.ref d]->SqT K H d [.ref ga,.ref ha]->H ga=some (.lst (goal.map V.int))->H ha=some (.lst xs)->Reps K H (hyps.map nums) xs->goal.length=9->(∀ l∈hyps,l.length=9)->hyps.length<=8->(∀ v H',Same H H'->New H H' (rowD (zct goal hyps)) v->Q v H')->Q40 K vs H Q E
theorem zql{r:List Int}(h:r∈zeR n):∀ w∈r,CB w:=λw hw=>by
 have:=(zdN _ _ h).2 w hw
 unfold CB
 rcases this with z | z <;> exact⟨by omega,by omega⟩
include B Z in
theorem znC (Q41:Fn P w K mg b8 "noughts_and_ones" ["count"] 1 (zdd K))(Q3f:Fn P w K mg b8 "shows" ["duty","row"] 2 (ziR K))(F:Fun K "sought" "sought" zgl f fd)(m:mg "sought"=some (.ref f)):Fn P w K mg b8 "sought" ["duty"] 3 (Q40 K):=by
 refine Fn.of (k:=2) F zfB m (λ_ _ _ _ _ _ us hl=>(by obtain⟨_,rfl⟩:=len1 hl;rfl)) (λvs H Q E h=>?_) (λcdv A outer s H vs Q E hr h=>?_)
 ·first
  | (obtain⟨_,_,_,_,_,_,rfl,_⟩:=h;rfl)
 obtain⟨d,ga,ha,goal,hyps,xs,rfl,hd,hga,hha,hx,l9,h9,hl,q⟩:=h
 obtain⟨gw,g_WHOLES,hT⟩:=B.t_WHOLES
 have lx:=hx.length
 rw[zlm] at lx
 refine⟨_,(zag (zat (i:=1) zfB.nd rfl (Or.inl rfl) (zap Q41 hr rfl (zaC (zav (zd0 K) rfl B.len L2.boot_len (zaD (zau (k_ix K) (pv 0) zae (λ_ _=>rfl)) zab)) zab)))
   (zag (zek PassesOwn.never rfl (zjg K (zb2 rfl g_WHOLES)) (zay (i:=2) zfB.nd rfl (Or.inl rfl)) (zah (zek PassesOwn.never rfl (zbj K (pv 1)) (zay (i:=3) zfB.nd rfl (Or.inl rfl)) (zah (zbd (zcJ (zap Q3f hr rfl (zac (pv 0) (zm2 (zdm (zac (pv 2) (zac (pv 3) zab))) zab)))) (zah (zaq (zdm (zac (pv 2) (zac (pv 3) zab))))) zaE)))))
   (zah (zaq zdl)))),?_⟩
 ac_rfl
 refine zaJ hd (v:=.ref ha) (zaB (j:=1) rfl) ?_
 ac_rfl
 refine zep (.inl (SqL.of hha)) ?_
 ac_rfl
 refine⟨xs.length,rfl,by omega,λv H1 s1 n1=>?_⟩
 rw[<-lx] at n1
 obtain⟨ra,rfl,ra0,lsr⟩:=n1.ls
 obtain⟨vs,hvs,lvs⟩:=lsr.len
 have lr:=znB (n:=hyps.length) hl
 ac_rfl
 refine⟨gw,rfl,⟨_,hT _⟩,?_⟩
 refine zfM (n:=4) (zfm (xs:=([1,2,3,4]:List Int).map V.int) (hT H1)) (λi σ H2=>∃ x y,A3 (σ=[some (.ref d),some (.ref ra),x,y]) (Same H1 H2) ((([1,2,3,4]:List Int).take i).findSome? (ziw goal hyps)=none))
  ⟨none,none,rfl,Same.refl _,rfl⟩ (λi σ H2 ⟨_,_,_,e,_⟩=>e) ?_ ?_
 ·rintro i v σ H2 H3 hi ⟨x,y,rfl,s2,f2⟩ s3 hv
  rw[zgm] at hv
  obtain⟨w,hw,rfl⟩:=zme.mp hv
  have w4:1<=w/\w<=4:=by
   have:=zmg hw
   simp at this
   omega
  have s13:=s2.trans s3
  ac_rfl
  refine⟨ra,rfl,⟨_,SqL.of (s13 _ _ hvs)⟩,?_⟩
  refine zfM (zaX (SqL.of (s13 _ _ hvs))) (λj σ H4=>∃ y,A3 (σ=[some (.ref d),some (.ref ra),some (.int w),y]) (Same H3 H4) (((zeR hyps.length).take j).findSome? (zju goal hyps w)=none))
   ⟨y,rfl,Same.refl _,rfl⟩ (λi σ H2 ⟨_,_,e,_⟩=>e) ?_ ?_
  ·rintro j v σ H4 H5 hj ⟨y',rfl,s4,f4⟩ s5 hv
   obtain⟨wa,r,rfl,hr',hwa⟩:=lsr.item hvs hv
   have hm:=zmg hr'
   have lr2:=(zdN _ _ hm).1
   have s15:=s13.trans (s4.trans s5)
   have s05:=s1.trans s15
   ac_rfl
   refine⟨(by walk_at "sm"),λT hTT=>?_⟩
   have t1:=zad hTT (.tup [.int w,.ref wa])
   have s06:=s05.trans t1
   ac_rfl
   refine .inr ⟨d,T,ga,ha,wa,goal,hyps,xs,w,r,rfl,s06.tup hd,s06 _ _ hga,s06 _ _ hha,Reps.same s06 _ hx,SqT.of zaa,SqL.of (t1 _ _ (s15 _ _ hwa)),l9,h9,by omega,by omega,by unfold CB;exact⟨by omega,by omega⟩,zql hm,λH7 s7=>?_⟩
   have s17:=s15.trans (t1.trans s7)
   cases hb:zg2 goal hyps w r with
   | true=>
    ac_rfl
    refine⟨(by walk_at "sm"),λT2 hT2=>?_⟩
    have e1:zju goal hyps w r=some (w,r):=by unfold zju;rw[if_pos hb]
    have e2:ziw goal hyps w=some (w,r):=zix f4 hr' e1
    have e3:zct goal hyps=some (w,r):=zix f2 hw e2
    have n7:New H H7 (nums r) (.ref wa):=(New.item (d:=nums r) n1 hvs (by rw[zgm,hr'];rfl) hv).same s17
    refine q _ _ ((s1.trans s17).trans (zad hT2 _)) ?_
    rw[e3]
    exact n7.pairT hT2
   | false=>
    ac_rfl
    refine⟨_,rfl,s4.trans (s5.trans (t1.trans s7)),zg3 f4 hr' ?_⟩
    unfold zju
    rw[if_neg (by rw[hb];decide)]
  ·rintro σ H4 ⟨y',rfl,s4,f4⟩
   refine⟨_,_,rfl,s13.trans s4,zg3 f2 hw ?_⟩
   exact zlg f4 (by omega)
 ·rintro σ H2 ⟨x,y,rfl,s2,f2⟩
  ac_rfl
  refine q _ _ (s1.trans s2) ?_
  have e3:zct goal hyps=none:=zlg f2 (by decide)
  rw[e3]
  exact New.non
inductive Q42 (K:Fg)(C:Nat->Addr)(vs:List V)(H:Hp)(Q:VK)(E:XK):Prop
 | mk (ha dx:Addr):vs=[.ref ha]->H ha=some (.ins (C 7) dx [])->(∀ la va H',H la=none->H va=none->la≠va->OffA [ha] H H'->H' ha=some (.ins (C 7) dx (hfl la va))->H' la=some (.dK [])->H' va=some (.dK [])->Q .non H')->Q42 K C vs H Q E
include B Z in
theorem zqm (F:Fun K "__init__" "Hall.__init__" zb9 f fd)(M:Mk K (C 7) f):Mkr P w K mg b8 "Hall" (C 7) ["self"] 1 (Q42 K C):=by
 refine⟨f,fd,M,F.ok (k:=0) zgb (λvs H Q E h=>?_) (λcdv A outer s H vs Q E hr h=>?_),F.binds λ_ _ _ _ _ _ us hl=>(by obtain⟨_,rfl⟩:=len1 hl;rfl),Z.m_Hall⟩
 ·first
  | (obtain⟨_,_,rfl,_⟩:=h;rfl)
 obtain⟨ha,dx,rfl,hh,q⟩:=h
 refine⟨_,(zag (zbB (pv 0) zgr rfl)
   (zah (zbB (pv 0) zgr rfl))),?_⟩
 walk_at "q"
 nofun
 intro la la0
 have e1:(upd H la (.dK [])) ha=some (.ins (C 7) dx []):=by rw[zai (zan hh la0)];exact hh
 nofun
 refine⟨ha,(C 7),dx,[],rfl,e1,Z.c_Hall,Z.n_Hall_laid,by show 0<1000;decide,?_⟩
 nofun
 intro va va0
 have nha:va≠ha:=λz=>by rw[z,zaa] at va0;cases va0
 have nla:va≠la:=λz=>by rw[z,zai (zan hh la0).symm,zaa] at va0;cases va0
 have v0:H va=none:=by rw[zai nha,zai nla] at va0;exact va0
 nofun
 refine⟨ha,(C 7),dx,_,rfl,by rw[zai nha.symm,zaa],Z.c_Hall,Z.n_Hall_vouched,Nat.lt_of_lt_of_le (za0 (n:=1) (by decide)) (by decide),?_⟩
 have nl:la≠ha:=(zan hh la0).symm
 refine q la va _ la0 v0 nla.symm (λb o n e=>?_) zaa ?_ ?_
 ·have n1:b≠ha:=λz=>n (by simp[z])
  rw[zai n1,zai (zan e v0),zai n1,zai (zan e la0)]
  exact e
 ·rw[zai nl,zai nla.symm,zai nl,zaa]
 ·rw[zai nha,zaa]
inductive Q55 (K:Fg)(C:Nat->Addr)(vs:List V)(H:Hp)(Q:VK)(E:XK):Prop
 | mk (ha la va:Addr) (n:Int) (ks:List Int) (cr:Int->Cr) (ws:List Int) (fp:List Addr):vs=[.ref ha,.int n]->HAt (C 7) (C 0) H ha la va ks cr ws fp->(∀ H' ws',OffA [va] H H'->HAt (C 7) (C 0) H' ha la va ks cr ws' fp->(∀ m,m∈ws'↔m∈ws/\m≠n)->Q .non H')->Q55 K C vs H Q E
include B Z in
theorem zhp (F:Fun K "release" "Hall.release" zcz f fd)(M:Meth K (C 7) "release" f):Mth CX0 P w K mg b8 (C 7) "release" ["self","number"] 1 (Q55 K C):=by
 refine⟨f,fd,M,F.ok (k:=0) zhf (λvs H Q E h=>?_) (λcdv A outer s H vs Q E hr h=>?_),F.binds λ_ _ _ _ _ _ us hl=>(by obtain⟨_,_,rfl⟩:=len2 hl;rfl)⟩
 ·first
  | (obtain⟨_,_,_,_,_,_,_,_,rfl,_⟩:=h;rfl)
 obtain⟨ha,la,va,n,ks,cr,ws,fp,rfl,hA,q⟩:=h
 refine⟨_,(zah (za3 (znV (zax K (pv 0) rfl) (pv 1) zdl ⟨rfl,rfl,rfl,rfl⟩))),?_⟩
 obtain⟨dx,hh⟩:=hA.ins
 obtain⟨kvs,hva,hk⟩:=hA.vou
 nofun
 refine⟨ha,(C 7),dx,_,_,rfl,hh,Z.c_Hall,Z.n_Hall_vouched,zdO _ _,?_⟩
 refine⟨va,rfl,.inl ⟨_,.inl hva⟩,?_⟩
 nofun
 refine⟨kvs,.inl n,hva,rfl,λv hv=>?_,λhv=>?_⟩
 ·nofun
  refine q _ _ (zbE (by simp)) (hA.putV hk.drop λm hm=>hA.sub m (List.mem_filter.mp hm).1) λm=>?_
  rw[List.mem_filter,decide_eq_true_eq]
 ·nofun
  refine q _ ws (Same.refl _).offA hA λm=>⟨λhm=>⟨hm,λz=>?_⟩,λhm=>hm.1⟩
  subst z
  obtain⟨v,e,_⟩:=hk.2.2 m hm
  rw[e] at hv;cases hv
inductive Q53 (K:Fg)(C:Nat->Addr)(vs:List V)(H:Hp)(Q:VK)(E:XK):Prop
 | mk (ha la va:Addr) (n:Int) (ks:List Int) (cr:Int->Cr) (ws:List Int) (fp:List Addr):vs=[.ref ha,.int n]->HAt (C 7) (C 0) H ha la va ks cr ws fp->(∀ v H',Same H H'->New H H' (nums (ze9 ks cr n)) v->Q v H')->Q53 K C vs H Q E
include B Z in
theorem zfY (Q10:Fn P w K mg b8 "called_by" ["craft"] 1 (Qf K C))(F:Fun K "called_at" "Hall.called_at" zbY f fd)(M:Meth K (C 7) "called_at" f):Mth CX0 P w K mg b8 (C 7) "called_at" ["self","number"] 2 (Q53 K C):=by
 refine⟨f,fd,M,F.ok (k:=1) zfS (λvs H Q E h=>?_) (λcdv A outer s H vs Q E hr h=>?_),F.binds λ_ _ _ _ _ _ us hl=>(by obtain⟨_,_,rfl⟩:=len2 hl;rfl)⟩
 ·first
  | (obtain⟨_,_,_,_,_,_,_,_,rfl,_⟩:=h;rfl)
 obtain⟨ha,la,va,n,ks,cr,ws,fp,rfl,hA,q⟩:=h
 refine⟨_,(zag (zbd (zhS (zmE (hr_u hr) (pv 1) (zax K (pv 0) rfl))) (zah (zaq (zap Q10 hr rfl (zaD (zdZ (hr_u hr) (zax K (pv 0) rfl) (pv 1) (λ_ _=>rfl)) zab)))) zaE)
   (zah (zaq (zaO zab)))),?_⟩
 obtain⟨dx,hh⟩:=hA.ins
 obtain⟨kvs,hla,hk⟩:=hA.laid
 unfold ze9 at q
 walk_at "q"
 nofun
 refine⟨ha,(C 7),dx,_,_,rfl,hh,Z.c_Hall,Z.n_Hall_laid,zdB _ _,?_⟩
 refine⟨la,_,rfl,DGet.k (k:=.inl n) hla,?_⟩
 by_cases hm:n∈ks
 ·obtain⟨v,hv,p,f,rfl,hC,hf⟩:=hk.2.2 n hm
  rw[if_pos hm] at q
  have rt:=hA.rt n hm
  obtain⟨_,dx',w1,w2,b3,w4,dvs,hp,hb3,hD⟩:=hC.t (K:=K) rt.nine.d9
  rw[hv]
  nofun
  refine zeQ (λ_=>?_) (λz=>by cases z)
  nofun
  refine⟨ha,(C 7),dx,_,_,rfl,hh,Z.c_Hall,Z.n_Hall_laid,zdB _ _,?_⟩
  nofun
  refine⟨la,.ref p,rfl,by rw[<-hv];exact DGet.k (k:=.inl n) hla,?_⟩
  nofun
  exact⟨p,dx',b3,w1,w2,w4,dvs,(cr n).deeds,rfl,hp,hb3,hD,by have:=rt.nine.d;omega,q⟩
 ·rw[if_neg hm] at q
  rw[hk.no hm]
  nofun
  refine zeQ (λz=>by cases z) (λ_=>?_)
  nofun
  refine⟨(by walk_at "sm"),λp hp=>?_⟩
  exact q _ _ (zad hp _) (New.iif.mpr ⟨p,rfl,hp,zaa⟩)
inductive Q57 (K:Fg)(C:Nat->Addr)(vs:List V)(H:Hp)(Q:VK)(E:XK):Prop
 | mk (ha la va:Addr) (n:Int) (ks:List Int) (cr:Int->Cr) (ws:List Int) (fp:List Addr):vs=[.ref ha,.int n]->HAt (C 7) (C 0) H ha la va ks cr ws fp->(∀ H' ws',OffA [va] H H'->HAt (C 7) (C 0) H' ha la va ks cr ws' fp->(∀ m,m∈ws'↔m∈ws/\n∉ze9 ks cr m)->Q .non H')->Q57 K C vs H Q E
include B Z in
theorem zd9 (Q54:Mth CX0 P w K mg b8 (C 7) "called_at" ["self","number"] 2 (Q53 K C))(Q56:Mth CX0 P w K mg b8 (C 7) "release" ["self","number"] 1 (Q55 K C))(F:Fun K "release_callers" "Hall.release_callers" zbm f fd)(M:Meth K (C 7) "release_callers" f):Mth CX0 P w K mg b8 (C 7) "release_callers" ["self","number"] 3 (Q57 K C):=by
 refine⟨f,fd,M,F.ok (k:=2) zcn (λvs H Q E h=>?_) (λcdv A outer s H vs Q E hr h=>?_),F.binds λ_ _ _ _ _ _ us hl=>(by obtain⟨_,_,rfl⟩:=len2 hl;rfl)⟩
 ·first
  | (obtain⟨_,_,_,_,_,_,_,_,rfl,_⟩:=h;rfl)
 obtain⟨ha,la,va,n,ks,cr,ws,fp,rfl,hA,q⟩:=h
 refine⟨_,(zah (zek PassesOwn.never rfl (zbj K (zdH (zlJ rfl) rfl B.list L2.zdJ (za5 (zax K (pv 0) rfl) zab))) (zay (i:=2) zcn.nd rfl (Or.inl rfl)) (zah (zbd (zaA (k_in K) (pv 1) (zbc Q54 Z.c_Hall hr zbi (pv 0) (zac (pv 2) zab)) rfl) (zah (za3 (zbc Q56 Z.c_Hall hr zbi (pv 0) (zac (pv 2) zab)))) zaE)))),?_⟩
 obtain⟨dx,hh⟩:=hA.ins
 obtain⟨kvs,hva,hk⟩:=hA.vou
 have nd:=hk.2.1
 nofun
 refine⟨ha,(C 7),dx,_,_,rfl,hh,Z.c_Hall,Z.n_Hall_vouched,zdO _ _,?_⟩
 nofun
 refine zpW hva hk.1 λl hl=>?_
 have s0:=zad hl (.lst (ws.map V.int))
 have nlv:l≠va:=(zan hva hl).symm
 refine⟨l,rfl,⟨_,SqL.of zaa⟩,?_⟩
 refine zmV (xs:=ws.map V.int) (λi σ H'=>∃ x ws',A4 (σ=[some (.ref ha),some (.int n),x]) (OffA [va] (upd H l (.lst (ws.map V.int))) H') (HAt (C 7) (C 0) H' ha la va ks cr ws' fp) (∀ m,m∈ws'↔m∈ws/\(m∈ws.take i->n∉ze9 ks cr m)))
  ⟨none,ws,rfl,(Same.refl _).offA,hA.same s0,λm=>by simp⟩ (λi σ H' _ ⟨_,_,_,e,_,_⟩=>SqL.of (e _ _ (by simp[nlv]) zaa)) ?_ ?_
 ·rintro i v σ H2 hv ⟨x,ws',rfl,o2,hA2,hm2⟩
  rw[zgm] at hv
  obtain⟨m0,hm0,rfl⟩:=zme.mp hv
  obtain⟨dx2,hh2⟩:=hA2.ins
  nofun
  refine⟨ha,dx2,_,rfl,hh2,zd3 (by decide +kernel) (by decide +kernel),?_⟩
  nofun
  refine⟨ha,la,va,m0,ks,cr,ws',fp,rfl,hA2,λv H3 s3 n3=>?_⟩
  obtain⟨ca,rfl,ca0,ca1⟩:=New.iif.mp n3
  refine i_inI (SqL.of ca1) ?_
  have tk:∀ m,m∈ws.take (i+1)↔m∈ws.take i\/m=m0:=λm=>by
   rw[List.take_add_one,hm0];simp
  by_cases hc:n∈ze9 ks cr m0
  ·rw[decide_eq_true hc]
   nofun
   refine⟨ha,dx2,_,rfl,s3 _ _ hh2,zd3 (by decide +kernel) (by decide +kernel),?_⟩
   nofun
   refine⟨ha,la,va,m0,ks,cr,ws',fp,rfl,hA2.same s3,λH4 ws4 o4 hA4 hm4=>?_⟩
   nofun
   refine⟨_,ws4,rfl,o2.trans (s3.offA.trans o4),hA4,λm=>?_⟩
   rw[hm4,hm2,tk]
   constructor
   ·rintro⟨⟨h1,h2⟩,h3⟩
    exact⟨h1,λz=>by rcases z with z | z;exact h2 z;exact absurd z h3⟩
   ·rintro⟨h1,h2⟩
    exact⟨⟨h1,λz=>h2 (.inl z)⟩,λz=>h2 (.inr z) (by rw[z];exact hc)⟩
  ·rw[decide_eq_false hc]
   nofun
   refine⟨_,ws',rfl,o2.trans s3.offA,hA2.same s3,λm=>?_⟩
   rw[hm2,tk]
   constructor
   ·rintro⟨h1,h2⟩
    exact⟨h1,λz=>by rcases z with z | z;exact h2 z;rw[z];exact hc⟩
   ·rintro⟨h1,h2⟩
    exact⟨h1,λz=>h2 (.inl z)⟩
 ·rintro σ H2 ⟨x,ws',rfl,o2,hA2,hm2⟩
  nofun
  refine q _ ws' (s0.offA.trans o2) hA2 λm=>?_
  rw[hm2,zlm,List.take_of_length_le (Nat.le_refl _)]
  exact⟨λh=>⟨h.1,h.2 h.1⟩,λh=>⟨h.1,λ_=>h.2⟩⟩
inductive Q59 (K:Fg)(C:Nat->Addr)(vs:List V)(H:Hp)(Q:VK)(E:XK):Prop
 | mk (p q:Addr) (n1 l1 n2 l2:List (List Int)) (d1 d2:List D) (o1 o2:List (List (List Int))):vs=[.ref p,.ref q]->zbx K (C 0) H p n1 l1 d1 o1->zbx K (C 0) H q n2 l2 d2 o2->Q (.bl (decide (n1=n2) && decide (l1=l2))) H->Q59 K C vs H Q E
include B Z in
theorem zjR (F:Fun K "same_oath" "same_oath" zdT f fd)(m:mg "same_oath"=some (.ref f)):Fn P w K mg b8 "same_oath" ["craft","other"] 1 (Q59 K C):=by
 refine Fn.of (k:=0) F zjJ m (λ_ _ _ _ _ _ us hl=>(by obtain⟨_,_,rfl⟩:=len2 hl;rfl)) (λvs H Q E h=>?_) (λcdv A outer s H vs Q E hr h=>?_)
 ·first
  | (obtain⟨_,_,_,_,_,_,_,_,_,_,rfl,_⟩:=h;rfl)
 obtain⟨p,q,n1,l1,n2,l2,d1,d2,o1,o2,rfl,hP,hQ,k⟩:=h
 refine⟨_,(zah (zaq (zbO (zbt (k_eq K hr) (zax K (pv 0) rfl) (zax K (pv 1) rfl) (zaw _)) (zcq (zbt (k_eq K hr) (zax K (pv 0) rfl) (zax K (pv 1) rfl) (zaw _)))))),?_⟩
 obtain⟨dx,w1,w2,w3,w4,hp,r1,r2,_,_⟩:=hP
 obtain⟨dy,u1,u2,u3,u4,hq,t1,t2,_,_⟩:=hQ
 obtain⟨a1,rfl⟩:∃ b,w1=.ref b:=by unfold zaz Rep at r1;obtain⟨a,_,e,_⟩:=r1;exact⟨a,e⟩
 obtain⟨a2,rfl⟩:∃ b,w2=.ref b:=by unfold zaz Rep at r2;obtain⟨a,_,e,_⟩:=r2;exact⟨a,e⟩
 obtain⟨b1,rfl⟩:∃ b,u1=.ref b:=by unfold zaz Rep at t1;obtain⟨a,_,e,_⟩:=t1;exact⟨a,e⟩
 obtain⟨b2,rfl⟩:∃ b,u2=.ref b:=by unfold zaz Rep at t2;obtain⟨a,_,e,_⟩:=t2;exact⟨a,e⟩
 nofun
 refine⟨p,(C 0),dx,_,_,rfl,hp,Z.c_Craft,Z.n_Craft_needs,zcC _ _ _ _,?_⟩
 nofun
 refine⟨q,(C 0),dy,_,_,rfl,hq,Z.c_Craft,Z.n_Craft_needs,zcC _ _ _ _,?_⟩
 refine zn7 r1 t1 (Nat.le_trans (zjh _) (by decide)) ?_
 rw[zh7]
 refine zdK (λe=>?_) (λe=>by rw[e,Bool.false_and] at k;exact k)
 rw[e,Bool.true_and] at k
 nofun
 refine⟨p,(C 0),dx,_,_,rfl,hp,Z.c_Craft,Z.n_Craft_leaves,zck _ _ _ _,?_⟩
 nofun
 refine⟨q,(C 0),dy,_,_,rfl,hq,Z.c_Craft,Z.n_Craft_leaves,zck _ _ _ _,?_⟩
 refine zn7 r2 t2 (Nat.le_trans (zjh _) (by decide)) ?_
 rw[zh7]
 exact k
inductive Q43 (K:Fg)(C:Nat->Addr)(vs:List V)(H:Hp)(Q:VK)(E:XK):Prop
 | mk (ha la va p:Addr) (n:Int) (ks:List Int) (cr:Int->Cr) (ws:List Int) (fp:List Addr) (c:Cr):vs=[.ref ha,.int n,.ref p]->HAt (C 7) (C 0) H ha la va ks cr ws fp->zet K (C 0) H p c.needs c.leaves c.deeds c.notes->c.Nine->n.natAbs<zbn->(n∈ks\/ks.length<60)->(c.right=false->∀ H',Same H H'->E (.ref (C 2)) none H')->(c.right=true->∀ H' ks' ws' fp',OffA [la,va] H H'->HAt (C 7) (C 0) H' ha la va ks' (setC cr n c) ws' fp'->(∀ m,m∈ks'↔m∈ks\/m=n)->(n∈ks->ks'=ks)->(n∉ks->ks'=ks++[n])->
  (∀ m,m∈ws'↔m∈ws/\m≠n/\(n∈ks->¬ ((cr n).needs=c.needs/\(cr n).leaves=c.leaves)->n∉ze9 ks cr m))->(∀ b∈fp',b∈fp\/H b=none)->Q .non H')->Q43 K C vs H Q E
include B Z in
theorem zkI (Q56:Mth CX0 P w K mg b8 (C 7) "release" ["self","number"] 1 (Q55 K C))(Qe:Fn P w K mg b8 "copied_craft" ["craft"] 4 (Qd K C))(G_right:Fn P w K mg b8 "right" ["craft"] 7 (Q11 K C))(Q58:Mth CX0 P w K mg b8 (C 7) "release_callers" ["self","number"] 3 (Q57 K C))(Q5a:Fn P w K mg b8 "same_oath" ["craft","other"] 1 (Q59 K C))(F:Fun K "lay" "Hall.lay" zeC f fd)(M:Meth K (C 7) "lay" f):Mth (CX1 P w) P w K mg b8 (C 7) "lay" ["self","number","craft"] 8 (Q43 K C):=by
 refine⟨f,fd,M,F.okx (k:=7) zkC (λvs H Q E h=>?_) (λcdv A outer s H vs Q E hr h=>?_),F.binds λ_ _ _ _ _ _ us hl=>(by obtain⟨_,_,_,rfl⟩:=len3 hl;rfl)⟩
 ·first
  | (obtain⟨_,_,_,_,_,_,_,_,_,_,rfl,_⟩:=h;rfl)
 obtain⟨ha,la,va,p,n,ks,cr,ws,fp,c,rfl,hA,hT,nine,hn,hfew,qE,qQ⟩:=h
 refine⟨_,(zag (zbd (zgD (zcJ (zap G_right hr rfl (zac (pv 2) zab)))) (zah (zeM Z.e_BadSheet rfl Z.m_BadSheet rfl zfN (zaQ (zrF (pv 1) (by decide +kernel) (by decide +kernel)) zab))) zaE)
   (zag (zbd (PW.pt (zl5 (zhS (zmE (hr_u hr) (pv 1) (zax K (pv 0) rfl))) (zj2 (zgD (zcJ (zap Q5a hr rfl (zaD (zdZ (hr_u hr) (zax K (pv 0) rfl) (pv 1) (λ_ _=>rfl)) (zac (pv 2) zab)))))))) (zah (za3 (zbc Q58 Z.c_Hall hr zbi (pv 0) (zac (pv 1) zab)))) zaE)
   (zag (za3 (zbc Q56 Z.c_Hall hr zbi (pv 0) (zac (pv 1) zab)))
   (zah (ziq (hr_u hr) (zax K (pv 0) rfl) (pv 1) (zap Qe hr rfl (zac (pv 2) zab)) rfl))))),?_⟩
 have g1:=nine.n
 have g2:=nine.l
 have g3:=nine.d
 have g4:=nine.o
 walk_at "q"
 nofun
 refine⟨p,c.needs,c.leaves,c.deeds,c.notes,rfl,hT.1,by omega,by omega,by omega,by omega,nine.n9,nine.l9,nine.d9,λls hl=>⟨by have:=(nine.o9 ls hl).1;omega,(nine.o9 ls hl).2⟩,λH1 s1=>?_⟩
 cases hr':zeb c.needs c.leaves c.deeds c.notes with
 | false=>
  nofun
  refine⟨hn,λz=>?_⟩
  nofun
  exact⟨(by walk_at "sm"),qE hr' _ s1⟩
 | true=>
 have qQ:=qQ hr'
 clear qE
 have rtc:c.Rt:=⟨nine,hr'⟩
 nofun
 have hA1:=hA.same s1
 have hT1:=zet.same s1 hT
 have oA:∀ {Hx:Hp},OffA [va] H1 Hx->zet K (C 0) Hx p c.needs c.leaves c.deeds c.notes:=λ{Hx} o=>by
  obtain⟨kv,hv,_⟩:=hA1.vou
  have nd:=o.nod λa ha=>by rw[zms.mp ha];exact⟨_,hv⟩
  obtain⟨k0,dx,w1,w2,b3,w4,dvs,k1,k2,k3⟩:=hT1
  exact⟨k0.nod nd,dx,w1,w2,b3,w4,dvs,nd _ _ k1 (λ_ z=>by cases z),nd _ _ k2 (λ_ z=>by cases z),R2.mono k3 λ_ _ z=>z.sq nd.sq⟩
 -- who called it by another oath is let go
 with_reducible refine zh3 (λσ H'=>σ=[some (.ref ha),some (.int n),some (.ref p)]/\∃ ws',OffA [va] H1 H'/\HAt (C 7) (C 0) H' ha la va ks cr ws' fp/\∀ m,m∈ws'↔m∈ws/\(n∈ks->¬ ((cr n).needs=c.needs/\(cr n).leaves=c.leaves)->n∉ze9 ks cr m)) (λNX tail=>?_) ?_
 ·obtain⟨dx,hh⟩:=hA1.ins
  obtain⟨kvs,hla,hk⟩:=hA1.laid
  nofun
  refine⟨ha,(C 7),dx,_,_,rfl,hh,Z.c_Hall,Z.n_Hall_laid,zdB _ _,?_⟩
  refine⟨la,_,rfl,DGet.k (k:=.inl n) hla,?_⟩
  by_cases hm:n∈ks
  ·obtain⟨v,hv,q,f,rfl,hC,hf⟩:=hk.2.2 n hm
   rw[hv]
   nofun
   refine zeQ (λ_=>?_) (λz=>by cases z)
   nofun
   refine⟨ha,(C 7),dx,_,_,rfl,hh,Z.c_Hall,Z.n_Hall_laid,zdB _ _,?_⟩
   nofun
   refine⟨la,.ref q,rfl,by rw[<-hv];exact DGet.k (k:=.inl n) hla,?_⟩
   nofun
   refine⟨q,p,(cr n).needs,(cr n).leaves,c.needs,c.leaves,_,_,_,_,rfl,hC.at,hT1.1,?_⟩
   cases hs:(decide ((cr n).needs=c.needs) && decide ((cr n).leaves=c.leaves)) with
   | true=>
    nofun
    rw[Bool.and_eq_true,decide_eq_true_eq,decide_eq_true_eq] at hs
    exact tail _ _ ⟨rfl,ws,(Same.refl _).offA,hA1,λm=>⟨λz=>⟨z,λ_ w=>absurd hs w⟩,λz=>z.1⟩⟩
   | false=>
    have hs':¬ ((cr n).needs=c.needs/\(cr n).leaves=c.leaves):=λz=>by
     rw[decide_eq_true z.1,decide_eq_true z.2] at hs;cases hs
    nofun
    refine⟨ha,dx,_,rfl,hh,zd3 (by decide +kernel) (by decide +kernel),?_⟩
    nofun
    refine⟨ha,la,va,n,ks,cr,ws,fp,rfl,hA1,λH2 ws2 o2 hA2 hm2=>?_⟩
    nofun
    refine tail _ _ ⟨rfl,ws2,o2,hA2,λm=>?_⟩
    rw[hm2]
    exact⟨λz=>⟨z.1,λ_ _=>z.2⟩,λz=>⟨z.1,z.2 hm hs'⟩⟩
  ·rw[hk.no hm]
   nofun
   refine zeQ (λz=>by cases z) (λ_=>?_)
   nofun
   exact tail _ _ ⟨rfl,ws,(Same.refl _).offA,hA1,λm=>⟨λz=>⟨z,λw=>absurd w hm⟩,λz=>z.1⟩⟩
 rintro σ H2 ⟨rfl,ws2,o2,hA2,hm2⟩
 obtain⟨dx2,hh2⟩:=hA2.ins
 walk_at "q"
 nofun
 refine⟨ha,dx2,_,rfl,hh2,zd3 (by decide +kernel) (by decide +kernel),?_⟩
 nofun
 refine⟨ha,la,va,n,ks,cr,ws2,fp,rfl,hA2,λH3 ws3 o3 hA3 hm3=>?_⟩
 have o13:=o2.trans o3
 nofun
 refine⟨p,c,rfl,oA o13,nine,λq f H4 s4 hC hf fn=>?_⟩
 have hA4:=hA3.same s4
 obtain⟨dx4,hh4⟩:=hA4.ins
 obtain⟨kvs,hla,hk⟩:=hA4.laid
 nofun
 refine⟨ha,(C 7),dx4,_,_,rfl,hh4,Z.c_Hall,Z.n_Hall_laid,zdB _ _,?_⟩
 nofun
 have hkl:=hk.len
 have h60:=hA.few
 refine⟨la,_,rfl,DPut.k (k:=.inl n) hla (zc3 (by omega)),?_⟩
 have nd5:NoD H4 (upd H4 la (.dK (putK kvs (.inl n) (.ref q)))):=zg6 hla
 obtain⟨kv,hva,hkv⟩:=hA4.vou
 have put:=hk.put' (m:=n) (v:=.ref q) (P':=CrIn (C 0) (upd H4 la (.dK (putK kvs (.inl n) (.ref q)))) (setC cr n c) (f++fp)) ⟨q,f,rfl,by unfold setC;rw[if_pos rfl];exact hC.nod nd5,λb hb=>List.mem_append_left _ hb⟩ (λk v ne ⟨p',f',e1,e2,e3⟩=>⟨p',f',e1,by unfold setC;rw[if_neg ne];exact e2.nod nd5,λb hb=>List.mem_append_right _ (e3 b hb)⟩)
 have kss:∀ m,m∈(if n∈ks then ks else ks++[n])↔m∈ks\/m=n:=λm=>by
  by_cases z:n∈ks
  ·rw[if_pos z]
   exact⟨.inl,λw=>by rcases w with w | w;exact w;rw[w];exact z⟩
  ·rw[if_neg z];simp
 refine qQ _ (if n∈ks then ks else ks++[n]) ws3 (f++fp) ?_ ⟨?_,⟨_,zaa,put⟩,⟨kv,by rw[zai hA4.ne.symm];exact hva,hkv⟩,hA4.ne,λm hm=>?_,?_,λm hm=>?_,λb hb=>?_⟩ kss (λz=>by rw[if_pos z]) (λz=>by rw[if_neg z]) (λm=>?_) (λb hb=>?_)
 ·refine OffA.trans (s1.offA.trans ?_) (s4.offA.trans (zbE (by simp)))
  exact OffA.putDict o13 λb hb=>by rw[zms.mp hb];simp
 ·exact⟨dx4,nd5 _ _ hh4 (λ_ z=>by cases z)⟩
 ·unfold setC
  by_cases z:m=n
  ·rw[if_pos z];exact rtc
  ·rw[if_neg z]
   exact hA.rt m (by rcases (kss m).mp hm with w | w;exact w;exact absurd w z)
 ·by_cases z:n∈ks
  ·rw[if_pos z];exact hA.few
  ·rw[if_neg z,List.length_append,List.length_singleton]
   rcases hfew with w | w
   ·exact absurd w z
   ·omega
 ·exact (kss m).mpr (.inl (hA4.sub m hm))
 ·rcases zma.mp hb with z | z
  ·obtain⟨o,e,n⟩:=hC.hasN b z
   exact⟨o,nd5 b o e n,n⟩
  ·obtain⟨o,e,n⟩:=hA4.has b z
   exact⟨o,nd5 b o e n,n⟩
 ·rw[hm3,hm2]
  exact⟨λz=>⟨z.1.1,z.2,z.1.2⟩,λz=>⟨⟨z.1,z.2.2⟩,z.2.1⟩⟩
 ·rcases zma.mp hb with z | z
  ·right
   have e3:=hf b z
   cases eb:H b with
   | none=>rfl
   | some o=>
    exfalso
    by_cases nb:b=va
    ·obtain⟨kv3,hv3,_⟩:=hA3.vou
     rw[nb,hv3] at e3;cases e3
    ·have:=o13 b o (by simp[nb]) (s1 _ _ eb)
     rw[this] at e3;cases e3
  ·exact .inl z
inductive Q45 (K:Fg)(C:Nat->Addr)(vs:List V)(H:Hp)(Q:VK)(E:XK):Prop
 | mk (ha la va:Addr) (ks:List Int) (cr:Int->Cr) (ws:List Int) (fp:List Addr):vs=[.ref ha]->HAt (C 7) (C 0) H ha la va ks cr ws fp->(∀ (l:Addr) (ns:List Int),H l=none->ns.Perm ks->ns.Pairwise (·<=·)->Q (.ref l) (upd H l (.lst (ns.map V.int))))->Q45 K C vs H Q E
include B Z in
theorem zgg (F:Fun K "standing" "Hall.standing" zca f fd)(M:Meth K (C 7) "standing" f):Mth CX0 P w K mg b8 (C 7) "standing" ["self"] 1 (Q45 K C):=by
 refine⟨f,fd,M,F.ok (k:=0) zgc (λvs H Q E h=>?_) (λcdv A outer s H vs Q E hr h=>?_),F.binds λ_ _ _ _ _ _ us hl=>(by obtain⟨_,rfl⟩:=len1 hl;rfl)⟩
 ·first
  | (obtain⟨_,_,_,_,_,_,_,rfl,_⟩:=h;rfl)
 obtain⟨ha,la,va,ks,cr,ws,fp,rfl,hA,q⟩:=h
 refine⟨_,(zah (zaq (zav (zjo rfl) rfl B.sorted L2.zgW (za5 (zax K (pv 0) rfl) zab)))),?_⟩
 obtain⟨dx,hh⟩:=hA.ins
 obtain⟨kvs,hla,hk⟩:=hA.laid
 have h60:=hA.few
 nofun
 refine⟨ha,(C 7),dx,_,_,rfl,hh,Z.c_Hall,Z.n_Hall_laid,zdB _ _,?_⟩
 nofun
 exact zpX hla hk.1 (by omega) q
inductive Q47 (K:Fg)(C:Nat->Addr)(vs:List V)(H:Hp)(Q:VK)(E:XK):Prop
 | mk (ha la va:Addr) (ks:List Int) (cr:Int->Cr) (ws:List Int) (fp:List Addr):vs=[.ref ha]->HAt (C 7) (C 0) H ha la va ks cr ws fp->(∀ ca H' kvs (ns:List Int) (F:Int->List Addr),Same H H'->H ca=none->H' ca=some (.dK kvs)->ns.Perm ks->ns.Pairwise (·<=·)->KVs (λm v=>∃ p,v=.ref p/\zbw (C 0) H' p (cr m) (F m)) kvs ns->(∀ m∈ns,∀ b∈F m,H b=none)->(∀ m∈ns,(F m).Nodup)->(∀ m∈ns,∀ k∈ns,m≠k->∀ b∈F m,b∉F k)->Q (.ref ca) H')->Q47 K C vs H Q E
include B Z in
theorem zhM (Q46:Mth CX0 P w K mg b8 (C 7) "standing" ["self"] 1 (Q45 K C))(Qe:Fn P w K mg b8 "copied_craft" ["craft"] 4 (Qd K C))(F:Fun K "crafts" "Hall.crafts" zcT f fd)(M:Meth K (C 7) "crafts" f):Mth CX0 P w K mg b8 (C 7) "crafts" ["self"] 5 (Q47 K C):=by
 refine⟨f,fd,M,F.ok (k:=4) zdE (λvs H Q E h=>?_) (λcdv A outer s H vs Q E hr h=>?_),F.binds λ_ _ _ _ _ _ us hl=>(by obtain⟨_,rfl⟩:=len1 hl;rfl)⟩
 ·first
  | (obtain⟨_,_,_,_,_,_,_,rfl,_⟩:=h;rfl)
 obtain⟨ha,la,va,ks,cr,ws,fp,rfl,hA,q⟩:=h
 refine⟨_,(zag (zat (i:=1) zdE.nd rfl (Or.inl rfl) zgr)
   (zag (zek PassesOwn.never rfl (zbj K (zcg Q46 Z.c_Hall hr zbi (pv 0))) (zay (i:=2) zdE.nd rfl (Or.inl rfl)) (zah (ziq (hr_u hr) (pv 1) (pv 2) (zap Qe hr rfl (zaD (zdZ (hr_u hr) (zax K (pv 0) rfl) (pv 2) (λ_ _=>rfl)) zab)) rfl)))
   (zah (zaq (pv 1))))),?_⟩
 obtain⟨dx,hh⟩:=hA.ins
 have h60:=hA.few
 walk_at "q"
 nofun
 intro ca ca0
 have s1:=zad ca0 (.dK [])
 nofun
 walk_at "q"
 nofun
 refine⟨ha,dx,_,rfl,s1 _ _ hh,zd3 (by decide +kernel) (by decide +kernel),?_⟩
 nofun
 refine⟨ha,la,va,ks,cr,ws,fp,rfl,hA.same s1,λl ns l0 pm so=>?_⟩
 have s2:=zad l0 (.lst (ns.map V.int))
 have s12:=s1.trans s2
 have hca:=s2 _ _ (zaa (H:=H) (a:=ca) (o:=.dK []))
 have nlc:l≠ca:=λz=>by rw[z,zaa] at l0;cases l0
 have hl:(upd (upd H ca (.dK [])) l (.lst (ns.map V.int))) l=some (.lst (ns.map V.int)):=zaa
 generalize (upd (upd H ca (.dK [])) l (.lst (ns.map V.int)))=H2 at s2 s12 hca hl
 have nnd:ns.Nodup:=pm.nodup_iff.mpr hA.nd
 have nlen:=pm.length_eq
 refine⟨l,rfl,⟨_,SqL.of hl⟩,?_⟩
 refine zmV (xs:=ns.map V.int) (λi σ H'=>E3 λx kvs F=>A8 (σ=[some (.ref ha),some (.ref ca),x]) (Same H H') (NoD H2 H') (H' ca=some (.dK kvs)) (KVs (λm v=>∃ p,v=.ref p/\zbw (C 0) H' p (cr m) (F m)) kvs (ns.take i)) ((∀ m∈ns.take i,∀ b∈F m,H b=none)) ((∀ m∈ns.take i,(F m).Nodup)) ((∀ m∈ns.take i,∀ k∈ns.take i,m≠k->∀ b∈F m,b∉F k)))
  ⟨none,[],(λ_=>[]:Int->List Addr),rfl,s12,(Same.refl _).nod,hca,by rw[List.take_zero];exact KVs.nil,λm hm=>by simp at hm,λm hm=>by simp at hm,λm hm=>by simp at hm⟩ (λi σ H' _ ⟨_,_,_,_,_,nd,_,_,_,_,_⟩=>SqL.of (nd _ _ hl (λ_ z=>by cases z))) ?_ ?_
 ·rintro i v σ H3 hv ⟨x,kvs,F,rfl,s3,nd3,hc3,hk3,f3,u3,d3⟩
  rw[zgm] at hv
  obtain⟨m,hm,rfl⟩:=zme.mp hv
  have hi:i<ns.length:=(zge.mp hm).1
  have mk:m∈ks:=pm.mem_iff.mp (zmg hm)
  have mt:m∉ns.take i:=zks nnd hm
  have hA3:=hA.same s3
  obtain⟨dx3,hh3⟩:=hA3.ins
  obtain⟨kvl,hla,hkl⟩:=hA3.laid
  obtain⟨v,hv,p,f,rfl,hC,hf⟩:=hkl.2.2 m mk
  have rt:=hA.rt m mk
  nofun
  refine⟨ha,(C 7),dx3,_,_,rfl,hh3,Z.c_Hall,Z.n_Hall_laid,zdB _ _,?_⟩
  nofun
  refine⟨la,.ref p,rfl,by rw[<-hv];exact DGet.k (k:=.inl m) hla,?_⟩
  nofun
  refine⟨p,cr m,rfl,hC.t rt.nine.d9,rt.nine,λq fq H4 s4 hq fq0 fqn=>?_⟩
  have hc4:=s4 _ _ hc3
  have kl:=hk3.len
  rw[List.length_take] at kl
  nofun
  refine⟨ca,_,rfl,DPut.k (k:=.inl m) hc4 (zc3 (by omega)),?_⟩
  have nd5:NoD H4 (upd H4 ca (.dK (putK kvs (.inl m) (.ref q)))):=zg6 hc4
  have put:=hk3.put' (m:=m) (v:=.ref q) (P':=λk v=>∃ p,v=.ref p/\zbw (C 0) (upd H4 ca (.dK (putK kvs (.inl m) (.ref q)))) p (cr k) ((λj=>if j=m then fq else F j) k)) ⟨q,rfl,by simp only[if_pos];exact hq.nod nd5⟩ (λk v ne ⟨p',e1,e2⟩=>⟨p',e1,by simp only[if_neg ne];exact (e2.same s4).nod nd5⟩)
  rw[if_neg mt] at put
  have tk:ns.take (i+1)=ns.take i++[m]:=by rw[List.take_add_one,hm];rfl
  have old:∀ k∈ns.take i,∀ b∈F k,∃ o,H3 b=some o:=λk hk b hb=>by
   obtain⟨v,_,p',_,e2⟩:=hk3.2.2 k hk
   exact e2.has b hb
  refine⟨_,_,_,rfl,(s3.trans s4).put ca0,nd3.trans (s4.nod.trans nd5),zaa,by rw[tk];exact put,λk hk b hb=>?_,λk hk=>?_,λk hk j hj ne b hb=>?_⟩
  ·rw[tk] at hk
   by_cases z:k=m
   ·simp only[z,if_pos] at hb
    exact s3.fr b (fq0 b hb)
   ·simp only[if_neg z] at hb
    refine f3 k ?_ b hb
    rcases zma.mp hk with w | w
    ·exact w
    ·exact absurd (zms.mp w) z
  ·rw[tk] at hk
   by_cases z:k=m
   ·simp only[z,if_pos];exact fqn
   ·simp only[if_neg z]
    refine u3 k ?_
    rcases zma.mp hk with w | w
    ·exact w
    ·exact absurd (zms.mp w) z
  ·rw[tk] at hk hj
   have inT:∀ {k},k∈ns.take i++[m]->¬ k=m->k∈ns.take i:=λ{k} hk z=>by
    rcases zma.mp hk with w | w
    ·exact w
    ·exact absurd (zms.mp w) z
   by_cases z:k=m
   ·have zj:¬ j=m:=λw=>ne (z.trans w.symm)
    simp only[if_pos z] at hb
    simp only[if_neg zj]
    intro w
    obtain⟨o,ho⟩:=old j (inT hj zj) b w
    rw[fq0 b hb] at ho;cases ho
   ·simp only[if_neg z] at hb
    by_cases zj:j=m
    ·simp only[if_pos zj]
     intro w
     obtain⟨o,ho⟩:=old k (inT hk z) b hb
     rw[fq0 b w] at ho;cases ho
    ·simp only[if_neg zj]
     exact d3 k (inT hk z) j (inT hj zj) ne b hb
 ·rintro σ H3 ⟨x,kvs,F,rfl,s3,nd3,hc3,hk3,f3,u3,d3⟩
  rw[zlm,List.take_of_length_le (Nat.le_refl _)] at hk3 f3 u3 d3
  nofun
  exact q ca H3 kvs ns F s3 ca0 hc3 pm so hk3 f3 u3 d3
def znD (rs:List (Int × List Int)):Prop:=∀ r∈rs,r.2.length<=1000/\CB r.1/\∀ w∈r.2,CB w
theorem zqn{r:Int × List Int}(h:Rep K H (zqg r) v):∃ T wa,v=.ref T/\SqT K H T [.int r.1,.ref wa]/\SqL K H wa (r.2.map V.int):=by
 obtain⟨a,xs,rfl,hT,hx⟩:=zeq h
 unfold Reps at hx
 obtain⟨v1,r1,rfl,h1,hx⟩:=hx
 unfold Reps at hx
 obtain⟨v2,r2,rfl,h2,hx⟩:=hx
 unfold Reps at hx
 subst hx
 unfold Rep at h1
 subst h1
 obtain⟨wa,rfl,hw⟩:=za8.mp h2
 exact⟨a,wa,rfl,hT,hw⟩
inductive Q5b (K:Fg)(vs:List V)(H:Hp)(Q:VK)(E:XK):Prop
 | mk (da ra:Addr) (gs:List Du) (xs:List V) (rs:List (Int × List Int)) (ys:List V):vs=[.ref da,.ref ra]->SqL K H da xs->R2 (zh5 H) gs xs->SqL K H ra ys->Reps K H (rs.map zqg) ys->(∀ g∈gs,zg8 g)->gs.length<=34->znD rs->(∀ H',Same H H'->Q (.bl (zkA gs rs)) H')->Q5b K vs H Q E
include B Z in
theorem zjS (Q3f:Fn P w K mg b8 "shows" ["duty","row"] 2 (ziR K))(F:Fun K "all_shown" "all_shown" zc1 f fd)(m:mg "all_shown"=some (.ref f)):Fn P w K mg b8 "all_shown" ["due","rows"] 3 (Q5b K):=by
 refine Fn.of (k:=2) F zjK m (λ_ _ _ _ _ _ us hl=>(by obtain⟨_,_,rfl⟩:=len2 hl;rfl)) (λvs H Q E h=>?_) (λcdv A outer s H vs Q E hr h=>?_)
 ·first
  | (obtain⟨_,_,_,_,_,_,rfl,_⟩:=h;rfl)
 obtain⟨da,ra,gs,xs,rs,ys,rfl,hda,hg,hra,hrp,gf,gl,rf,q⟩:=h
 refine⟨_,(zah (zaq (zbO (zbt (k_eq K hr) (zav (zd0 K) rfl B.len L2.boot_len (zac (pv 0) zab)) (zav (zd0 K) rfl B.len L2.boot_len (zac (pv 1) zab)) (zaw _)) (zcq (zav (zjf K rfl) rfl B.all L2.zdr (zc6 (zba rfl (COk.m (sc0:=zaf zc1) (N:=["due","rows"]) (N':=["due","rows","duty","row"]) (ms:=[false,false,true,true])) (zk5 K rfl B.zip (zac (pv 0) (zac (pv 1) zab))) (λ_ _ _ _ _=>(zh2 K (n:=2) rfl (zbJ (zay (i:=2) (ndS (N:=["due","rows","duty","row"])) rfl (Or.inl rfl)) (zbJ (zay (i:=3) (ndS (N:=["due","rows","duty","row"])) rfl (Or.inl rfl)) zfH)))) (λ_ _ _ _ _=>zaP) (λ_ _ _ _ _=>(zap Q3f hr rfl (zac (pv 2) (zac (pv 3) zab))))) zab)))))),?_⟩
 have lx:=hg.1
 have ly:=hrp.length
 rw[zlm] at ly
 nofun
 refine zep (.inl hda) ?_
 nofun
 refine zep (.inl hra) ?_
 nofun
 cases hb:decide (((xs.length:Nat):Int)=((ys.length:Nat):Int)) with
 | false=>
  nofun
  have:=q _ (Same.refl _)
  unfold zkA at this
  rw[decide_eq_false (by have:=of_decide_eq_false hb;omega),Bool.false_and] at this
  exact this
 | true=>
  have hl:gs.length=rs.length:=by have:=of_decide_eq_true hb;omega
  nofun
  refine⟨da,ra,rfl,⟨_,hda⟩,⟨_,hra⟩,?_⟩
  refine zaY (n:=gs.length) (zgv hda hra (by omega)) ((List.zipWith (λg r=>zg2 g.1 g.2 r.1 r.2) gs rs).map D.bl) (by simp[hl]) (zao (by omega)) (λj x d H2 R hj hd s2 hx hR=>?_) (λv H2 s2 n2=>?_)
  ·obtain⟨T,u,z,rfl,hT,eu,ez⟩:=hx
   have jr:j<rs.length:=by omega
   have eg:gs[j]?=some gs[j]:=List.getElem?_eq_getElem hj
   have er:rs[j]?=some rs[j]:=List.getElem?_eq_getElem jr
   generalize gs[j]=g at eg
   generalize rs[j]=r at er
   rw[zgm,List.getElem?_zipWith,eg,er] at hd
   cases hd
   obtain⟨T2,ga,na,rfl,hT2,hga,hL⟩:=(hg.2 j g u eg eu).same s2
   obtain⟨k9,k4,k99⟩:=gf g (zmg eg)
   obtain⟨zs,hna,lzs,rzs⟩:=hL.out (K:=K)
   obtain⟨dd,hdd,hrep⟩:=hrp.get' ez
   rw[zgm,er] at hdd
   cases hdd
   obtain⟨T3,wa,rfl,hT3,hwa⟩:=zqn (Rep.same s2 _ hrep)
   obtain⟨c1,c2,c3⟩:=rf r (zmg er)
   refine⟨T,_,rfl,SqT.of hT,rfl,⟨_,_,rfl,?_⟩⟩
   refine⟨_,_,rfl,?_⟩
   refine⟨rfl,?_⟩
   nofun
   exact .inr ⟨T2,T3,ga,na,wa,g.1,g.2,zs,r.1,r.2,rfl,SqT.of hT2,hga,hna,rzs,hT3,hwa,k9,k99,by omega,c1,c2,c3,λH3 s3=>hR _ _ s3 New.bl⟩
  obtain⟨ba,rfl,ba0,hba⟩:=New.bls n2
  nofun
  refine zje (SqL.of hba) ?_
  have:=q _ s2
  unfold zkA at this
  rw[decide_eq_true hl,Bool.true_and] at this
  exact this
inductive Q4f (K:Fg)(C:Nat->Addr)(vs:List V)(H:Hp)(Q:VK)(E:XK):Prop
 | mk (ha dx la va:Addr) (n:Int) (kvs:List (Key × V)):vs=[.ref ha,.int n]->H ha=some (.ins (C 7) dx (hfl la va))->H la=some (.dK kvs)->n.natAbs<zbn->(valV kvs (.inl n)=none->E (.ref (C 3)) none H)->((valV kvs (.inl n)).isSome=true->Q .non H)->Q4f K C vs H Q E
include B Z in
theorem zfG (F:Fun K "must_stand" "Hall.must_stand" zbH f fd)(M:Meth K (C 7) "must_stand" f):Mth (CX1 P w) P w K mg b8 (C 7) "must_stand" ["self","number"] 1 (Q4f K C):=by
 refine⟨f,fd,M,F.okx (k:=0) zfC (λvs H Q E h=>?_) (λcdv A outer s H vs Q E hr h=>?_),F.binds λ_ _ _ _ _ _ us hl=>(by obtain⟨_,_,rfl⟩:=len2 hl;rfl)⟩
 ·first
  | (obtain⟨_,_,_,_,_,_,rfl,_⟩:=h;rfl)
 obtain⟨ha,dx,la,va,n,kvs,rfl,hh,hla,hn,qE,qQ⟩:=h
 refine⟨_,(zah (zbd (zhS (zfi (hr_u hr) (pv 1) (zax K (pv 0) rfl))) (zah (zeM Z.e_NoCraft rfl Z.m_NoCraft rfl zfN (zaQ (zld (pv 1) (by decide +kernel)) zab))) zaE)),?_⟩
 nofun
 refine⟨ha,(C 7),dx,_,_,rfl,hh,Z.c_Hall,Z.n_Hall_laid,zdB _ _,?_⟩
 refine⟨la,_,rfl,DGet.k (k:=.inl n) hla,?_⟩
 cases hv:valV kvs (.inl n) with
 | none=>
  nofun
  refine zeQ (λ_=>?_) (λz=>by cases z)
  nofun
  refine⟨hn,λz=>?_⟩
  nofun
  exact⟨(by walk_at "sm"),qE hv⟩
 | some y=>
  nofun
  refine zeQ (λz=>by cases z) (λ_=>?_)
  nofun
  exact qQ (by rw[hv];rfl)
inductive Q51 (K:Fg)(C:Nat->Addr)(vs:List V)(H:Hp)(Q:VK)(E:XK):Prop
 | mk (ha la va:Addr) (n:Int) (ks:List Int) (cr:Int->Cr) (ws:List Int) (fp:List Addr):vs=[.ref ha,.int n]->HAt (C 7) (C 0) H ha la va ks cr ws fp->n.natAbs<zbn->(n∉ks->E (.ref (C 3)) none H)->(n∈ks->(∃ m∈zaZ (cr n).deeds,m∉ks)->∀ H',Same H H'->E (.ref (C 4)) none H')->(n∈ks->(∀ m∈zaZ (cr n).deeds,m∈ks)->∀ v H',Same H H'->New H H' (.lst (((cr n).gs cr).map duD)) v->Q v H')->Q51 K C vs H Q E
include B Z in
theorem zfZ (Q50:Mth (CX1 P w) P w K mg b8 (C 7) "must_stand" ["self","number"] 1 (Q4f K C))(Q2b:Fnx P w K mg b8 "duties" ["craft","crafts"] 6 (Q2a K C))(F:Fun K "duties_at" "Hall.duties_at" zbX f fd)(M:Meth K (C 7) "duties_at" f):Mth (CX1 P w) P w K mg b8 (C 7) "duties_at" ["self","number"] 7 (Q51 K C):=by
 refine⟨f,fd,M,F.okx (k:=6) zfR (λvs H Q E h=>?_) (λcdv A outer s H vs Q E hr h=>?_),F.binds λ_ _ _ _ _ _ us hl=>(by obtain⟨_,_,rfl⟩:=len2 hl;rfl)⟩
 ·first
  | (obtain⟨_,_,_,_,_,_,_,_,rfl,_⟩:=h;rfl)
 obtain⟨ha,la,va,n,ks,cr,ws,fp,rfl,hA,hn,q1,q2,q3⟩:=h
 refine⟨_,(zag (za3 (zbc Q50 Z.c_Hall hr zit (pv 0) (zac (pv 1) zab)))
   (zah (zaq (zru Q2b hr rfl zit (zaD (zdZ (hr_u hr) (zax K (pv 0) rfl) (pv 1) (λ_ _=>rfl)) (za5 (zax K (pv 0) rfl) zab)))))),?_⟩
 obtain⟨dx,hh⟩:=hA.ins
 obtain⟨kvs,hla,hk⟩:=hA.laid
 walk_at "q"
 nofun
 refine⟨ha,dx,_,rfl,hh,zd3 (by decide +kernel) (by decide +kernel),?_⟩
 nofun
 refine⟨ha,dx,la,va,n,kvs,rfl,hh,hla,hn,λhv=>?_,λhv=>?_⟩
 ·refine q1 λz=>?_
  obtain⟨v,e,_⟩:=hk.2.2 n z
  rw[hv] at e;cases e
 have hm:n∈ks:=by
  refine Classical.byContradiction λz=>?_
  rw[hk.no z] at hv;cases hv
 obtain⟨v,hv,p,f,rfl,hC,hf⟩:=hk.2.2 n hm
 have rt:=hA.rt n hm
 nofun
 refine⟨ha,(C 7),dx,_,_,rfl,hh,Z.c_Hall,Z.n_Hall_laid,zdB _ _,?_⟩
 nofun
 refine⟨la,.ref p,rfl,by rw[<-hv];exact DGet.k (k:=.inl n) hla,?_⟩
 nofun
 refine⟨ha,(C 7),dx,_,_,rfl,hh,Z.c_Hall,Z.n_Hall_laid,zdB _ _,?_⟩
 nofun
 refine⟨p,la,(cr n).needs,(cr n).leaves,(cr n).deeds,(cr n).notes,kvs,znm cr,rfl,hC.t rt.nine.d9,rt.good,rt.dok,hla,rt.calledMost,?_⟩
 by_cases hu:∃ m∈zaZ (cr n).deeds,m∉ks
 ·obtain⟨m,mm,mk⟩:=hu
  exact .inl ⟨⟨m,mm,hk.no mk⟩,q2 hm ⟨m,mm,mk⟩⟩
 ·have hall:∀ m∈zaZ (cr n).deeds,m∈ks:=λm mm=>Classical.byContradiction λz=>hu ⟨m,mm,z⟩
  refine .inr ⟨λm mm=>?_,λd hd=>?_,?_,λv H' s' n'=>q3 hm hall v H' s' ?_⟩
  ·obtain⟨v,e,_⟩:=hk.2.2 m (hall m mm)
   rw[e];rfl
  ·cases d with
   | call m g0 g1 t0 t1=>
    have mk:=hall m (zon hd)
    obtain⟨v,e,o,fo,rfl,hO,_⟩:=hk.2.2 m mk
    have g:=(hA.rt m mk).good
    exact⟨o,_,_,e,hO.at,by rw[zlm];exact g⟩
   | _=>trivial
  ·rw[<-zh6,zlm]
   have:=(rt.gs (cr:=cr) λm mm=>hA.rt m (hall m mm)).1
   unfold Cr.gs at this
   omega
  ·unfold Cr.gs
   rw[zh6]
   exact n'
inductive Q49 (K:Fg)(C:Nat->Addr)(vs:List V)(H:Hp)(Q:VK)(E:XK):Prop
 | mk (ha la va ra:Addr) (n:Int) (ks:List Int) (cr:Int->Cr) (ws:List Int) (fp:List Addr) (rs:List (Int × List Int)) (ys:List V):vs=[.ref ha,.int n,.ref ra]->HAt (C 7) (C 0) H ha la va ks cr ws fp->n.natAbs<zbn->SqL K H ra ys->Reps K H (rs.map zqg) ys->znD rs->(n∉ks->E (.ref (C 3)) none H)->(n∈ks->(∃ m∈zaZ (cr n).deeds,m∉ks)->∀ H',Same H H'->E (.ref (C 4)) none H')->(n∈ks->(∀ m∈zaZ (cr n).deeds,m∈ks)->zkA ((cr n).gs cr) rs=false->∀ H',Same H H'->E (.ref (C 5)) none H')->(n∈ks->(∀ m∈zaZ (cr n).deeds,m∈ks)->zkA ((cr n).gs cr) rs=true->∀ H' ws',OffA [va] H H'->HAt (C 7) (C 0) H' ha la va ks cr ws' fp->(∀ m,m∈ws'↔m∈ws\/m=n)->Q .non H')->Q49 K C vs H Q E
include B Z in
theorem ziS (Q5c:Fn P w K mg b8 "all_shown" ["due","rows"] 3 (Q5b K))(Q52:Mth (CX1 P w) P w K mg b8 (C 7) "duties_at" ["self","number"] 7 (Q51 K C))(F:Fun K "vouch" "Hall.vouch" zdk f fd)(M:Meth K (C 7) "vouch" f):Mth (CX1 P w) P w K mg b8 (C 7) "vouch" ["self","number","rows"] 8 (Q49 K C):=by
 refine⟨f,fd,M,F.okx (k:=7) ziH (λvs H Q E h=>?_) (λcdv A outer s H vs Q E hr h=>?_),F.binds λ_ _ _ _ _ _ us hl=>(by obtain⟨_,_,_,rfl⟩:=len3 hl;rfl)⟩
 ·first
  | (obtain⟨_,_,_,_,_,_,_,_,_,_,_,rfl,_⟩:=h;rfl)
 obtain⟨ha,la,va,ra,n,ks,cr,ws,fp,rs,ys,rfl,hA,hn,hra,hrp,rf,q1,q2,q3,q4⟩:=h
 refine⟨_,(zag (zbd (zgD (zcJ (zap Q5c hr rfl (zaC (zbc Q52 Z.c_Hall hr zit (pv 0) (zac (pv 1) zab)) (zac (pv 2) zab))))) (zah (zeM Z.e_NotShown rfl Z.m_NotShown rfl zfN (zaQ (zld (pv 1) (by decide +kernel)) zab))) zaE)
   (zah (ziq (hr_u hr) (zax K (pv 0) rfl) (pv 1) zf9 rfl))),?_⟩
 obtain⟨dx,hh⟩:=hA.ins
 walk_at "q"
 nofun
 refine⟨ha,dx,_,rfl,hh,zd3 (by decide +kernel) (by decide +kernel),?_⟩
 nofun
 refine⟨ha,la,va,n,ks,cr,ws,fp,rfl,hA,hn,q1,q2,λhm hall v H1 s1 n1=>?_⟩
 have q3:=q3 hm hall
 have q4:=q4 hm hall
 obtain⟨gl,gf⟩:=(hA.rt n hm).gs (cr:=cr) λm mm=>hA.rt m (hall m mm)
 generalize (cr n).gs cr=gs at *
 obtain⟨da,xs,dfp,rfl,da0,hda,hfr,_⟩:=New.lso n1
 have rX:=zaj.duties hfr
 nofun
 refine⟨da,ra,gs,xs,rs,ys,rfl,SqL.of hda,rX,s1.seq hra,Reps.same s1 _ hrp,gf,gl,rf,λH2 s2=>?_⟩
 have s02:=s1.trans s2
 cases hb:zkA gs rs with
 | false=>
  nofun
  refine⟨hn,λz=>?_⟩
  nofun
  exact⟨(by walk_at "sm"),q3 hb _ s02⟩
 | true=>
  have hA3:=hA.same s02
  obtain⟨dx3,hh3⟩:=hA3.ins
  obtain⟨kv,hva,hkv⟩:=hA3.vou
  nofun
  refine⟨ha,(C 7),dx3,_,_,rfl,hh3,Z.c_Hall,Z.n_Hall_vouched,zdO _ _,?_⟩
  nofun
  have kl:=hkv.len
  have vl:=hA3.vfew
  refine⟨va,_,rfl,DPut.k (k:=.inl n) hva (zc3 (by omega)),?_⟩
  have put:=hkv.put (m:=n) (v:=.bl true) rfl
  have wss:∀ m,m∈(if n∈ws then ws else ws++[n])↔m∈ws\/m=n:=λm=>by
   by_cases z:n∈ws
   ·rw[if_pos z]
    exact⟨.inl,λw=>by rcases w with w | w;exact w;rw[w];exact z⟩
   ·rw[if_neg z];simp
  refine q4 hb _ _ (s02.offA.trans (zbE (by simp))) (hA3.putV put λm hm'=>?_) wss
  rcases (wss m).mp hm' with w | w
  ·exact hA.sub m w
  ·rw[w];exact hm
inductive Q4b (K:Fg)(C:Nat->Addr)(vs:List V)(H:Hp)(Q:VK)(E:XK):Prop
 | mk (ha la va:Addr) (n:Int) (ks:List Int) (cr:Int->Cr) (ws:List Int) (fp:List Addr):vs=[.ref ha,.int n]->HAt (C 7) (C 0) H ha la va ks cr ws fp->n.natAbs<zbn->(n∉ks->E (.ref (C 3)) none H)->(n∈ks->(∃ m∈zaZ (cr n).deeds,m∉ks)->∀ H',Same H H'->E (.ref (C 4)) none H')->(n∈ks->(∀ m∈zaZ (cr n).deeds,m∈ks)->∀ v H' ws',OffA [va] H H'->HAt (C 7) (C 0) H' ha la va ks cr ws' fp->(∀ m,m∈ws'↔m∈ws\/(m=n/\zgz ((cr n).gs cr)))->New H H' (.lst (((cr n).gs cr).map λg=>rowD (zct g.1 g.2))) v->Q v H')->Q4b K C vs H Q E
include B Z in
theorem zjT (G_sought:Fn P w K mg b8 "sought" ["duty"] 3 (Q40 K))(Q52:Mth (CX1 P w) P w K mg b8 (C 7) "duties_at" ["self","number"] 7 (Q51 K C))(F:Fun K "seek" "Hall.seek" zcr f fd)(M:Meth K (C 7) "seek" f):Mth (CX1 P w) P w K mg b8 (C 7) "seek" ["self","number"] 8 (Q4b K C):=by
 refine⟨f,fd,M,F.okx (k:=7) zf6 (λvs H Q E h=>?_) (λcdv A outer s H vs Q E hr h=>?_),F.binds λ_ _ _ _ _ _ us hl=>(by obtain⟨_,_,rfl⟩:=len2 hl;rfl)⟩
 ·first
  | (obtain⟨_,_,_,_,_,_,_,_,rfl,_⟩:=h;rfl)
 obtain⟨ha,la,va,n,ks,cr,ws,fp,rfl,hA,hn,q1,q2,q3⟩:=h
 refine⟨_,(zag (zh0 (i:=2) zf6.nd rfl rfl rfl (COk.m (sc0:=zaf zcr) (N:=["self","number","rows"]) (N':=["self","number","rows","duty"]) (ms:=[false,false,false,true])) (zbj K (zbc Q52 Z.c_Hall hr zit (pv 0) (zac (pv 1) zab))) (λ_ _ _ _ _=>(zay (i:=3) (ndS (N:=["self","number","rows","duty"])) rfl (Or.inl rfl))) (λ_ _ _ _ _=>zaP) (λ_ _ _ _ _=>(zap G_sought hr rfl (zac (pv 3) zab))))
   (zag (zbd (zcJ (zav (zjf K rfl) rfl B.all L2.zdr (zc6 (zba rfl (COk.m (sc0:=zaf zcr) (N:=["self","number","rows"]) (N':=["self","number","rows","row"]) (ms:=[false,false,false,true])) (zbj K (pv 2)) (λ_ _ _ _ _=>(zay (i:=3) (ndS (N:=["self","number","rows","row"])) rfl (Or.inl rfl))) (λ_ _ _ _ _=>zaP) (λ_ _ _ _ _=>(zbt zj4 (pv 3) zdl (zaw _)))) zab))) (zah (ziq (hr_u hr) (zax K (pv 0) rfl) (pv 1) zf9 rfl)) zaE)
   (zah (zaq (pv 2))))),?_⟩
 obtain⟨dx,hh⟩:=hA.ins
 walk_at "q"
 nofun
 refine⟨ha,dx,_,rfl,hh,zd3 (by decide +kernel) (by decide +kernel),?_⟩
 nofun
 refine⟨ha,la,va,n,ks,cr,ws,fp,rfl,hA,hn,q1,q2,λhm hall v H1 s1 n1=>?_⟩
 have rt:=hA.rt n hm
 obtain⟨gl,gf⟩:=rt.gs (cr:=cr) λm mm=>hA.rt m (hall m mm)
 have q3:=q3 hm hall
 generalize (cr n).gs cr=gs at *
 obtain⟨da,xs,dfp,rfl,da0,hda,hfr,_⟩:=New.lso n1
 have rX:=zaj.duties hfr
 have lx:=rX.1
 refine⟨da,rfl,⟨_,SqL.of hda⟩,?_⟩
 refine zaY (zaX (SqL.of hda)) (gs.map λg=>rowD (zct g.1 g.2)) (by rw[zlm];exact lx) (zao (by omega)) (λj x d H2 R hj hd s2 hx hR=>?_) (λv H2 s2 n2=>?_)
 ·rw[zgm] at hd
  obtain⟨g,hg,rfl⟩:=zme.mp hd
  obtain⟨T,ga,na,rfl,hT,hga,hL⟩:=(rX.2 j g x hg hx).same s2
  obtain⟨k9,k4,k99⟩:=gf g (zmg hg)
  obtain⟨ys,hna,lys,rys⟩:=hL.out (K:=K)
  nofun
  exact⟨T,ga,na,g.1,g.2,ys,rfl,SqT.of hT,hga,hna,rys,k9,k99,by omega,λv H3 s3 n3=>hR v H3 s3 n3⟩
 have s02:=s1.trans s2
 have n02:=n2.back s1
 obtain⟨ra,rvs,rfp,rfl,ra0,hra,hrr,_⟩:=New.lso n02
 have lr:=hrr.length
 rw[zlm] at lr
 nofun
 have hnon:∀ (j:Nat) g x,gs[j]?=some g->rvs[j]?=some x->decide (x=V.non)=!(zct g.1 g.2).isSome:=λj g x e1 e2=>by
  obtain⟨f,hf⟩:=zaj.item hrr j (rowD (zct g.1 g.2)) x (by rw[zgm,e1];rfl) e2
  cases hs:zct g.1 g.2 with
  | none=>rw[hs] at hf;unfold rowD RepF at hf;rw[hf.1];rfl
  | some r=>
   obtain⟨w,r⟩:=r
   rw[hs] at hf
   unfold rowD RepF at hf
   obtain⟨a,_,e,_⟩:=hf
   rw[e,zkk];rfl
 -- are all of them found
 with_reducible refine zh3 (λσ H'=>σ=[some (.ref ha),some (.int n),some (.ref ra)]/\∃ ws',OffA [va] H2 H'/\HAt (C 7) (C 0) H' ha la va ks cr ws' fp/\(∀ m,m∈ws'↔m∈ws\/(m=n/\zgz gs))/\New H H' (.lst (gs.map λg=>rowD (zct g.1 g.2))) (.ref ra)) (λNX tail=>?_) ?_
 ·nofun
  refine⟨ra,rfl,⟨_,SqL.of hra⟩,?_⟩
  refine zaY (zaX (SqL.of hra)) ((gs.map λg=>(zct g.1 g.2).isSome).map D.bl) (by simp[lr]) (zao (by omega)) (λj x d H3 R hj hd s3 hx hR=>?_) (λv H3 s3 n3=>?_)
  ·rw[zgm,zgm] at hd
   obtain⟨b,hb,rfl⟩:=zme.mp hd
   obtain⟨g,hg,rfl⟩:=zme.mp hb
   nofun
   refine⟨rfl,?_⟩
   rw[hnon j g x hg hx,Bool.not_not]
   exact hR _ _ (Same.refl _) New.bl
  obtain⟨ba,rfl,ba0,hba⟩:=New.bls n3
  nofun
  refine zje (SqL.of hba) ?_
  have s03:=s02.trans s3
  cases hb:(gs.map λg=>(zct g.1 g.2).isSome).all id with
  | true=>
   have af:zgz gs:=λg hg=>by
    rw[List.all_map,List.all_eq_true] at hb
    exact hb g hg
   have hA3:=hA.same s03
   obtain⟨dx3,hh3⟩:=hA3.ins
   obtain⟨kv,hva,hkv⟩:=hA3.vou
   nofun
   refine⟨ha,(C 7),dx3,_,_,rfl,hh3,Z.c_Hall,Z.n_Hall_vouched,zdO _ _,?_⟩
   nofun
   have kl:=hkv.len
   have vl:=hA3.vfew
   refine⟨va,_,rfl,DPut.k (k:=.inl n) hva (zc3 (by omega)),?_⟩
   have put:=hkv.put (m:=n) (v:=.bl true) rfl
   have wss:∀ m,m∈(if n∈ws then ws else ws++[n])↔m∈ws\/m=n:=λm=>by
    by_cases z:n∈ws
    ·rw[if_pos z]
     exact⟨.inl,λw=>by rcases w with w | w;exact w;rw[w];exact z⟩
    ·rw[if_neg z];simp
   refine tail _ _ ⟨rfl,_,s3.offA.trans (zbE (by simp)),hA3.putV put λm hm'=>?_,λm=>?_,(n02.same s3).sq (zg6 hva).sq⟩
   ·rcases (wss m).mp hm' with w | w
    ·exact hA.sub m w
    ·rw[w];exact hm
   ·rw[wss]
    exact⟨λz=>by rcases z with z | z;exact .inl z;exact .inr ⟨z,af⟩,λz=>by rcases z with z | z;exact .inl z;exact .inr z.1⟩
  | false=>
   have af:¬ zgz gs:=λz=>by
    have:(gs.map λg=>(zct g.1 g.2).isSome).all id=true:=by
     rw[List.all_map,List.all_eq_true];exact z
    rw[this] at hb;cases hb
   nofun
   exact tail _ _ ⟨rfl,ws,s3.offA,hA.same s03,λm=>⟨.inl,λz=>by rcases z with z | z;exact z;exact absurd z.2 af⟩,n02.same s3⟩
 rintro σ H3 ⟨rfl,ws3,o3,hA3,hm3,n3⟩
 nofun
 exact q3 _ _ ws3 (s02.offA.trans o3) hA3 hm3 n3
inductive Q4d (K:Fg)(C:Nat->Addr)(vs:List V)(H:Hp)(Q:VK)(E:XK):Prop
 | mk (ha la va:Addr) (n:Int) (ks:List Int) (cr:Int->Cr) (ws:List Int) (fp:List Addr):vs=[.ref ha,.int n]->HAt (C 7) (C 0) H ha la va ks cr ws fp->Q (.bl (decide (n∈ws))) H->Q4d K C vs H Q E
include B Z in
theorem zjU (F:Fun K "held" "Hall.held" zdS f fd)(M:Meth K (C 7) "held" f):Mth CX0 P w K mg b8 (C 7) "held" ["self","number"] 1 (Q4d K C):=by
 refine⟨f,fd,M,F.ok (k:=0) zjI (λvs H Q E h=>?_) (λcdv A outer s H vs Q E hr h=>?_),F.binds λ_ _ _ _ _ _ us hl=>(by obtain⟨_,_,rfl⟩:=len2 hl;rfl)⟩
 ·first
  | (obtain⟨_,_,_,_,_,_,_,_,rfl,_⟩:=h;rfl)
 obtain⟨ha,la,va,n,ks,cr,ws,fp,rfl,hA,q⟩:=h
 refine⟨_,(zah (zaq (zqv (zmE (hr_u hr) (pv 1) (zax K (pv 0) rfl))))),?_⟩
 obtain⟨dx,hh⟩:=hA.ins
 obtain⟨kvs,hva,hk⟩:=hA.vou
 nofun
 refine⟨ha,(C 7),dx,_,_,rfl,hh,Z.c_Hall,Z.n_Hall_vouched,zdO _ _,?_⟩
 refine⟨va,_,rfl,DGet.k (k:=.inl n) hva,?_⟩
 by_cases hm:n∈ws
 ·obtain⟨v,hv,_⟩:=hk.2.2 n hm
  rw[hv]
  rw[decide_eq_true hm] at q
  exact q
 ·rw[hk.no hm]
  rw[decide_eq_false hm] at q
  exact q
inductive Q5d (K:Fg)(C:Nat->Addr)(vs:List V)(H:Hp)(Q:VK)(E:XK):Prop
 | mk (p dx g:Addr) (n a0 a1:Int):vs=[.ref p,.int n,.ref g]->H p=some (.ins (C 8) dx [])->(SqL K H g [.int a0,.int a1]\/SqT K H g [.int a0,.int a1])->(∀ ha aa H',H ha=none->H aa=none->ha≠aa->OffA [p] H H'->H' p=some (.ins (C 8) dx (ffl n 0 ha aa))->H' ha=some (.lst [.int a0,.int a1,.int 0,.int 0])->H' aa=some (.lst [.int a0,.int a1])->Q .non H')->Q5d K C vs H Q E
theorem zf0{H':Hp}{g:Addr}(e:Sq H H')(h:SqL K H g xs\/SqT K H g xs):SqL K H' g xs\/SqT K H' g xs:=by
 rcases h with h | h
 ·exact .inl (e.lst h)
 ·exact .inr (e.tup h)
include B Z in
theorem zoH (F:Fun K "__init__" "Frame.__init__" zbZ f fd)(M:Mk K (C 8) f):Mkr P w K mg b8 "Frame" (C 8) ["self","number","asked"] 1 (Q5d K C):=by
 refine⟨f,fd,M,F.ok (k:=0) zfT (λvs H Q E h=>?_) (λcdv A outer s H vs Q E hr h=>?_),F.binds λ_ _ _ _ _ _ us hl=>(by obtain⟨_,_,_,rfl⟩:=len3 hl;rfl),Z.m_Frame⟩
 ·first
  | (obtain⟨_,_,_,_,_,_,rfl,_⟩:=h;rfl)
 obtain⟨p,dx,g,n,a0,a1,rfl,hp,hg,q⟩:=h
 refine⟨_,(zag (zbB (pv 0) (pv 1) rfl)
   (zag (zbB (pv 0) zae rfl)
   (zag (zbB (pv 0) (zaO (zaD (zau (k_ix K) (pv 2) zae (λ_ _=>rfl)) (zaD (zau (k_ix K) (pv 2) zae (λ_ _=>rfl)) (zam zae (zam zae zab))))) rfl)
   (zah (zbB (pv 0) (zaO (zaD (zau (k_ix K) (pv 2) zae (λ_ _=>rfl)) (zaD (zau (k_ix K) (pv 2) zae (λ_ _=>rfl)) zab))) rfl))))),?_⟩
 walk_at "q"
 nofun
 refine⟨p,(C 8),dx,[],rfl,hp,Z.c_Frame,Z.n_Frame_number,by show 0<1000;decide,?_⟩
 have q1:Sq H (upd H p (.ins (C 8) dx (putF "number" (.int n) []))):=zeT hp rfl
 walk_at "q"
 nofun
 refine⟨p,(C 8),dx,_,rfl,zaa,Z.c_Frame,Z.n_Frame_place,Nat.lt_of_lt_of_le (za0 (n:=1) (by decide)) (by decide),?_⟩
 have q2:=q1.trans (zeT (o:=.ins (C 8) dx (putF "place" (.int 0) (putF "number" (.int n) []))) zaa rfl)
 have o2:OffA [p] H (upd (upd H p (.ins (C 8) dx (putF "number" (.int n) []))) p (.ins (C 8) dx (putF "place" (.int 0) (putF "number" (.int n) [])))):=(zbE (by simp)).trans (zbE (by simp))
 have p2:(upd (upd H p (.ins (C 8) dx (putF "number" (.int n) []))) p (.ins (C 8) dx (putF "place" (.int 0) (putF "number" (.int n) [])))) p=some (.ins (C 8) dx (putF "place" (.int 0) (putF "number" (.int n) []))):=zaa
 have fr2:Free H (upd (upd H p (.ins (C 8) dx (putF "number" (.int n) []))) p (.ins (C 8) dx (putF "place" (.int 0) (putF "number" (.int n) [])))):=zds.trans zds
 generalize (upd (upd H p (.ins (C 8) dx (putF "number" (.int n) []))) p (.ins (C 8) dx (putF "place" (.int 0) (putF "number" (.int n) []))))=H2 at q2 o2 p2 fr2
 have hg2:=zf0 q2 hg
 walk_at "q"
 nofun
 refine zkw hg2 ?_
 nofun
 refine zkx hg2 ?_
 nofun
 refine⟨(by walk_at "sm"),λha ha0=>?_⟩
 have s3:=zad ha0 (.lst [V.int a0,.int a1,.int 0,.int 0])
 have nh:ha≠p:=(zan p2 ha0).symm
 nofun
 refine⟨p,(C 8),dx,_,rfl,s3 _ _ p2,Z.c_Frame,Z.n_Frame_hands,Nat.lt_of_lt_of_le (za0 (n:=2) (za0 (n:=1) (by decide))) (by decide),?_⟩
 have q4:=s3.sq.trans (zeT (o:=.ins (C 8) dx (putF "hands" (.ref ha) (putF "place" (.int 0) (putF "number" (.int n) [])))) (s3 _ _ p2) rfl)
 have hg4:=zf0 q4 hg2
 nofun
 refine zkw hg4 ?_
 nofun
 refine zkx hg4 ?_
 nofun
 refine⟨(by walk_at "sm"),λaa aa0=>?_⟩
 have na:aa≠p:=λz=>by rw[z,zaa] at aa0;cases aa0
 have nah:aa≠ha:=λz=>by rw[z,zai nh,zaa] at aa0;cases aa0
 have aa2:H2 aa=none:=by rw[zai na,zai nah] at aa0;exact aa0
 nofun
 refine⟨p,(C 8),dx,_,rfl,by rw[zai na.symm,zaa],Z.c_Frame,Z.n_Frame_asked,Nat.lt_of_lt_of_le (za0 (n:=3) (za0 (n:=2) (za0 (n:=1) (by decide)))) (by decide),?_⟩
 rw[zp6]
 refine q ha aa _ (fr2 _ ha0) (fr2 _ aa2) nah.symm (λb o nb e=>?_) zaa ?_ ?_
 ·have nb':b≠p:=λz=>nb (by simp[z])
  have e2:=o2 b o nb e
  rw[zai nb',zai (zan e2 aa2),zai nb',zai (zan e2 ha0)]
  exact e2
 ·rw[zai nh,zai nah.symm,zai nh,zaa]
 ·rw[zai na,zaa]
inductive Q5e (K:Fg)(C:Nat->Addr)(vs:List V)(H:Hp)(Q:VK)(E:XK):Prop
 | mk (p dx ha aa:Addr) (f:Fm):vs=[.ref p]->H p=some (.ins (C 8) dx (ffl f.n f.p ha aa))->H ha=some (.lst (f.hands.map V.int))->H aa=some (.lst (f.asked.map V.int))->f.hands.length=4->f.asked.length=2->(∀ na H',Same H H'->H' na=some (.lst ((zcW f).map V.int))->Q (.ref na) H')->Q5e K C vs H Q E
include B Z in
theorem zgh (F:Fun K "numbers" "Frame.numbers" zcb f fd)(M:Meth K (C 8) "numbers" f):Mth CX0 P w K mg b8 (C 8) "numbers" ["self"] 1 (Q5e K C):=by
 refine⟨f,fd,M,F.ok (k:=0) zgd (λvs H Q E h=>?_) (λcdv A outer s H vs Q E hr h=>?_),F.binds λ_ _ _ _ _ _ us hl=>(by obtain⟨_,rfl⟩:=len1 hl;rfl)⟩
 ·first
  | (obtain⟨_,_,_,_,_,rfl,_⟩:=h;rfl)
 obtain⟨p,dx,ha,aa,f,rfl,hp,hh,haa,l4,l2,q⟩:=h
 refine⟨_,(zah (zaq (zaW (zaS K) (zaW (zaS K) (zax K (pv 0) rfl) (zax K (pv 0) rfl)) (zfh (k_sl K) (zax K (pv 0) rfl) zgI (zgJ zae))))),?_⟩
 nofun
 refine⟨p,(C 8),dx,_,_,rfl,hp,Z.c_Frame,Z.n_Frame_hands,zcl _ _ _ _,?_⟩
 nofun
 refine⟨p,(C 8),dx,_,_,rfl,hp,Z.c_Frame,Z.n_Frame_asked,zoq _ _ _ _,?_⟩
 refine zbr hh haa (zao (by simp[l4,l2])) λp1 hp1=>?_
 have t1:=zad hp1 (.lst (f.hands.map V.int++f.asked.map V.int))
 nofun
 refine⟨p,(C 8),dx,_,_,rfl,t1 _ _ hp,Z.c_Frame,Z.n_Frame_hands,zcl _ _ _ _,?_⟩
 nofun
 refine zrC (SqL.of (t1 _ _ hh)) λp2 hp2=>?_
 rw[zne (by decide)]
 have t2:=zad hp2 (.lst ((f.hands.map V.int).take (2:Int).toNat))
 nofun
 refine zbr (t2 _ _ zaa) zaa (zao (by simp[l4,l2])) λp3 hp3=>?_
 refine q _ _ (t1.trans (t2.trans (zad hp3 _))) ?_
 rw[zaa]
 unfold zcW
 rw[List.map_append,List.map_append,List.map_take]
 rfl
inductive Q73 (K:Fg)(C:Nat->Addr)(vs:List V)(H:Hp)(Q:VK)(E:XK):Prop
 | mk (r ka ia sa:Addr) (ks:List Int) (cr:Int->Cr) (fas:List Fa) (s:Rs) (kfp:List Addr) (p dx ha aa:Addr) (f:Fm):vs=[.ref r,.ref p]->RunX (C 9) (C 8) (C 0) H r ka ia sa ks cr fas s kfp->H p=some (.ins (C 8) dx (ffl f.n f.p ha aa))->f.n∈ks->(∀ q g,zbw (C 0) H q (cr f.n) g->Q (.ref q) H)->Q73 K C vs H Q E
include B Z in
theorem zhq (F:Fun K "craft_of" "Run.craft_of" zcB f fd)(M:Meth K (C 9) "craft_of" f):Mth CX0 P w K mg b8 (C 9) "craft_of" ["self","frame"] 1 (Q73 K C):=by
 refine⟨f,fd,M,F.ok (k:=0) zhj (λvs H Q E h=>?_) (λcdv A outer s H vs Q E hr h=>?_),F.binds λ_ _ _ _ _ _ us hl=>(by obtain⟨_,_,rfl⟩:=len2 hl;rfl)⟩
 ·first
  | (obtain⟨_,_,_,_,_,_,_,_,_,_,_,_,_,_,rfl,_⟩:=h;rfl)
 obtain⟨r,ka,ia,sa,ks,cr,fas,s,kfp,p,dx,ha,aa,f,rfl,A',hp,hn,q⟩:=h
 refine⟨_,(zah (zaq (zdZ (hr_u hr) (zax K (pv 0) rfl) (zax K (pv 1) rfl) (λ_ _=>rfl)))),?_⟩
 obtain⟨dr,ev,hr',_⟩:=A'.ins
 obtain⟨kvs,o,g,e1,e2,e3⟩:=A'.kn.craft hn
 nofun
 refine⟨r,(C 9),dr,_,_,rfl,hr',Z.c_Run,Z.n_Run_known,zfs,?_⟩
 nofun
 refine⟨p,(C 8),dx,_,_,rfl,hp,Z.c_Frame,Z.n_Frame_number,zjB _ _ _ _,?_⟩
 refine⟨ka,.ref o,rfl,by rw[<-e2];exact DGet.k (k:=.inl f.n) e1,?_⟩
 exact q o g e3
inductive Q6c (K:Fg)(C:Nat->Addr)(vs:List V)(H:Hp)(Q:VK)(E:XK):Prop
 | mk (r ka ia sa:Addr) (ks:List Int) (cr:Int->Cr) (fas:List Fa) (s:Rs) (kfp:List Addr) (f:Fm) (st:List Fm):vs=[.ref r]->RunX (C 9) (C 8) (C 0) H r ka ia sa ks cr fas s kfp->s.st=f::st->WfF ks cr f->(cr f.n).Rt->Q (.bl (decide (f.p=((cr f.n).deeds.length:Int)))) H->Q6c K C vs H Q E
include B Z in
theorem zdf (Q74:Mth CX0 P w K mg b8 (C 9) "craft_of" ["self","frame"] 1 (Q73 K C))(F:Fun K "is_behind_last_deed" "Run.is_behind_last_deed" za1 f fd)(M:Meth K (C 9) "is_behind_last_deed" f):Mth CX0 P w K mg b8 (C 9) "is_behind_last_deed" ["self"] 2 (Q6c K C):=by
 refine⟨f,fd,M,F.ok (k:=1) zbS (λvs H Q E h=>?_) (λcdv A outer s H vs Q E hr h=>?_),F.binds λ_ _ _ _ _ _ us hl=>(by obtain⟨_,rfl⟩:=len1 hl;rfl)⟩
 ·first
  | (obtain⟨_,_,_,_,_,_,_,_,_,_,_,rfl,_⟩:=h;rfl)
 obtain⟨r,ka,ia,sa,ks,cr,fas,s',kfp,f,st,rfl,A',hst,wf,rt,q⟩:=h
 refine⟨_,(zag (zat (i:=1) zbS.nd rfl (Or.inl rfl) (zau (k_ix K) (zax K (pv 0) rfl) (zde zbP zae) (λ_ _=>rfl)))
   (zah (zaq (zbt (k_eq K hr) (zax K (pv 1) rfl) (zav (zd0 K) rfl B.len L2.boot_len (za5 (zax K (zbc Q74 Z.c_Run hr zbi (pv 0) (zac (pv 1) zab)) rfl) zab)) (zaw _))))),?_⟩
 obtain⟨dr,ev,hr',_⟩:=A'.ins
 have fr:=A'.fr
 rw[hst] at fr
 cases fas with
 | nil=>exact fr.elim
 | cons t fas=>
 obtain⟨p,ha,aa⟩:=t
 obtain⟨⟨dp,f1⟩,_⟩:=fr
 walk_at "q"
 nofun
 refine⟨r,(C 9),dr,_,_,rfl,hr',Z.c_Run,Z.n_Run_stack,zbN,?_⟩
 nofun
 refine zcf (SqL.of A'.sta) (v:=.ref p) zft ?_
 nofun
 refine⟨p,(C 8),dp,_,_,rfl,f1,Z.c_Frame,Z.n_Frame_place,zcX _ _ _ _,?_⟩
 nofun
 refine⟨r,dr,_,rfl,hr',zcu (by decide +kernel),?_⟩
 nofun
 refine⟨r,ka,ia,sa,ks,cr,(p,ha,aa)::fas,s',kfp,p,dp,ha,aa,f,rfl,A',f1,wf.m,λo g hC=>?_⟩
 obtain⟨dx,y1,y2,b3,b4,dvs,nvs,ho,_,_,h3,hD,_⟩:=hC.out (K:=K) rt.nine.d9
 nofun
 refine⟨o,(C 0),dx,_,_,rfl,ho,Z.c_Craft,Z.n_Craft_deeds,zbM _ _ _ _,?_⟩
 nofun
 refine zep (.inl (SqL.of h3)) ?_
 refine zrc ?_
 have e:dvs.length=(cr f.n).deeds.length:=hD.1.symm
 rw[e]
 exact q
inductive Q77 (K:Fg)(vs:List V)(H:Hp)(Q:VK)(E:XK):Prop
 | mk (la na:Addr) (ls:List (List Int)) (ns:List Int):vs=[.ref la,.ref na]->zdC K H la ls->SqL K H na (ns.map V.int)->ns.length=8->(∀ l∈ls,l.length=9/\Sm l)->(∀ H',Same H H'->Q (badV (zaI ls ns)) H')->Q77 K vs H Q E
theorem znE{ls:List (List Int)}(h1:zdC K H la ls)(h2:SqL K H na (ns.map V.int))(h3:ns.length=8)(h4:∀ l∈ls,l.length=9/\Sm l)(q:∀ H',Same H H'->Q (badV (zaI ls ns)) H'):Q77 K [.ref la,.ref na] H Q E:=⟨la,na,ls,ns,rfl,h1,h2,h3,h4,q⟩
theorem zhN{ls:List (List Int)}{P:List Int->Bool}{i:Nat}(h:(ls.take i).findIdx? P=none)(e:ls[i]?=some l)(hp:P l=false):(ls.take (i+1)).findIdx? P=none:=by
 rw[List.take_add_one,e,List.findIdx?_append,h]
 simp[hp]
include B Z in
theorem zhO (Q1:Fn P w K mg b8 "holds" ["line","numbers"] 2 (zgC K))(F:Fun K "first_unmet" "first_unmet" zcV f fd)(m:mg "first_unmet"=some (.ref f)):Fn P w K mg b8 "first_unmet" ["lines","numbers"] 3 (Q77 K):=by
 refine Fn.of (k:=2) F zdF m (λ_ _ _ _ _ _ us hl=>(by obtain⟨_,_,rfl⟩:=len2 hl;rfl)) (λvs H Q E h=>?_) (λcdv A outer s H vs Q E hr h=>?_)
 ·first
  | (obtain⟨_,_,_,_,rfl,_⟩:=h;rfl)
 obtain⟨la,na,ls,ns,rfl,⟨xs,hla,hxs⟩,hna,n8,h9,q⟩:=h
 refine⟨_,(zag (zek PassesOwn.never rfl (zpL K rfl B.enumerate (zac (pv 0) zab)) (zh2 K (n:=2) rfl (zbJ (zay (i:=2) zdF.nd rfl (Or.inl rfl)) (zbJ (zay (i:=3) zdF.nd rfl (Or.inl rfl)) zfH))) (zah (zbd (zgD (zcJ (zap Q1 hr rfl (zac (pv 3) (zac (pv 1) zab))))) (zah (zaq (pv 2))) zaE)))
   (zah (zaq zdl))),?_⟩
 have lx:=hxs.length
 rw[zlm] at lx
 walk_at "q"
 nofun
 refine⟨la,xs,rfl,hla,?_⟩
 refine zfM (zmQ (SqL.of hla)) (λi σ H2=>∃ x y,A3 (σ=[some (.ref la),some (.ref na),x,y]) (Same H H2) ((ls.take i).findIdx? (λl=>decide (zdt l ns<0))=none))
  ⟨none,none,rfl,Same.refl _,rfl⟩ (λi σ H2 ⟨_,_,_,e,_⟩=>e) ?_ ?_
 ·rintro i v σ H2 H3 hi ⟨x,y,rfl,s2,hf⟩ s3 ⟨T,u,rfl,hT,hu'⟩
  have s03:=s2.trans s3
  obtain⟨d,hd,hru⟩:=Reps.get' hxs hu'
  rw[zgm] at hd
  obtain⟨l,hl,rfl⟩:=zme.mp hd
  obtain⟨ua,rfl,hua⟩:=za8.mp (Rep.same s03 _ hru)
  obtain⟨l9,lsm⟩:=h9 l (zmg hl)
  refine⟨T,_,rfl,SqT.of hT,rfl,⟨_,_,rfl,?_⟩⟩
  refine⟨_,_,rfl,?_⟩
  refine⟨rfl,?_⟩
  cases l with
  | nil=>simp at l9
  | cons c fs=>
  nofun
  refine⟨ua,na,c,fs,ns,rfl,hua,s03.seq hna,by simpa using l9,n8,zno lsm,λH4 s4=>?_⟩
  have ew:c+dot fs ns=zdt (c::fs) ns:=(ze2 _ _ _).symm
  rw[ew]
  dsimp only
  by_cases hb:0<=zdt (c::fs) ns
  ·rw[decide_eq_true hb]
   nofun
   exact⟨_,_,rfl,s03.trans s4,zhN hf hl (decide_eq_false (by omega))⟩
  ·rw[decide_eq_false hb]
   nofun
   have e:zaI ls ns=some i:=by
    unfold zaI
    rw[znp hf hl,if_pos (decide_eq_true (by omega))]
   have:=q _ (s03.trans s4)
   rw[e] at this
   exact this
 ·rintro σ H2 ⟨x,y,rfl,s2,hf⟩
  nofun
  rw[<-lx,List.take_of_length_le (Nat.le_refl _)] at hf
  have e:zaI ls ns=none:=hf
  have:=q _ s2
  rw[e] at this
  exact this
inductive Q75 (K:Fg)(C:Nat->Addr)(vs:List V)(H:Hp)(Q:VK)(E:XK):Prop
 | mk (r ka ia sa:Addr) (ks:List Int) (cr:Int->Cr) (fas:List Fa) (s:Rs) (kfp:List Addr) (w:Str) (la na:Addr) (ls:List (List Int)) (ns:List Int) (f:Fm) (st:List Fm):vs=[.ref r,.str w,.ref la,.ref na]->RunX (C 9) (C 8) (C 0) H r ka ia sa ks cr fas s kfp->s.st=f::st->s.en=none->zdC K H la ls->SqL K H na (ns.map V.int)->ns.length=8->(∀ l∈ls,l.length=9/\Sm l)->(∀ H',OffA [r] H H'->RunX (C 9) (C 8) (C 0) H' r ka ia sa ks cr fas {s with en:=(zaI ls ns).map (brk w f)} kfp->Q (.bl (zaI ls ns).isNone) H')->Q75 K C vs H Q E
include B Z in
theorem zjV (Q78:Fn P w K mg b8 "first_unmet" ["lines","numbers"] 3 (Q77 K))(F:Fun K "meets" "Run.meets" zdW f fd)(M:Meth K (C 9) "meets" f):Mth CX0 P w K mg b8 (C 9) "meets" ["self","word","lines","numbers"] 4 (Q75 K C):=by
 refine⟨f,fd,M,F.ok (k:=3) zey (λvs H Q E h=>?_) (λcdv A outer s H vs Q E hr h=>?_),F.binds λ_ _ _ _ _ _ us hl=>(by obtain⟨_,_,_,_,rfl⟩:=len4 hl;rfl)⟩
 ·first
  | (obtain⟨_,_,_,_,_,_,_,_,_,_,_,_,_,_,_,_,rfl,_⟩:=h;rfl)
 obtain⟨r,ka,ia,sa,ks,cr,fas,s',kfp,w,la,na,ls,ns,f,st,rfl,A',hst,hen,hL,hN,n8,h9,q⟩:=h
 refine⟨_,(zag (zat (i:=4) zey.nd rfl (Or.inl rfl) (zap Q78 hr rfl (zac (pv 2) (zac (pv 3) zab))))
   (zag (zbd (zaA zj4 (pv 4) zdl (zaw _)) (zag (zat (i:=5) zey.nd rfl (Or.inl rfl) (zau (k_ix K) (zax K (pv 0) rfl) (zde zbP zae) (λ_ _=>rfl)))
   (zah (zbB (pv 0) (zdm (zam zbh (zac (pv 1) (za5 (zax K (pv 5) rfl) (za5 (zax K (pv 5) rfl) (zac (pv 4) zab)))))) rfl))) zaE)
   (zah (zaq (zbt zgE (pv 4) zdl (zaw _)))))),?_⟩
 walk_at "q"
 nofun
 refine znE hL hN n8 h9 λH1 s1=>?_
 have A1:=A'.same s1
 nofun
 cases hb:zaI ls ns with
 | none=>
  rw[hb] at q
  have q:=q H1 s1.offA (by
   have e:({s' with en:=(none:Option Nat).map (brk w f)} : Rs)=s':=by cases s';cases hen;rfl
   rw[e];exact A1)
  with_reducible refine zcM (λQ2 q2=>?_) ?_
  ·nofun
   refine⟨rfl,?_⟩
   show ∃ k,V.bl (!decide (V.non=V.non))=.bl k/\_
   rw[ziu]
   nofun
   exact q2
  ·nofun
   refine⟨rfl,?_⟩
   show Q (.bl (decide (V.non=V.non))) H1
   rw[ziu]
   exact q
 | some i=>
  rw[hb] at q
  have ei:∀ j:Int,decide (V.int j=V.non)=false:=λj=>decide_eq_false (by intro z;cases z)
  obtain⟨dr,ev,hr',_⟩:=A1.ins
  have fr:=A1.fr
  rw[hst] at fr
  cases fas with
  | nil=>exact fr.elim
  | cons t fas=>
  obtain⟨p,ha,aa⟩:=t
  obtain⟨⟨dp,f1⟩,_⟩:=fr
  with_reducible refine zh3 (λσ H'=>σ=[some (.ref r),some (.str w),some (.ref la),some (.ref na),some (.int (i:Int)),some (.ref p)]/\OffA [r] H1 H'/\RunX (C 9) (C 8) (C 0) H' r ka ia sa ks cr ((p,ha,aa)::fas) {s' with en:=some (brk w f i)} kfp) (λNX tail=>?_) ?_
  ·nofun
   refine⟨rfl,?_⟩
   show ∃ k,V.bl (!decide (V.int (i:Int)=V.non))=.bl k/\_
   rw[ei]
   nofun
   walk_at "q"
   nofun
   refine⟨r,(C 9),dr,_,_,rfl,hr',Z.c_Run,Z.n_Run_stack,zbN,?_⟩
   nofun
   refine zcf (SqL.of A1.sta) (v:=.ref p) zft ?_
   nofun
   refine⟨p,(C 8),dp,_,_,rfl,f1,Z.c_Frame,Z.n_Frame_number,zjB _ _ _ _,?_⟩
   nofun
   refine⟨p,(C 8),dp,_,_,rfl,f1,Z.c_Frame,Z.n_Frame_place,zcX _ _ _ _,?_⟩
   nofun
   refine⟨(by walk_at "sm"),λT hT=>?_⟩
   have t2:=zad hT (.tup (brk w f i))
   nofun
   refine⟨r,(C 9),dr,_,rfl,t2 _ _ hr',Z.c_Run,Z.n_Run_ending,by show 5<1000;decide,?_⟩
   rw[zda]
   refine tail _ _ ⟨rfl,t2.offA.trans (zbE (by simp)),?_⟩
   have:=(A1.same t2).setR (k':=s'.k) (en':=some (brk w f i)) (t2 _ _ hr') ⟨T,rfl,zaa⟩
   exact this
  ·rintro σ H2 ⟨rfl,o2,A2⟩
   nofun
   refine⟨rfl,?_⟩
   show Q (.bl (decide (V.int (i:Int)=V.non))) H2
   rw[ei]
   exact q H2 (s1.offA.trans o2) A2
inductive Q72 (K:Fg)(C:Nat->Addr)(vs:List V)(H:Hp)(Q:VK)(E:XK):Prop
 | mk (r ka ia sa:Addr) (ks:List Int) (cr:Int->Cr) (fas:List Fa) (s:Rs) (kfp:List Addr) (g:Fm) (st:List Fm) (l0 l1:Int):vs=[.ref r,.int l0,.int l1]->RunX (C 9) (C 8) (C 0) H r ka ia sa ks cr fas s kfp->s.st=g::st->WfF ks cr g->zh8 cr g->(∀ H',zaG (zas r ia sa fas) H (zas r ia sa fas) H'->RunX (C 9) (C 8) (C 0) H' r ka ia sa ks cr fas {s with st:=zjA cr g l0 l1::st} kfp->Q .non H')->Q72 K C vs H Q E
include B Z in
theorem zkJ (Q74:Mth CX0 P w K mg b8 (C 9) "craft_of" ["self","frame"] 1 (Q73 K C))(F:Fun K "take" "Run.take" zeH f fd)(M:Meth K (C 9) "take" f):Mth CX0 P w K mg b8 (C 9) "take" ["self","left_0","left_1"] 2 (Q72 K C):=by
 refine⟨f,fd,M,F.ok (k:=1) zfa (λvs H Q E h=>?_) (λcdv A outer s H vs Q E hr h=>?_),F.binds λ_ _ _ _ _ _ us hl=>(by obtain⟨_,_,_,rfl⟩:=len3 hl;rfl)⟩
 ·first
  | (obtain⟨_,_,_,_,_,_,_,_,_,_,_,_,_,rfl,_⟩:=h;rfl)
 obtain⟨r,ka,ia,sa,ks,cr,fas,s',kfp,g,st,l0,l1,rfl,A',hst,wf,hc,q⟩:=h
 refine⟨_,(zag (zat (i:=3) zfa.nd rfl (Or.inl rfl) (zau (k_ix K) (zax K (pv 0) rfl) (zde zbP zae) (λ_ _=>rfl)))
   (zag (zat (i:=4) zfa.nd rfl (Or.inl rfl) (zau (k_ix K) (zau (k_ix K) (zax K (zbc Q74 Z.c_Run hr zbi (pv 0) (zac (pv 3) zab)) rfl) (zax K (pv 3) rfl) (λ_ _=>rfl)) zae (λ_ _=>rfl)))
   (zag (ziX (pv 1) (zkR (zax K (pv 3) rfl) (zau (k_ix K) (pv 4) zae (λ_ _=>rfl)) zgq))
   (zag (ziX (pv 2) (zkR (zax K (pv 3) rfl) (zau (k_ix K) (pv 4) zae (λ_ _=>rfl)) zgq))
   (zah (zbB (pv 3) (zaW (zaS K) (zax K (pv 3) rfl) zae) rfl)))))),?_⟩
 have rt:=A'.kn.rt g.n wf.m
 obtain⟨dr,ev,hr',_⟩:=A'.ins
 have fr:=A'.fr
 rw[hst] at fr
 cases fas with
 | nil=>exact fr.elim
 | cons t fas=>
 obtain⟨p,ha,aa⟩:=t
 obtain⟨⟨dp,f1⟩,f2,f3,f4⟩:=fr
 have hlt:=hc.lt
 obtain⟨m,g0,g1,t0,t1,hd⟩:=hc
 have hok:=rt.parts.2.2.2.2.2 _ (zmg hd)
 obtain⟨_,_,b0,b1,_⟩:=zh9 hok
 have e4:=wf.h4
 nofun
 walk_at "q"
 nofun
 refine⟨r,(C 9),dr,_,_,rfl,hr',Z.c_Run,Z.n_Run_stack,zbN,?_⟩
 nofun
 refine zcf (SqL.of A'.sta) (v:=.ref p) zft ?_
 nofun
 walk_at "q"
 nofun
 refine⟨r,dr,_,rfl,hr',zcu (by decide +kernel),?_⟩
 nofun
 refine⟨r,ka,ia,sa,ks,cr,(p,ha,aa)::fas,s',kfp,p,dp,ha,aa,g,rfl,A',f1,wf.m,λo gg hC=>?_⟩
 obtain⟨dx,y1,y2,b3,b4,dvs,nvs,ho,_,_,h3,hD,_⟩:=hC.out (K:=K) rt.nine.d9
 have ld:=hD.1
 have hx:=List.getElem?_eq_getElem (l:=dvs) (i:=g.p.toNat) (by omega)
 obtain⟨T,ys,hT,hT2,px⟩:=zbl (hD.2 _ _ _ hd hx)
 obtain⟨x0,ys,rfl,e0,px⟩:=zak px
 obtain⟨x1,ys,rfl,e1,px⟩:=zak px
 obtain⟨x2,ys,rfl,e2,px⟩:=zak px
 obtain⟨x3,ys,rfl,e3,px⟩:=zak px
 obtain⟨tk,rfl,htk⟩:=zfp e3
 nofun
 refine⟨o,(C 0),dx,_,_,rfl,ho,Z.c_Craft,Z.n_Craft_deeds,zbM _ _ _ _,?_⟩
 nofun
 refine⟨p,(C 8),dp,_,_,rfl,f1,Z.c_Frame,Z.n_Frame_place,zcX _ _ _ _,?_⟩
 nofun
 refine zcf (SqL.of h3) (v:=.ref T) (zlc wf.p0 (by rw[hx,hT])) ?_
 nofun
 refine zaJ (SqT.of hT2) (v:=.ref tk) (zaB (j:=3) rfl) ?_
 nofun
 walk_at "q"
 nofun
 refine⟨p,(C 8),dp,_,_,rfl,f1,Z.c_Frame,Z.n_Frame_hands,zcl _ _ _ _,?_⟩
 nofun
 refine zaJ (SqT.of htk) (v:=.int t0) zbu ?_
 nofun
 refine zk3 f2 (j:=t0.toNat) (zm3 b0.1 (by rw[zlm];omega)) ?_
 rw[ziC]
 have A1:=A'.setH (xs:=g.hands.set t0.toNat l0) hst
 obtain⟨⟨dp1,g1'⟩,g2',g3',_⟩:=A1.fr
 have tk1:=(zdp (o:=.lst ((g.hands.set t0.toNat l0).map V.int)) f2) _ _ htk
 have m1:zaG (zas r ia sa ((p,ha,aa)::fas)) H (zas r ia sa ((p,ha,aa)::fas)) (upd H ha (.lst ((g.hands.set t0.toNat l0).map V.int))):=zaG.upd zqc
 generalize upd H ha (.lst ((g.hands.set t0.toNat l0).map V.int))=H1 at *
 nofun
 walk_at "q"
 nofun
 refine⟨p,(C 8),dp1,_,_,rfl,g1',Z.c_Frame,Z.n_Frame_hands,zcl _ _ _ _,?_⟩
 nofun
 refine zaJ (SqT.of tk1) (v:=.int t1) (zaB (j:=1) rfl) ?_
 nofun
 refine zk3 g2' (j:=t1.toNat) (zm3 b1.1 (by rw[zlm,List.length_set];omega)) ?_
 rw[ziC]
 have A2:=A1.setH (xs:=(g.hands.set t0.toNat l0).set t1.toNat l1) rfl
 obtain⟨⟨dp2,k1⟩,k2,k3,_⟩:=A2.fr
 have m2:zaG (zas r ia sa ((p,ha,aa)::fas)) H1 (zas r ia sa ((p,ha,aa)::fas)) (upd H1 ha (.lst (((g.hands.set t0.toNat l0).set t1.toNat l1).map V.int))):=zaG.upd zqc
 generalize upd H1 ha (.lst (((g.hands.set t0.toNat l0).set t1.toNat l1).map V.int))=H2 at *
 nofun
 refine⟨p,(C 8),dp2,_,_,rfl,k1,Z.c_Frame,Z.n_Frame_place,zcX _ _ _ _,?_⟩
 nofun
 refine⟨p,(C 8),dp2,_,rfl,k1,Z.c_Frame,Z.n_Frame_place,by show 4<1000;decide,?_⟩
 rw[zo8]
 have A3:=A2.setP (q:=g.p+1) rfl k1
 refine q _ (m1.trans (m2.trans (zaG.upd zrW))) ?_
 unfold zjA zkt
 rw[hd]
 exact A3
inductive Q70 (K:Fg)(C:Nat->Addr)(vs:List V)(H:Hp)(Q:VK)(E:XK):Prop
 | mk (r ka ia sa:Addr) (ks:List Int) (cr:Int->Cr) (fas:List Fa) (s:Rs) (kfp:List Addr) (f:Fm) (st:List Fm):vs=[.ref r]->RunX (C 9) (C 8) (C 0) H r ka ia sa ks cr fas s kfp->s.st=f::st->s.en=none->Wf ks cr (f::st)->(∀ H' fas',zaG (zas r ia sa fas) H (zas r ia sa fas') H'->RunX (C 9) (C 8) (C 0) H' r ka ia sa ks cr fas' (zjD cr s f st) kfp->Q .non H')->Q70 K C vs H Q E
include B Z in
theorem zjW (Q76:Mth CX0 P w K mg b8 (C 9) "meets" ["self","word","lines","numbers"] 4 (Q75 K C))(G_Run_take:Mth CX0 P w K mg b8 (C 9) "take" ["self","left_0","left_1"] 2 (Q72 K C))(Q5f:Mth CX0 P w K mg b8 (C 8) "numbers" ["self"] 1 (Q5e K C))(Q74:Mth CX0 P w K mg b8 (C 9) "craft_of" ["self","frame"] 1 (Q73 K C))(F:Fun K "leave" "Run.leave" zdV f fd)(M:Meth K (C 9) "leave" f):Mth CX0 P w K mg b8 (C 9) "leave" ["self"] 5 (Q70 K C):=by
 refine⟨f,fd,M,F.ok (k:=4) zf7 (λvs H Q E h=>?_) (λcdv A outer s H vs Q E hr h=>?_),F.binds λ_ _ _ _ _ _ us hl=>(by obtain⟨_,rfl⟩:=len1 hl;rfl)⟩
 ·first
  | (obtain⟨_,_,_,_,_,_,_,_,_,_,_,rfl,_⟩:=h;rfl)
 obtain⟨r,ka,ia,sa,ks,cr,fas,s',kfp,f,st,rfl,A',hst,hen,wfs,q⟩:=h
 refine⟨_,(zag (zat (i:=1) zf7.nd rfl (Or.inl rfl) (zau (k_ix K) (zax K (pv 0) rfl) (zde zbP zae) (λ_ _=>rfl)))
   (zag (zbd (zgD (zcJ (zbc Q76 Z.c_Run hr zbi (pv 0) (zam zbh (za5 (zax K (zbc Q74 Z.c_Run hr zbi (pv 0) (zac (pv 1) zab)) rfl) (zaC (zcg Q5f Z.c_Frame hr zbi (pv 1)) zab)))))) (zah zl7) zaE)
   (zag (za3 (zqR PySem.F.plainAttrs_list PySem.F.slot_list_pop PySem.F.type_list_pop zqS (zax K (pv 0) rfl)))
   (zah (zbd (zrJ K (zax K (pv 0) rfl)) (zah (za3 (zbc G_Run_take Z.c_Run hr zbi (pv 0) (zaD (zau (k_ix K) (zax K (pv 1) rfl) zae (λ_ _=>rfl)) (zaD (zau (k_ix K) (zax K (pv 1) rfl) zae (λ_ _=>rfl)) zab))))) (zah (zbB (pv 0) (zdm (zam zbh (zaD (zau (k_ix K) (zax K (pv 1) rfl) zae (λ_ _=>rfl)) (zaD (zau (k_ix K) (zax K (pv 1) rfl) zae (λ_ _=>rfl)) zab)))) rfl))))))),?_⟩
 have wf:=wfs.1 f List.mem_cons_self
 have rt:=A'.kn.rt f.n wf.m
 obtain⟨dr,ev,hr',_⟩:=A'.ins
 have fr:=A'.fr
 rw[hst] at fr
 cases fas with
 | nil=>exact fr.elim
 | cons t fas=>
 obtain⟨p,ha,aa⟩:=t
 obtain⟨⟨dp,f1⟩,f2,f3,f4⟩:=fr
 nofun
 walk_at "q"
 nofun
 refine⟨r,(C 9),dr,_,_,rfl,hr',Z.c_Run,Z.n_Run_stack,zbN,?_⟩
 nofun
 refine zcf (SqL.of A'.sta) (v:=.ref p) zft ?_
 nofun
 walk_at "q"
 nofun
 refine⟨r,dr,_,rfl,hr',zcu (by decide +kernel),?_⟩
 nofun
 refine⟨r,dr,_,rfl,hr',zcu (by decide +kernel),?_⟩
 nofun
 refine⟨r,ka,ia,sa,ks,cr,(p,ha,aa)::fas,s',kfp,p,dp,ha,aa,f,rfl,A',f1,wf.m,λo g hC=>?_⟩
 obtain⟨dx,y1,y2,b3,b4,dvs,nvs,ho,_,hL,_⟩:=hC.out (K:=K) rt.nine.d9
 nofun
 refine⟨o,(C 0),dx,_,_,rfl,ho,Z.c_Craft,Z.n_Craft_leaves,zck _ _ _ _,?_⟩
 nofun
 refine⟨p,dp,_,rfl,f1,zlT (by decide +kernel),?_⟩
 nofun
 refine⟨p,dp,ha,aa,f,rfl,f1,f2,f3,wf.h4,wf.a2,λna H1 s1 hna=>?_⟩
 nofun
 refine⟨r,ka,ia,sa,ks,cr,(p,ha,aa)::fas,s',kfp,"leaves",y2,na,_,zcW f,f,st,rfl,A'.same s1,hst,hen,hL.same s1,SqL.of hna,zdP wf,rt.sm.2.1,λH2 o2 A2=>?_⟩
 have m2:zaG (zas r ia sa ((p,ha,aa)::fas)) H (zas r ia sa ((p,ha,aa)::fas)) H2:=(zaG.same s1).trans (zaG.offR o2 A2)
 unfold zjD at q
 cases hb:zaI (cr f.n).leaves (zcW f) with
 | some i=>
  rw[hb] at q A2
  dsimp only[Option.isNone]
  nofun
  exact q H2 _ m2 A2
 | none=>
 rw[hb] at q A2
 have A2:RunX (C 9) (C 8) (C 0) H2 r ka ia sa ks cr ((p,ha,aa)::fas) s' kfp:=by
  rw[<-Rs.quiet hen];exact A2
 dsimp only[Option.isNone]
 nofun
 obtain⟨dr2,ev2,hr2,_⟩:=A2.ins
 nofun
 walk_at "q"
 nofun
 refine⟨r,(C 9),dr2,_,_,rfl,hr2,Z.c_Run,Z.n_Run_stack,zbN,?_⟩
 nofun
 refine⟨tyL A2.sta,?_⟩
 nofun
 refine i_pop A2.sta zqb ?_
 rw[zqa]
 have A3:=A2.pop hst
 have fr2:=A2.fr
 rw[hst] at fr2
 obtain⟨⟨dp2,k1⟩,k2,k3,_⟩:=fr2
 have ns:sa≠p/\sa≠ha:=by
  have:=A2.ndr.2.2.2.2.2.1
  rw[za6] at this
  simp only[List.mem_cons,not_or] at this
  exact⟨this.1,this.2.1⟩
 have k1:(upd H2 sa (.lst (fas.reverse.map λt=>V.ref t.1))) p=some (.ins (C 8) dp2 (ffl f.n f.p ha aa)):=by rw[zai ns.1.symm];exact k1
 have k2:(upd H2 sa (.lst (fas.reverse.map λt=>V.ref t.1))) ha=some (.lst (f.hands.map V.int)):=by rw[zai ns.2.symm];exact k2
 have m3:zaG (zas r ia sa ((p,ha,aa)::fas)) H (zas r ia sa fas) (upd H2 sa (.lst (fas.reverse.map λt=>V.ref t.1))):=m2.trans ((zaG.upd zqd).trans (zaG.less zou))
 generalize upd H2 sa (.lst (fas.reverse.map λt=>V.ref t.1))=H3 at *
 obtain⟨dr3,ev3,hr3,_⟩:=A3.ins
 have e4:=wf.h4
 nofun
 refine⟨r,(C 9),dr3,_,_,rfl,hr3,Z.c_Run,Z.n_Run_stack,zbN,?_⟩
 refine zo4 (SqL.of A3.sta) ?_
 cases st with
 | nil=>
  cases fas with
  | cons t fas=>exact A3.fr.elim
  | nil=>
  rw[show (!(([]:List Fa).reverse.map λt=>V.ref t.1).isEmpty)=false from rfl]
  nofun
  refine⟨p,(C 8),dp2,_,_,rfl,k1,Z.c_Frame,Z.n_Frame_hands,zcl _ _ _ _,?_⟩
  nofun
  refine zcf (SqL.of k2) (zfP (k:=0) (by decide) (by omega)) ?_
  nofun
  refine⟨p,(C 8),dp2,_,_,rfl,k1,Z.c_Frame,Z.n_Frame_hands,zcl _ _ _ _,?_⟩
  nofun
  refine zcf (SqL.of k2) (zfP (k:=1) (by decide) (by omega)) ?_
  nofun
  refine⟨(by walk_at "sm"),λT hT=>?_⟩
  have t4:=zad hT (.tup (zlS f))
  nofun
  refine⟨r,(C 9),dr3,_,rfl,t4 _ _ hr3,Z.c_Run,Z.n_Run_ending,by show 5<1000;decide,?_⟩
  rw[zda]
  exact q _ [] (m3.trans ((zaG.same t4).trans (zaG.upd zia))) ((A3.same t4).setR (k':=s'.k) (en':=some (zlS f)) (t4 _ _ hr3) ⟨T,rfl,zaa⟩)
 | cons g st=>
  cases fas with
  | nil=>exact A3.fr.elim
  | cons t fas=>
  have et:(!((t::fas).reverse.map λt=>V.ref t.1).isEmpty)=true:=by simp
  rw[et]
  nofun
  refine⟨r,dr3,_,rfl,hr3,zcu (by decide +kernel),?_⟩
  nofun
  refine⟨p,(C 8),dp2,_,_,rfl,k1,Z.c_Frame,Z.n_Frame_hands,zcl _ _ _ _,?_⟩
  nofun
  refine zcf (SqL.of k2) (zfP (k:=0) (by decide) (by omega)) ?_
  nofun
  refine⟨p,(C 8),dp2,_,_,rfl,k1,Z.c_Frame,Z.n_Frame_hands,zcl _ _ _ _,?_⟩
  nofun
  refine zcf (SqL.of k2) (zfP (k:=1) (by decide) (by omega)) ?_
  nofun
  refine⟨r,ka,ia,sa,ks,cr,t::fas,_,kfp,g,st,_,_,rfl,A3,rfl,wfs.1 g (by simp),wfs.2 g (by simp),λH4 m4 A4=>?_⟩
  nofun
  exact q H4 _ (m3.trans m4) A4
inductive Q6e (K:Fg)(C:Nat->Addr)(vs:List V)(H:Hp)(Q:VK)(E:XK):Prop
 | mk (r ka ia sa:Addr) (ks:List Int) (cr:Int->Cr) (fas:List Fa) (s:Rs) (kfp:List Addr) (f:Fm) (st:List Fm):vs=[.ref r]->RunX (C 9) (C 8) (C 0) H r ka ia sa ks cr fas s kfp->s.st=f::st->s.en=none->WfF ks cr f->f.p<((cr f.n).deeds.length:Int)->(cr f.n).Rt->(∀ H',OffA [r] H H'->RunX (C 9) (C 8) (C 0) H' r ka ia sa ks cr fas {s with en:=zd4 cr f} kfp->Q .non H')->Q6e K C vs H Q E
include B Z in
theorem zf1 (Q76:Mth CX0 P w K mg b8 (C 9) "meets" ["self","word","lines","numbers"] 4 (Q75 K C))(Q5f:Mth CX0 P w K mg b8 (C 8) "numbers" ["self"] 1 (Q5e K C))(Q74:Mth CX0 P w K mg b8 (C 9) "craft_of" ["self","frame"] 1 (Q73 K C))(F:Fun K "meet_notes" "Run.meet_notes" zb0 f fd)(M:Meth K (C 9) "meet_notes" f):Mth CX0 P w K mg b8 (C 9) "meet_notes" ["self"] 5 (Q6e K C):=by
 refine⟨f,fd,M,F.ok (k:=4) zdQ (λvs H Q E h=>?_) (λcdv A outer s H vs Q E hr h=>?_),F.binds λ_ _ _ _ _ _ us hl=>(by obtain⟨_,rfl⟩:=len1 hl;rfl)⟩
 ·first
  | (obtain⟨_,_,_,_,_,_,_,_,_,_,_,rfl,_⟩:=h;rfl)
 obtain⟨r,ka,ia,sa,ks,cr,fas,s',kfp,f,st,rfl,A',hst,hen,wf,hp,rt,q⟩:=h
 refine⟨_,(zag (zat (i:=1) zdQ.nd rfl (Or.inl rfl) (zau (k_ix K) (zax K (pv 0) rfl) (zde zbP zae) (λ_ _=>rfl)))
   (zah (za3 (zbc Q76 Z.c_Run hr zbi (pv 0) (zam zbh (zaD (zau (k_ix K) (zax K (zbc Q74 Z.c_Run hr zbi (pv 0) (zac (pv 1) zab)) rfl) (zax K (pv 1) rfl) (λ_ _=>rfl)) (zaC (zcg Q5f Z.c_Frame hr zbi (pv 1)) zab))))))),?_⟩
 obtain⟨dr,ev,hr',_⟩:=A'.ins
 have fr:=A'.fr
 rw[hst] at fr
 cases fas with
 | nil=>exact fr.elim
 | cons t fas=>
 obtain⟨p,ha,aa⟩:=t
 obtain⟨⟨dp,f1⟩,f2,f3,_⟩:=fr
 walk_at "q"
 nofun
 refine⟨r,(C 9),dr,_,_,rfl,hr',Z.c_Run,Z.n_Run_stack,zbN,?_⟩
 nofun
 refine zcf (SqL.of A'.sta) (v:=.ref p) zft ?_
 nofun
 refine⟨r,dr,_,rfl,hr',zcu (by decide +kernel),?_⟩
 nofun
 refine⟨r,dr,_,rfl,hr',zcu (by decide +kernel),?_⟩
 nofun
 refine⟨r,ka,ia,sa,ks,cr,(p,ha,aa)::fas,s',kfp,p,dp,ha,aa,f,rfl,A',f1,wf.m,λo g hC=>?_⟩
 obtain⟨dx,y1,y2,b3,b4,dvs,nvs,ho,_,_,h3,hD,h4,hN⟩:=hC.out (K:=K) rt.nine.d9
 have hp0:=wf.p0
 have ln:f.p.toNat<(cr f.n).notes.length:=by rw[rt.parts.2.2.2.1];omega
 have ln':f.p.toNat<nvs.length:=by rw[<-hN.1];exact ln
 obtain⟨la,hx,hL⟩:=hN.2 f.p.toNat _ _ (List.getElem?_eq_getElem ln) (List.getElem?_eq_getElem ln')
 nofun
 refine⟨o,(C 0),dx,_,_,rfl,ho,Z.c_Craft,Z.n_Craft_notes,zdv _ _ _ _,?_⟩
 nofun
 refine⟨p,(C 8),dp,_,_,rfl,f1,Z.c_Frame,Z.n_Frame_place,zcX _ _ _ _,?_⟩
 nofun
 refine zcf (SqL.of h4) (v:=.ref la) (zlc hp0 (by rw[List.getElem?_eq_getElem ln',hx])) ?_
 nofun
 refine⟨p,dp,_,rfl,f1,zlT (by decide +kernel),?_⟩
 nofun
 refine⟨p,dp,ha,aa,f,rfl,f1,f2,f3,wf.h4,wf.a2,λna H1 s1 hna=>?_⟩
 refine⟨r,ka,ia,sa,ks,cr,(p,ha,aa)::fas,s',kfp,"notes",la,na,_,zcW f,f,st,rfl,A'.same s1,hst,hen,hL.same s1,SqL.of hna,zdP wf,rt.sm.2.2 _ (List.getElem_mem ln),λH2 o2 A2=>?_⟩
 refine q H2 (s1.offA.trans o2) ?_
 unfold zd4
 rw[show (cr f.n).notes.getD f.p.toNat []=(cr f.n).notes[f.p.toNat] by rw[List.getD_eq_getElem?_getD,List.getElem?_eq_getElem ln];rfl]
 exact A2
inductive Q6a (K:Fg)(C:Nat->Addr)(vs:List V)(H:Hp)(Q:VK)(E:XK):Prop
 | mk (r ka ia sa:Addr) (ks:List Int) (cr:Int->Cr) (fas:List Fa) (s:Rs) (kfp:List Addr) (f:Fm) (st:List Fm) (j:Int):vs=[.ref r,.int j]->RunX (C 9) (C 8) (C 0) H r ka ia sa ks cr fas s kfp->s.st=f::st->s.en=none->Wf ks cr ({f with p:=j}::st)->(∀ H' fas',zaG (zas r ia sa fas) H (zas r ia sa fas') H'->RunX (C 9) (C 8) (C 0) H' r ka ia sa ks cr fas' (zd5 cr s {f with p:=j} st) kfp->Q .non H')->Q6a K C vs H Q E
include B Z in
theorem zhP (Q6d:Mth CX0 P w K mg b8 (C 9) "is_behind_last_deed" ["self"] 2 (Q6c K C))(Q71:Mth CX0 P w K mg b8 (C 9) "leave" ["self"] 5 (Q70 K C))(Q6f:Mth CX0 P w K mg b8 (C 9) "meet_notes" ["self"] 5 (Q6e K C))(F:Fun K "come_to" "Run.come_to" zcU f fd)(M:Meth K (C 9) "come_to" f):Mth CX0 P w K mg b8 (C 9) "come_to" ["self","place"] 6 (Q6a K C):=by
 refine⟨f,fd,M,F.ok (k:=5) zeY (λvs H Q E h=>?_) (λcdv A outer s H vs Q E hr h=>?_),F.binds λ_ _ _ _ _ _ us hl=>(by obtain⟨_,_,rfl⟩:=len2 hl;rfl)⟩
 ·first
  | (obtain⟨_,_,_,_,_,_,_,_,_,_,_,_,rfl,_⟩:=h;rfl)
 obtain⟨r,ka,ia,sa,ks,cr,fas,s',kfp,f,st,j,rfl,A',hst,hen,wfs,q⟩:=h
 refine⟨_,(zag (zat (i:=2) zeY.nd rfl (Or.inl rfl) (zau (k_ix K) (zax K (pv 0) rfl) (zde zbP zae) (λ_ _=>rfl)))
   (zag (zbB (pv 2) (pv 1) rfl)
   (zag (zkS PassesOwn.never (PW.pt (zl5 (zaA zgE (zax K (pv 0) rfl) zdl (zaw _)) (zj2 (zcJ (zcg Q6d Z.c_Run hr zbi (pv 0)))))) (zah (za3 (zcg Q71 Z.c_Run hr zbi (pv 0)))))
   (zah (zbd (zaA zgE (zax K (pv 0) rfl) zdl (zaw _)) (zah (za3 (zcg Q6f Z.c_Run hr zbi (pv 0)))) zaE))))),?_⟩
 obtain⟨dr,ev,hr',_⟩:=A'.ins
 have fr:=A'.fr
 rw[hst] at fr
 cases fas with
 | nil=>exact fr.elim
 | cons t fas=>
 obtain⟨p,ha,aa⟩:=t
 obtain⟨⟨dp,f1⟩,f2,f3,f4⟩:=fr
 nofun
 walk_at "q"
 nofun
 refine⟨r,(C 9),dr,_,_,rfl,hr',Z.c_Run,Z.n_Run_stack,zbN,?_⟩
 nofun
 refine zcf (SqL.of A'.sta) (v:=.ref p) zft ?_
 nofun
 walk_at "q"
 nofun
 refine⟨p,(C 8),dp,_,rfl,f1,Z.c_Frame,Z.n_Frame_place,by show 4<1000;decide,?_⟩
 rw[zo8]
 have A1:=A'.setP (q:=j) hst f1
 have m1:zaG (zas r ia sa ((p,ha,aa)::fas)) H (zas r ia sa ((p,ha,aa)::fas)) (upd H p (.ins (C 8) dp (ffl f.n j ha aa))):=zaG.upd zrW
 generalize upd H p (.ins (C 8) dp (ffl f.n j ha aa))=H1 at *
 nofun
 with_reducible refine zh3 (λσ H2=>σ=[some (.ref r),some (.int j),some (.ref p)]/\∃ fas2 s2,zee ks cr s' {f with p:=j} st s2/\zaG (zas r ia sa ((p,ha,aa)::fas)) H (zas r ia sa fas2) H2/\RunX (C 9) (C 8) (C 0) H2 r ka ia sa ks cr fas2 s2 kfp/\(s2.en=none->∃ g r,s2.st=g::r/\Wf ks cr (g::r)/\¬ g.p=((cr g.n).deeds.length:Int))) (λNX tail=>?_) ?_
 ·refine⟨λm σ H2=>σ=[some (.ref r),some (.int j),some (.ref p)]/\∃ fas2 s2,m=meaR s2/\zee ks cr s' {f with p:=j} st s2/\zaG (zas r ia sa ((p,ha,aa)::fas)) H (zas r ia sa fas2) H2/\RunX (C 9) (C 8) (C 0) H2 r ka ia sa ks cr fas2 s2 kfp,⟨_,rfl,_,({s' with st:={f with p:=j}::st} : Rs),rfl,⟨rfl,rfl,.inl ⟨hen,_,_,rfl,wfs,rfl⟩⟩,m1,A1⟩,?_⟩
  rintro m σ H2 ⟨rfl,fas2,s2,rfl,cm,m2,A2⟩
  obtain⟨dr2,ev2,hr2,en2⟩:=A2.ins
  have en2:=en2.none_iff
  nofun
  refine⟨r,(C 9),dr2,_,_,rfl,hr2,Z.c_Run,Z.n_Run_ending,zev,?_⟩
  nofun
  refine⟨rfl,?_⟩
  rw[en2]
  nofun
  cases he:s2.en with
  | some x=>
   dsimp only[Option.isNone]
   nofun
   exact tail _ _ ⟨rfl,_,_,cm,m2,A2,λz=>by rw[he] at z;cases z⟩
  | none=>
  obtain⟨g,r2,hs2,w2⟩:=cm.top he
  dsimp only[Option.isNone]
  nofun
  refine⟨r,dr2,_,rfl,hr2,zcu (by decide +kernel),?_⟩
  nofun
  refine⟨r,ka,ia,sa,ks,cr,fas2,s2,kfp,g,r2,rfl,A2,hs2,w2.1 g List.mem_cons_self,A2.kn.rt g.n (w2.1 g List.mem_cons_self).m,?_⟩
  by_cases hp:g.p=((cr g.n).deeds.length:Int)
  ·rw[decide_eq_true hp]
   nofun
   refine⟨λσ H3=>σ=[some (.ref r),some (.int j),some (.ref p)]/\∃ fas3 s3,meaR s3<meaR s2/\zee ks cr s' {f with p:=j} st s3/\zaG (zas r ia sa ((p,ha,aa)::fas)) H (zas r ia sa fas3) H3/\RunX (C 9) (C 8) (C 0) H3 r ka ia sa ks cr fas3 s3 kfp,λσ' H' ⟨e,fas3,s3,lt,z⟩=>⟨_,lt,e,fas3,s3,rfl,z⟩,?_⟩
   nofun
   refine⟨r,dr2,_,rfl,hr2,zcu (by decide +kernel),?_⟩
   nofun
   refine⟨r,ka,ia,sa,ks,cr,fas2,s2,kfp,g,r2,rfl,A2,hs2,he,w2,λH3 fas3 m3 A3=>?_⟩
   nofun
   obtain⟨c3,l3⟩:=cm.leave he hs2 hp
   exact⟨rfl,fas3,_,l3,c3,m2.trans m3,A3⟩
  ·rw[decide_eq_false hp]
   nofun
   exact tail _ _ ⟨rfl,_,_,cm,m2,A2,λ_=>⟨g,r2,hs2,w2,hp⟩⟩
 ·rintro σ H2 ⟨rfl,fas2,s2,cm,m2,A2,on⟩
  obtain⟨dr2,ev2,hr2,en2⟩:=A2.ins
  have en2:=en2.none_iff
  nofun
  refine⟨r,(C 9),dr2,_,_,rfl,hr2,Z.c_Run,Z.n_Run_ending,zev,?_⟩
  nofun
  refine⟨rfl,?_⟩
  rw[en2]
  nofun
  cases he:s2.en with
  | some x=>
   dsimp only[Option.isNone]
   nofun
   refine q H2 fas2 m2 ?_
   rw[<-cm.ended (by rw[he];intro z;cases z)]
   exact A2
  | none=>
  obtain⟨g,r2,hs2,w2,hp⟩:=on he
  dsimp only[Option.isNone]
  nofun
  refine⟨r,dr2,_,rfl,hr2,zcu (by decide +kernel),?_⟩
  nofun
  have wg:=w2.1 g List.mem_cons_self
  refine⟨r,ka,ia,sa,ks,cr,fas2,s2,kfp,g,r2,rfl,A2,hs2,he,wg,by have:=wg.pn;omega,A2.kn.rt g.n wg.m,λH3 o3 A3=>?_⟩
  nofun
  refine q H3 fas2 (m2.trans (zaG.offR o3 A3)) ?_
  rw[<-cm.stay he hs2 hp]
  exact A3
inductive Q68 (K:Fg)(C:Nat->Addr)(vs:List V)(H:Hp)(Q:VK)(E:XK):Prop
 | mk (r ka ia sa:Addr) (ks:List Int) (cr:Int->Cr) (fas:List Fa) (s:Rs) (kfp:List Addr) (g:Addr) (n a0 a1:Int):vs=[.ref r,.int n,.ref g]->RunX (C 9) (C 8) (C 0) H r ka ia sa ks cr fas s kfp->(SqL K H g [.int a0,.int a1]\/SqT K H g [.int a0,.int a1])->s.en=none->Wf ks cr (zec n a0 a1::s.st)->s.st.length<20->(∀ H' fas',zaG (zas r ia sa fas) H (zas r ia sa fas') H'->RunX (C 9) (C 8) (C 0) H' r ka ia sa ks cr fas' (zd5 cr s (zec n a0 a1) s.st) kfp->Q .non H')->Q68 K C vs H Q E
include B Z in
theorem zjX (Q6b:Mth CX0 P w K mg b8 (C 9) "come_to" ["self","place"] 6 (Q6a K C))(M_Frame:Mkr P w K mg b8 "Frame" (C 8) ["self","number","asked"] 1 (Q5d K C))(F:Fun K "begin" "Run.begin" zdU f fd)(M:Meth K (C 9) "begin" f):Mth CX0 P w K mg b8 (C 9) "begin" ["self","number","given"] 7 (Q68 K C):=by
 refine⟨f,fd,M,F.ok (k:=6) zjM (λvs H Q E h=>?_) (λcdv A outer s H vs Q E hr h=>?_),F.binds λ_ _ _ _ _ _ us hl=>(by obtain⟨_,_,_,rfl⟩:=len3 hl;rfl)⟩
 ·first
  | (obtain⟨_,_,_,_,_,_,_,_,_,_,_,_,_,rfl,_⟩:=h;rfl)
 obtain⟨r,ka,ia,sa,ks,cr,fas,s',kfp,g,n,a0,a1,rfl,A',hg,hen,wfs,l20,q⟩:=h
 refine⟨_,(zag (za3 (zmy PySem.F.plainAttrs_list PySem.F.slot_list_append PySem.F.type_list_append zi7 (zax K (pv 0) rfl) (zaC (zpM M_Frame hr rfl (zac (pv 1) (zac (pv 2) zab))) zab)))
   (zah (za3 (zbc Q6b Z.c_Run hr zbi (pv 0) (zam zae zab))))),?_⟩
 obtain⟨dr,ev,hr',_⟩:=A'.ins
 have fl:=A'.fr.len
 nofun
 walk_at "q"
 nofun
 refine⟨r,(C 9),dr,_,_,rfl,hr',Z.c_Run,Z.n_Run_stack,zbN,?_⟩
 nofun
 refine⟨tyL A'.sta,?_⟩
 nofun
 intro y dy hy hdy ndy
 have sm:Same H (upd (upd H dy (.own y)) y (.ins (C 8) dy [])):=λb o e=>by
  rw[zai (zan e hy),zai (zan e hdy)];exact e
 refine⟨y,dy,g,n,a0,a1,rfl,zaa,zf0 sm.sq hg,λha aa H1 ha0 aa0 nha o1 hp1 hh1 haa1=>⟨rfl,?_⟩⟩
 have s1:Same H H1:=λb o e=>o1 b o (λz=>by rw[zms.mp z,hy] at e;cases e) (sm b o e)
 have ny:y≠ha/\y≠aa:=⟨λz=>(by rw[<-z,zaa] at ha0;cases ha0),λz=>(by rw[<-z,zaa] at aa0;cases aa0)⟩
 have A2:=A'.push (f:=zec n a0 a1) s1 hy (sm.free ha0) (sm.free aa0) ny.1 ny.2 nha A'.kn.has hp1 hh1 haa1
 have m2:zaG (zas r ia sa fas) H (zas r ia sa ((y,ha,aa)::fas)) (upd H1 sa (.lst ((fas.reverse.map λt=>V.ref t.1)++[.ref y]))):=zaG.push s1 hy (sm.free ha0) (sm.free aa0)
 nofun
 refine i_app (s1 _ _ A'.sta) (zc3 (by rw[zlm,List.length_reverse];omega)) ?_
 generalize upd H1 sa (.lst ((fas.reverse.map λt=>V.ref t.1)++[.ref y]))=H2 at *
 obtain⟨dr2,ev2,hr2,_⟩:=A2.ins
 nofun
 refine⟨r,dr2,_,rfl,hr2,zcu (by decide +kernel),?_⟩
 nofun
 refine⟨r,ka,ia,sa,ks,cr,(y,ha,aa)::fas,_,kfp,zec n a0 a1,s'.st,0,rfl,A2,rfl,hen,wfs,λH3 fas3 m3 A3=>?_⟩
 nofun
 exact q H3 fas3 (m2.trans m3) A3
inductive Q79 (K:Fg)(vs:List V)(H:Hp)(Q:VK)(E:XK):Prop
 | mk (g:Addr) (a0 a1:Int):vs=[.ref g]->(SqL K H g [.int a0,.int a1]\/SqT K H g [.int a0,.int a1])->(∀ na H',Same H H'->H' na=some (.lst ((zeu a0 a1).map V.int))->Q (.ref na) H')->Q79 K vs H Q E
include B Z in
theorem zgi (F:Fun K "asked_numbers" "asked_numbers" zcc f fd)(m:mg "asked_numbers"=some (.ref f)):Fn P w K mg b8 "asked_numbers" ["asked"] 1 (Q79 K):=by
 refine Fn.of (k:=0) F zgf m (λ_ _ _ _ _ _ us hl=>(by obtain⟨_,rfl⟩:=len1 hl;rfl)) (λvs H Q E h=>?_) (λcdv A outer s H vs Q E hr h=>?_)
 ·first
  | (obtain⟨_,_,_,rfl,_⟩:=h;rfl)
 obtain⟨g,a0,a1,rfl,hg,q⟩:=h
 refine⟨_,(zah (zaq (zaO (zam zae (zam zae (zam zae (zam zae (zaD (zau (k_ix K) (pv 0) zae (λ_ _=>rfl)) (zaD (zau (k_ix K) (pv 0) zae (λ_ _=>rfl)) (zam zae (zam zae zab))))))))))),?_⟩
 nofun
 refine zkw hg ?_
 nofun
 refine zkx hg ?_
 nofun
 exact⟨(by walk_at "sm"),λp hp=>q _ _ (zad hp _) zaa⟩
inductive Q60 (K:Fg)(C:Nat->Addr)(vs:List V)(H:Hp)(Q:VK)(E:XK):Prop
 | mk (p dx ha la va g ia0:Addr) (n a0 a1:Int) (ks:List Int) (cr:Int->Cr) (ws:List Int) (fp:List Addr) (ins:List Int):vs=[.ref p,.ref ha,.int n,.ref g,.ref ia0]->H p=some (.ins (C 9) dx [])->HAt (C 7) (C 0) H ha la va ks cr ws fp->(SqL K H g [.int a0,.int a1]\/SqT K H g [.int a0,.int a1])->SqL K H ia0 (ins.map V.int)->n.natAbs<zbn->(n∉ks->∀ H',OffA [p] H H'->E (.ref (C 3)) none H')->(n∈ks->zaI (cr n).needs (zeu a0 a1)≠none->∀ H',OffA [p] H H'->E (.ref (C 6)) none H')->(n∈ks->zaI (cr n).needs (zeu a0 a1)=none->∀ H' ka ia sa fas kfp ns,zaG [p] H (zas p ia sa fas) H'->RunX (C 9) (C 8) (C 0) H' p ka ia sa ns cr fas (zd5 cr ⟨[],ins,0,none⟩ (zec n a0 a1) []) kfp->ns.Perm ks->(∀ b∈ka::kfp,H b=none)->Q .non H')->Q60 K C vs H Q E
theorem zlq{S:List Addr}{o:HO}(h:H b=none):OffA S H (upd H b o):=(zad h o).offA
include B Z in
theorem zr1 (Q48:Mth CX0 P w K mg b8 (C 7) "crafts" ["self"] 5 (Q47 K C))(Q69:Mth CX0 P w K mg b8 (C 9) "begin" ["self","number","given"] 7 (Q68 K C))(Q78:Fn P w K mg b8 "first_unmet" ["lines","numbers"] 3 (Q77 K))(Q7a:Fn P w K mg b8 "asked_numbers" ["asked"] 1 (Q79 K))(F:Fun K "__init__" "Run.__init__" zcA f fd)(M:Mk K (C 9) f):Mkx P w K mg b8 "Run" (C 9) ["self","hall","number","given","inputs"] 8 (Q60 K C):=by
 refine⟨f,fd,M,F.okx (k:=7) zhg (λvs H Q E h=>?_) (λcdv A outer s H vs Q E hr h=>?_),F.binds λ_ _ _ _ _ _ us hl=>(by obtain⟨_,_,_,_,_,rfl⟩:=len5 hl;rfl),Z.m_Run⟩
 ·first
  | (obtain⟨_,_,_,_,_,_,_,_,_,_,_,_,_,_,_,rfl,_⟩:=h;rfl)
 obtain⟨p,dx,ha,la,va,g,ia0,n,a0,a1,ks,cr,ws,fp,ins,rfl,hp,hA,hg,hin,hn,q1,q2,q3⟩:=h
 refine⟨_,(zag (zbB (pv 0) (zcg Q48 Z.c_Hall hr zbi (pv 1)) rfl)
   (zag (zbB (pv 0) (zdH (zk4 K) rfl B.list L2.zdJ (zac (pv 4) zab)) rfl)
   (zag (zbB (pv 0) (zaO zab) rfl)
   (zag (zbB (pv 0) zae rfl)
   (zag (zbB (pv 0) zdl rfl)
   (zag (zbd (zhS (zfi (hr_u hr) (pv 2) (zax K (pv 0) rfl))) (zah (zeM Z.e_NoCraft rfl Z.m_NoCraft rfl zfN (zaQ (zld (pv 2) (by decide +kernel)) zab))) zaE)
   (zag (zbd (zaA zj4 (zap Q78 hr rfl (za5 (zax K (zdZ (hr_u hr) (zax K (pv 0) rfl) (pv 2) (λ_ _=>rfl)) rfl) (zaC (zap Q7a hr rfl (zac (pv 3) zab)) zab))) zdl (zaw _)) (zah (zeM Z.e_Unfit rfl Z.m_Unfit rfl zfN (zaQ (zld (pv 2) (by decide +kernel)) zab))) zaE)
   (zah (za3 (zbc Q69 Z.c_Run hr zbi (pv 0) (zac (pv 2) (zac (pv 3) zab)))))))))))),?_⟩
 obtain⟨dh,hh⟩:=hA.ins
 nofun
 walk_at "q"
 nofun
 refine⟨ha,dh,_,rfl,hh,zd3 (by decide +kernel) (by decide +kernel),?_⟩
 nofun
 refine⟨ha,la,va,ks,cr,ws,fp,rfl,hA,λca H1 kvs ns F s1 ca0 hca pm so hk f0 fn fd=>?_⟩
 nofun
 have p1:=s1 _ _ hp
 refine⟨p,(C 9),dx,[],rfl,p1,Z.c_Run,Z.n_Run_known,by show 0<1000;decide,?_⟩
 have sq:∀ {H H':Hp}{fs:List (Str × V)},H p=some (.ins (C 9) dx fs)->OffA [p] H H'->Sq H H':=λ{H H' fs} e o b u eu su=>o b u (λz=>by rw[zms.mp z,e] at eu;cases eu;cases su) eu
 have o1:OffA [p] H1 (upd H1 p (.ins (C 9) dx (putF "known" (.ref ca) []))):=zbE (by simp)
 have p2:(upd H1 p (.ins (C 9) dx (putF "known" (.ref ca) []))) p=some (.ins (C 9) dx (putF "known" (.ref ca) [])):=zaa
 generalize upd H1 p (.ins (C 9) dx (putF "known" (.ref ca) []))=H2 at *
 nofun
 walk_at "q"
 nofun
 refine zgw (.inl ((sq p1 o1).lst (s1.seq hin))) λia ia0'=>?_
 have nia:ia≠p:=(zan p2 ia0').symm
 nofun
 refine⟨p,(C 9),dx,_,rfl,by rw[zai nia.symm];exact p2,Z.c_Run,Z.n_Run_inputs_left,Nat.lt_of_lt_of_le (za0 (n:=1) (by decide)) (by decide),?_⟩
 have o3:OffA [p] H1 (upd (upd H2 ia (.lst (ins.map V.int))) p (.ins (C 9) dx (putF "inputs_left" (.ref ia) (putF "known" (.ref ca) [])))):=o1.trans ((zlq ia0').trans (zbE (by simp)))
 have p3:(upd (upd H2 ia (.lst (ins.map V.int))) p (.ins (C 9) dx (putF "inputs_left" (.ref ia) (putF "known" (.ref ca) [])))) p=some (.ins (C 9) dx (putF "inputs_left" (.ref ia) (putF "known" (.ref ca) []))):=zaa
 have i3:(upd (upd H2 ia (.lst (ins.map V.int))) p (.ins (C 9) dx (putF "inputs_left" (.ref ia) (putF "known" (.ref ca) [])))) ia=some (.lst (ins.map V.int)):=by rw[zai nia,zaa]
 generalize upd (upd H2 ia (.lst (ins.map V.int))) p (.ins (C 9) dx (putF "inputs_left" (.ref ia) (putF "known" (.ref ca) [])))=H3 at *
 nofun
 walk_at "q"
 nofun
 refine⟨(by walk_at "sm"),λsa sa0=>?_⟩
 have nsa:sa≠p:=(zan p3 sa0).symm
 have nis:ia≠sa:=zan i3 sa0
 nofun
 refine⟨p,(C 9),dx,_,rfl,by rw[zai nsa.symm];exact p3,Z.c_Run,Z.n_Run_stack,Nat.lt_of_lt_of_le (za0 (n:=2) (za0 (n:=1) (by decide))) (by decide),?_⟩
 nofun
 walk_at "q"
 nofun
 refine⟨p,(C 9),dx,_,rfl,zaa,Z.c_Run,Z.n_Run_steps_done,Nat.lt_of_lt_of_le (za0 (n:=3) (za0 (n:=2) (za0 (n:=1) (by decide)))) (by decide),?_⟩
 nofun
 walk_at "q"
 nofun
 refine⟨p,(C 9),dx,_,rfl,zaa,Z.c_Run,Z.n_Run_ending,Nat.lt_of_lt_of_le (za0 (n:=4) (za0 (n:=3) (za0 (n:=2) (za0 (n:=1) (by decide))))) (by decide),?_⟩
 rw[zp7]
 generalize hH6:upd (upd (upd (upd H3 sa (.lst [])) p (.ins (C 9) dx (putF "stack" (.ref sa) (putF "inputs_left" (.ref ia) (putF "known" (.ref ca) []))))) p (.ins (C 9) dx (putF "steps_done" (.int 0) (putF "stack" (.ref sa) (putF "inputs_left" (.ref ia) (putF "known" (.ref ca) [])))))) p (.ins (C 9) dx (rfls ca ia sa 0 .non))=H6
 have o6:OffA [p] H1 H6:=by
  rw[<-hH6]
  exact o3.trans ((zlq sa0).trans ((zbE (by simp)).trans ((zbE (by simp)).trans (zbE (by simp)))))
 have p6:H6 p=some (.ins (C 9) dx (rfls ca ia sa 0 .non)):=by rw[<-hH6,zaa]
 have i6:H6 ia=some (.lst (ins.map V.int)):=by rw[<-hH6,zai nia,zai nia,zai nia,zai nis];exact i3
 have s6:H6 sa=some (.lst []):=by rw[<-hH6,zai nsa,zai nsa,zai nsa,zaa]
 clear hH6
 have ia1:H1 ia=none:=by
  cases e:H1 ia with
  | none=>rfl
  | some o=>rw[o1 ia o (by simp[nia]) e] at ia0';cases ia0'
 have sa1:H1 sa=none:=by
  cases e:H1 sa with
  | none=>rfl
  | some o=>rw[o3 sa o (by simp[nsa]) e] at sa0;cases sa0
 have nF:∀ m∈ns,∀ b∈F m,b≠p/\∃ o,H1 b=some o:=λm hm b hb=>by
  obtain⟨v,_,p',_,hC⟩:=hk.2.2 m hm
  exact⟨λz=>(by have:=f0 m hm b hb;rw[z,hp] at this;cases this),hC.has b hb⟩
 have tk:Tups H1 H6:=λb xs e=>o6 b _ (λz=>by rw[zms.mp z,p1] at e;cases e) e
 have kn:KnownAt (C 0) H6 ca ns cr (ns.flatMap F):=⟨⟨kvs,o6 _ _ (by simp[zan hp ca0 |>.symm]) hca,hk.1,hk.2.1,λm hm=>by
  obtain⟨v,e,p',rfl,hC⟩:=hk.2.2 m hm
  exact⟨_,e,p',F m,rfl,hC.frame tk λb hb o ho=>o6 b o (by simp[(nF m hm b hb).1]) ho,λb hb=>List.mem_flatMap.mpr ⟨m,hm,hb⟩⟩⟩,λm hm=>hA.rt m (pm.mem_iff.mp hm),λb hb=>by
   obtain⟨m,hm,hb⟩:=List.mem_flatMap.mp hb
   obtain⟨nb,o,ho⟩:=nF m hm b hb
   exact⟨o,o6 b o (by simp[nb]) ho⟩⟩
 have A6:RunX (C 9) (C 8) (C 0) H6 p ca ia sa ns cr [] ⟨[],ins,0,none⟩ (ns.flatMap F):=by
  refine⟨⟨dx,.non,p6,rfl⟩,kn,i6,s6,trivial,?_,λb hb=>?_⟩
  ·simp only[zas,fasL,List.flatMap_nil,List.nodup_cons,List.mem_cons,List.not_mem_nil,or_false,not_or,not_false_eq_true,List.nodup_nil,and_true]
   exact⟨⟨nia.symm,nsa.symm⟩,nis⟩
  ·intro z
   obtain⟨m,hm,z⟩:=List.mem_flatMap.mp z
   obtain⟨nb,o,ho⟩:=nF m hm b z
   simp only[zas,fasL,List.flatMap_nil,List.mem_cons,List.not_mem_nil,or_false] at hb
   rcases hb with rfl | rfl | rfl
   ·exact nb rfl
   ·rw[ia1] at ho;cases ho
   ·rw[sa1] at ho;cases ho
 have o06:OffA [p] H H6:=s1.offA.trans o6
 have m06:zaG [p] H (zas p ia sa []) H6:=⟨o06,λb hb=>by
  simp only[zas,fasL,List.flatMap_nil,List.mem_cons,List.not_mem_nil,or_false] at hb
  rcases hb with rfl | rfl | rfl
  ·exact .inl (by simp)
  ·exact .inr (s1.free ia1)
  ·exact .inr (s1.free sa1),zln o06 λb hb=>by rw[zms.mp hb];exact⟨_,p6⟩⟩
 nofun
 walk_at "q"
 nofun
 refine⟨p,(C 9),dx,_,_,rfl,p6,Z.c_Run,Z.n_Run_known,zfs,?_⟩
 by_cases hm:n∈ks
 ·have hm':n∈ns:=pm.mem_iff.mpr hm
  obtain⟨kvs',o,g1,e1,e2,e3⟩:=kn.craft hm'
  refine⟨ca,some (.ref o),rfl,by rw[<-e2];exact DGet.k (k:=.inl n) e1,?_⟩
  dsimp only[Option.isSome]
  nofun
  have rtm:=kn.rt n hm'
  obtain⟨dc,y1,y2,b3,b4,dvs,nvs,ho,hL,_⟩:=e3.out (K:=K) rtm.nine.d9
  have hg6:=zf0 ((s1.sq).trans (sq p1 o6)) hg
  nofun
  walk_at "q"
  nofun
  refine⟨p,(C 9),dx,_,_,rfl,p6,Z.c_Run,Z.n_Run_known,zfs,?_⟩
  nofun
  refine⟨ca,.ref o,rfl,by rw[<-e2];exact DGet.k (k:=.inl n) e1,?_⟩
  nofun
  refine⟨o,(C 0),dc,_,_,rfl,ho,Z.c_Craft,Z.n_Craft_needs,zcC _ _ _ _,?_⟩
  nofun
  refine⟨g,a0,a1,rfl,hg6,λna H7 s7 hna=>?_⟩
  nofun
  refine znE (hL.same s7) (SqL.of hna) rfl rtm.sm.1 λH8 s8=>?_
  have s68:=s7.trans s8
  nofun
  cases hb:zaI (cr n).needs (zeu a0 a1) with
  | some i=>
   refine⟨rfl,?_⟩
   show ∃ k,V.bl (!decide (V.int (i:Int)=V.non))=.bl k/\_
   rw[show decide (V.int (i:Int)=V.non)=false from decide_eq_false (by intro z;cases z)]
   nofun
   refine⟨hn,λz=>?_⟩
   nofun
   exact⟨(by walk_at "sm"),q2 hm (by rw[hb];intro z;cases z) _ (o06.trans s68.offA)⟩
  | none=>
   refine⟨rfl,?_⟩
   show ∃ k,V.bl (!decide (V.non=V.non))=.bl k/\_
   rw[ziu]
   nofun
   refine⟨p,dx,_,rfl,s68 _ _ p6,zcu (by decide +kernel),?_⟩
   nofun
   refine⟨p,ca,ia,sa,ns,cr,[],_,_,g,n,a0,a1,rfl,A6.same s68,zf0 s68.sq hg6,rfl,⟨λk hk=>?_,λk hk=>by cases hk⟩,by show 0<20;decide,λH9 fas9 m9 A9=>?_⟩
   ·rw[zms.mp hk]
    exact⟨hm',by show (0:Int)<=0;omega,by show (0:Int)<=_;omega,rfl,rfl⟩
   ·nofun
    refine q3 hm hb H9 ca ia sa fas9 _ ns (m06.trans ((zaG.same s68).trans m9)) A9 pm λb hb=>?_
    rcases List.mem_cons.mp hb with rfl | hb
    ·exact ca0
    ·obtain⟨m,hm,hb⟩:=List.mem_flatMap.mp hb
     exact f0 m hm b hb
 ·obtain⟨kvs',e1,e2⟩:=kn.no (λz=>hm (pm.mem_iff.mp z))
  refine⟨ca,none,rfl,by rw[<-e2];exact DGet.k (k:=.inl n) e1,?_⟩
  dsimp only[Option.isSome]
  nofun
  refine⟨hn,λz=>?_⟩
  nofun
  exact⟨(by walk_at "sm"),q1 hm _ o06⟩
inductive Q63 (K:Fg)(C:Nat->Addr)(vs:List V)(H:Hp)(Q:VK)(E:XK):Prop
 | mk (r ka ia sa:Addr) (ks:List Int) (cr:Int->Cr) (fas:List Fa) (s:Rs) (kfp:List Addr) (f:Fm) (st:List Fm) (hd x:Int):vs=[.ref r,.int hd,.int x]->RunX (C 9) (C 8) (C 0) H r ka ia sa ks cr fas s kfp->s.st=f::st->s.en=none->(0<=hd/\hd<=3)->Wf ks cr (f::st)->f.p<((cr f.n).deeds.length:Int)->(∀ H' fas',zaG (zas r ia sa fas) H (zas r ia sa fas') H'->RunX (C 9) (C 8) (C 0) H' r ka ia sa ks cr fas' (putR cr s f st hd x) kfp->Q .non H')->Q63 K C vs H Q E
include B Z in
theorem zlY (Q6b:Mth CX0 P w K mg b8 (C 9) "come_to" ["self","place"] 6 (Q6a K C))(F:Fun K "put" "Run.put" zfe f fd)(M:Meth K (C 9) "put" f):Mth CX0 P w K mg b8 (C 9) "put" ["self","hand","number"] 7 (Q63 K C):=by
 refine⟨f,fd,M,F.ok (k:=6) zib (λvs H Q E h=>?_) (λcdv A outer s H vs Q E hr h=>?_),F.binds λ_ _ _ _ _ _ us hl=>(by obtain⟨_,_,_,rfl⟩:=len3 hl;rfl)⟩
 ·first
  | (obtain⟨_,_,_,_,_,_,_,_,_,_,_,_,_,rfl,_⟩:=h;rfl)
 obtain⟨r,ka,ia,sa,ks,cr,fas,s',kfp,f,st,hd,x,rfl,A',hst,hen,hh,wfs,hp,q⟩:=h
 refine⟨_,(zag (zat (i:=3) zib.nd rfl (Or.inl rfl) (zau (k_ix K) (zax K (pv 0) rfl) (zde zbP zae) (λ_ _=>rfl)))
   (zag (ziX (pv 2) (zkR (zax K (pv 3) rfl) (pv 1) zgq))
   (zah (za3 (zbc Q6b Z.c_Run hr zbi (pv 0) (zcF (zaW (zaS K) (zax K (pv 3) rfl) zae) zab)))))),?_⟩
 have wf:=wfs.1 f List.mem_cons_self
 have e4:=wf.h4
 obtain⟨dr,ev,hr',_⟩:=A'.ins
 have fr:=A'.fr
 rw[hst] at fr
 cases fas with
 | nil=>exact fr.elim
 | cons t fas=>
 obtain⟨p,ha,aa⟩:=t
 obtain⟨⟨dp,f1⟩,f2,f3,f4⟩:=fr
 nofun
 walk_at "q"
 nofun
 refine⟨r,(C 9),dr,_,_,rfl,hr',Z.c_Run,Z.n_Run_stack,zbN,?_⟩
 nofun
 refine zcf (SqL.of A'.sta) (v:=.ref p) zft ?_
 nofun
 walk_at "q"
 nofun
 refine⟨p,(C 8),dp,_,_,rfl,f1,Z.c_Frame,Z.n_Frame_hands,zcl _ _ _ _,?_⟩
 nofun
 refine zk3 f2 (j:=hd.toNat) (zm3 hh.1 (by rw[zlm];omega)) ?_
 rw[ziC]
 have A1:=A'.setH (xs:=f.hands.set hd.toNat x) hst
 obtain⟨⟨dp1,g1'⟩,_⟩:=A1.fr
 obtain⟨dr1,ev1,hr1,_⟩:=A1.ins
 have m1:zaG (zas r ia sa ((p,ha,aa)::fas)) H (zas r ia sa ((p,ha,aa)::fas)) (upd H ha (.lst ((f.hands.set hd.toNat x).map V.int))):=zaG.upd zqc
 generalize upd H ha (.lst ((f.hands.set hd.toNat x).map V.int))=H1 at *
 nofun
 refine⟨r,dr1,_,rfl,hr1,zcu (by decide +kernel),?_⟩
 nofun
 refine⟨p,(C 8),dp1,_,_,rfl,g1',Z.c_Frame,Z.n_Frame_place,zcX _ _ _ _,?_⟩
 nofun
 refine⟨r,ka,ia,sa,ks,cr,(p,ha,aa)::fas,_,kfp,{f with hands:=f.hands.set hd.toNat x},st,f.p+1,rfl,A1,rfl,hen,wfs.top ⟨wf.m,by have:=wf.p0;show 0<=f.p+1;omega,by show f.p+1<=((cr f.n).deeds.length:Int);omega,by show (f.hands.set hd.toNat x).length=4;rw[List.length_set];exact e4,wf.a2⟩,λH2 fas2 m2 A2=>?_⟩
 nofun
 exact q H2 fas2 (m1.trans m2) A2
inductive Q65 (K:Fg)(C:Nat->Addr)(vs:List V)(H:Hp)(Q:VK)(E:XK):Prop
 | mk (r ka ia sa:Addr) (ks:List Int) (cr:Int->Cr) (fas:List Fa) (s:Rs) (kfp:List Addr) (f:Fm) (st:List Fm) (hd lo hi:Int):vs=[.ref r,.int hd,.int lo,.int hi]->RunX (C 9) (C 8) (C 0) H r ka ia sa ks cr fas s kfp->s.st=f::st->s.en=none->(0<=hd/\hd<=3)->Wf ks cr (f::st)->f.p<((cr f.n).deeds.length:Int)->(∀ H' fas',zaG (zas r ia sa fas) H (zas r ia sa fas') H'->RunX (C 9) (C 8) (C 0) H' r ka ia sa ks cr fas' (zfO cr ks s f st (.draw hd lo hi)) kfp->Q .non H')->Q65 K C vs H Q E
include B Z in
theorem zkK (Q64:Mth CX0 P w K mg b8 (C 9) "put" ["self","hand","number"] 7 (Q63 K C))(F:Fun K "draw" "Run.draw" zeE f fd)(M:Meth K (C 9) "draw" f):Mth CX0 P w K mg b8 (C 9) "draw" ["self","hand","low","high"] 8 (Q65 K C):=by
 refine⟨f,fd,M,F.ok (k:=7) zhh (λvs H Q E h=>?_) (λcdv A outer s H vs Q E hr h=>?_),F.binds λ_ _ _ _ _ _ us hl=>(by obtain⟨_,_,_,_,rfl⟩:=len4 hl;rfl)⟩
 ·first
  | (obtain⟨_,_,_,_,_,_,_,_,_,_,_,_,_,_,rfl,_⟩:=h;rfl)
 obtain⟨r,ka,ia,sa,ks,cr,fas,s',kfp,f,st,hd,lo,hi,rfl,A',hst,hen,hh,wfs,hp,q⟩:=h
 refine⟨_,(zag (zbd (zgD (zrJ K (zax K (pv 0) rfl))) (zag (zbB (pv 0) (zdm (zam zbh zab)) rfl)
   (zah zl7)) zaE)
   (zag (zat (i:=4) zhh.nd rfl (Or.inl rfl) (zmy PySem.F.plainAttrs_list PySem.F.slot_list_pop PySem.F.type_list_pop znS (zax K (pv 0) rfl) (zam zae zab)))
   (zah (zbd (znL zlu zlu (pv 2) (pv 4) (pv 3)) (zah (za3 (zbc Q64 Z.c_Run hr zbi (pv 0) (zac (pv 1) (zac (pv 4) zab))))) (zah (zbB (pv 0) (zdm (zam zbh zab)) rfl)))))),?_⟩
 obtain⟨dr,ev,hr',_⟩:=A'.ins
 have inp:=A'.inp
 unfold zfO at q
 nofun
 walk_at "q"
 nofun
 refine⟨r,(C 9),dr,_,_,rfl,hr',Z.c_Run,Z.n_Run_inputs_left,zjC,?_⟩
 refine zo4 (SqL.of inp) ?_
 cases hin:s'.ins with
 | nil=>
  rw[hin] at q inp
  dsimp only at q
  rw[show (!(([]:List Int).map V.int).isEmpty)=false from rfl]
  nofun
  walk_at "q"
  nofun
  refine⟨(by walk_at "sm"),λT hT=>?_⟩
  have t4:=zad hT (.tup [V.str "dry"])
  nofun
  refine⟨r,(C 9),dr,_,rfl,t4 _ _ hr',Z.c_Run,Z.n_Run_ending,by show 5<1000;decide,?_⟩
  rw[zda]
  nofun
  have z:=(A'.same t4).setR (k':=s'.k) (en':=some [V.str "dry"]) (t4 _ _ hr') ⟨T,rfl,zaa⟩
  rw[hin] at z
  exact q _ fas ((zaG.same t4).trans (zaG.upd zia)) z
 | cons x rs=>
 rw[hin] at q inp
 dsimp only at q
 rw[zmc] at inp
 rw[show (!((x::rs).map V.int).isEmpty)=true from rfl]
 nofun
 walk_at "q"
 nofun
 refine⟨r,(C 9),dr,_,_,rfl,hr',Z.c_Run,Z.n_Run_inputs_left,zjC,?_⟩
 nofun
 refine⟨tyL inp,?_⟩
 nofun
 refine zrK inp ?_
 have A1:=A'.setIn (xs:=rs)
 have m1:zaG (zas r ia sa fas) H (zas r ia sa fas) (upd H ia (.lst (rs.map V.int))):=zaG.upd zrX
 generalize upd H ia (.lst (rs.map V.int))=H1 at *
 obtain⟨dr1,ev1,hr1,_⟩:=A1.ins
 have bad:¬ (lo<=x/\x<=hi)->∀ T,H1 T=none->Q .non (upd (upd H1 T (.tup [V.str "stray"])) r (.ins (C 9) dr1 (rfls ka ia sa s'.k (.ref T)))):=λnb T hT=>by
  rw[if_neg nb] at q
  have t4:=zad hT (.tup [V.str "stray"])
  exact q _ fas (m1.trans ((zaG.same t4).trans (zaG.upd zia))) ((A1.same t4).setR (k':=s'.k) (en':=some [V.str "stray"]) (t4 _ _ hr1) ⟨T,rfl,zaa⟩)
 nofun
 by_cases h1:lo<=x
 ·rw[decide_eq_true h1]
  nofun
  by_cases h2:x<=hi
  ·rw[decide_eq_true h2]
   rw[if_pos ⟨h1,h2⟩] at q
   nofun
   refine⟨r,dr1,_,rfl,hr1,zcu (by decide +kernel),?_⟩
   nofun
   refine⟨r,ka,ia,sa,ks,cr,fas,_,kfp,f,st,hd,x,rfl,A1,hst,hen,hh,wfs,hp,λH2 fas2 m2 A2=>?_⟩
   nofun
   exact q H2 fas2 (m1.trans m2) A2
  ·rw[decide_eq_false h2]
   nofun
   refine⟨(by walk_at "sm"),λT hT=>?_⟩
   nofun
   refine⟨r,(C 9),dr1,_,rfl,zad hT _ _ _ hr1,Z.c_Run,Z.n_Run_ending,by show 5<1000;decide,?_⟩
   rw[zda]
   exact bad (λz=>h2 z.2) T hT
 ·rw[decide_eq_false h1]
  nofun
  refine⟨(by walk_at "sm"),λT hT=>?_⟩
  nofun
  refine⟨r,(C 9),dr1,_,rfl,zad hT _ _ _ hr1,Z.c_Run,Z.n_Run_ending,by show 5<1000;decide,?_⟩
  rw[zda]
  exact bad (λz=>h1 z.1) T hT
inductive Q66 (K:Fg)(C:Nat->Addr)(vs:List V)(H:Hp)(Q:VK)(E:XK):Prop
 | mk (r ka ia sa:Addr) (ks:List Int) (cr:Int->Cr) (fas:List Fa) (s:Rs) (kfp:List Addr) (f:Fm) (st:List Fm) (la:Addr) (l:List Int):vs=[.ref r,.ref la]->RunX (C 9) (C 8) (C 0) H r ka ia sa ks cr fas s kfp->s.st=f::st->s.en=none->H la=some (.lst (l.map V.int))->l.length=9->Sm l->Wf ks cr (f::st)->f.p<((cr f.n).deeds.length:Int)->(∀ H' fas',zaG (zas r ia sa fas) H (zas r ia sa fas') H'->RunX (C 9) (C 8) (C 0) H' r ka ia sa ks cr fas' (match zaI [l] (zcW f) with
  | some i=>{s with en:=some (brk "hold" f i)}
  | none=>zd5 cr s {f with p:=f.p+1} st) kfp->Q .non H')->Q66 K C vs H Q E
include B Z in
theorem zkL (Q76:Mth CX0 P w K mg b8 (C 9) "meets" ["self","word","lines","numbers"] 4 (Q75 K C))(Q5f:Mth CX0 P w K mg b8 (C 8) "numbers" ["self"] 1 (Q5e K C))(Q6b:Mth CX0 P w K mg b8 (C 9) "come_to" ["self","place"] 6 (Q6a K C))(F:Fun K "hold" "Run.hold" zeF f fd)(M:Meth K (C 9) "hold" f):Mth CX0 P w K mg b8 (C 9) "hold" ["self","line"] 7 (Q66 K C):=by
 refine⟨f,fd,M,F.ok (k:=6) zhi (λvs H Q E h=>?_) (λcdv A outer s H vs Q E hr h=>?_),F.binds λ_ _ _ _ _ _ us hl=>(by obtain⟨_,_,rfl⟩:=len2 hl;rfl)⟩
 ·first
  | (obtain⟨_,_,_,_,_,_,_,_,_,_,_,_,_,rfl,_⟩:=h;rfl)
 obtain⟨r,ka,ia,sa,ks,cr,fas,s',kfp,f,st,la,l,rfl,A',hst,hen,hla,l9,lsm,wfs,hp,q⟩:=h
 refine⟨_,(zag (zat (i:=2) zhi.nd rfl (Or.inl rfl) (zau (k_ix K) (zax K (pv 0) rfl) (zde zbP zae) (λ_ _=>rfl)))
   (zah (zbd (zcJ (zbc Q76 Z.c_Run hr zbi (pv 0) (zam zbh (zcL (zaO (zac (pv 1) zab)) (zaC (zcg Q5f Z.c_Frame hr zbi (pv 2)) zab))))) (zah (za3 (zbc Q6b Z.c_Run hr zbi (pv 0) (zcF (zaW (zaS K) (zax K (pv 2) rfl) zae) zab)))) zaE))),?_⟩
 have wf:=wfs.1 f List.mem_cons_self
 obtain⟨dr,ev,hr',_⟩:=A'.ins
 have fr:=A'.fr
 rw[hst] at fr
 cases fas with
 | nil=>exact fr.elim
 | cons t fas=>
 obtain⟨p,ha,aa⟩:=t
 obtain⟨⟨dp,f1⟩,f2,f3,f4⟩:=fr
 nofun
 walk_at "q"
 nofun
 refine⟨r,(C 9),dr,_,_,rfl,hr',Z.c_Run,Z.n_Run_stack,zbN,?_⟩
 nofun
 refine zcf (SqL.of A'.sta) (v:=.ref p) zft ?_
 nofun
 refine⟨r,dr,_,rfl,hr',zcu (by decide +kernel),?_⟩
 nofun
 refine⟨(by walk_at "sm"),λb hb=>?_⟩
 have t1:=zad hb (.lst [V.ref la])
 have hb1:(upd H b (.lst [V.ref la])) b=some (.lst [V.ref la]):=zaa
 generalize upd H b (.lst [V.ref la])=H1 at *
 nofun
 refine⟨p,dp,_,rfl,t1 _ _ f1,zlT (by decide +kernel),?_⟩
 nofun
 refine⟨p,dp,ha,aa,f,rfl,t1 _ _ f1,t1 _ _ f2,t1 _ _ f3,wf.h4,wf.a2,λna H2 s2 hna=>?_⟩
 have s02:=t1.trans s2
 nofun
 refine⟨r,ka,ia,sa,ks,cr,(p,ha,aa)::fas,s',kfp,"hold",b,na,[l],zcW f,f,st,rfl,A'.same s02,hst,hen,⟨_,s2 _ _ hb1,?_⟩,SqL.of hna,zdP wf,λz hz=>by rw[zms.mp hz];exact⟨l9,lsm⟩,λH3 o3 A3=>?_⟩
 ·show Reps K H2 [nums l] [.ref la]
  unfold Reps
  exact⟨_,_,rfl,za8.mpr ⟨la,rfl,SqL.of (s02 _ _ hla)⟩,by unfold Reps;rfl⟩
 have m3:zaG (zas r ia sa ((p,ha,aa)::fas)) H (zas r ia sa ((p,ha,aa)::fas)) H3:=(zaG.same s02).trans (zaG.offR o3 A3)
 cases hb:zaI [l] (zcW f) with
 | some i=>
  rw[hb] at q A3
  dsimp only[Option.isNone]
  nofun
  exact q H3 _ m3 A3
 | none=>
 rw[hb] at q A3
 have A3:RunX (C 9) (C 8) (C 0) H3 r ka ia sa ks cr ((p,ha,aa)::fas) s' kfp:=by
  rw[<-Rs.quiet hen];exact A3
 dsimp only[Option.isNone]
 nofun
 obtain⟨dr3,ev3,hr3,_⟩:=A3.ins
 have fr3:=A3.fr
 rw[hst] at fr3
 obtain⟨⟨dp3,k1⟩,_⟩:=fr3
 refine⟨r,dr3,_,rfl,hr3,zcu (by decide +kernel),?_⟩
 nofun
 refine⟨p,(C 8),dp3,_,_,rfl,k1,Z.c_Frame,Z.n_Frame_place,zcX _ _ _ _,?_⟩
 nofun
 refine⟨r,ka,ia,sa,ks,cr,(p,ha,aa)::fas,s',kfp,f,st,f.p+1,rfl,A3,hst,hen,wfs.top ⟨wf.m,by have:=wf.p0;show 0<=f.p+1;omega,by show f.p+1<=((cr f.n).deeds.length:Int);omega,wf.h4,wf.a2⟩,λH4 fas4 m4 A4=>?_⟩
 nofun
 exact q H4 fas4 (m3.trans m4) A4
inductive Q67 (K:Fg)(C:Nat->Addr)(vs:List V)(H:Hp)(Q:VK)(E:XK):Prop
 | mk (r ka ia sa:Addr) (ks:List Int) (cr:Int->Cr) (fas:List Fa) (s:Rs) (kfp:List Addr) (f:Fm) (st:List Fm) (g:Addr) (m a0 a1:Int):vs=[.ref r,.int m,.ref g]->RunX (C 9) (C 8) (C 0) H r ka ia sa ks cr fas s kfp->s.st=f::st->s.en=none->(SqL K H g [.int a0,.int a1]\/SqT K H g [.int a0,.int a1])->Wf ks cr (f::st)->zh8 cr f->st.length<100->(∀ H' fas',zaG (zas r ia sa fas) H (zas r ia sa fas') H'->RunX (C 9) (C 8) (C 0) H' r ka ia sa ks cr fas' (zqe cr ks s f st m a0 a1) kfp->Q .non H')->Q67 K C vs H Q E
include B Z in
theorem zkM (Q76:Mth CX0 P w K mg b8 (C 9) "meets" ["self","word","lines","numbers"] 4 (Q75 K C))(Q7a:Fn P w K mg b8 "asked_numbers" ["asked"] 1 (Q79 K))(Q69:Mth CX0 P w K mg b8 (C 9) "begin" ["self","number","given"] 7 (Q68 K C))(F:Fun K "call" "Run.call" zeG f fd)(M:Meth K (C 9) "call" f):Mth CX0 P w K mg b8 (C 9) "call" ["self","number","given"] 8 (Q67 K C):=by
 refine⟨f,fd,M,F.ok (k:=7) zkD (λvs H Q E h=>?_) (λcdv A outer s H vs Q E hr h=>?_),F.binds λ_ _ _ _ _ _ us hl=>(by obtain⟨_,_,_,rfl⟩:=len3 hl;rfl)⟩
 ·first
  | (obtain⟨_,_,_,_,_,_,_,_,_,_,_,_,_,_,_,rfl,_⟩:=h;rfl)
 obtain⟨r,ka,ia,sa,ks,cr,fas,s',kfp,f,st,g,m,a0,a1,rfl,A',hst,hen,hg,wfs,hc,l100,q⟩:=h
 refine⟨_,(zah (zbd (zhS (zfi (hr_u hr) (pv 1) (zax K (pv 0) rfl))) (zah (zbB (pv 0) (zdm (zam zbh zab)) rfl)) (zah (zbd (zaA zqF (zav (zd0 K) rfl B.len L2.boot_len (za5 (zax K (pv 0) rfl) zab)) (za4 rfl B.c_MOST_FRAMES) (zaw _)) (zah (zbB (pv 0) (zdm (zam zbh zab)) rfl)) (zah (zbd (zcJ (zbc Q76 Z.c_Run hr zbi (pv 0) (zam zbh (za5 (zax K (zdZ (hr_u hr) (zax K (pv 0) rfl) (pv 1) (λ_ _=>rfl)) rfl) (zaC (zap Q7a hr rfl (zac (pv 2) zab)) zab))))) (zah (za3 (zbc Q69 Z.c_Run hr zbi (pv 0) (zac (pv 1) (zac (pv 2) zab))))) zaE)))))),?_⟩
 obtain⟨dr,ev,hr',_⟩:=A'.ins
 have fl:=A'.fr.len
 rw[hst,List.length_cons] at fl
 unfold zqe at q
 have sete:∀ (x:List V) T,H T=none->(∀ H' fas',zaG (zas r ia sa fas) H (zas r ia sa fas') H'->RunX (C 9) (C 8) (C 0) H' r ka ia sa ks cr fas' {s' with en:=some x} kfp->Q .non H')->Q .non (upd (upd H T (.tup x)) r (.ins (C 9) dr (rfls ka ia sa s'.k (.ref T)))):=λx T hT q=>by
  have t4:=zad hT (.tup x)
  exact q _ fas ((zaG.same t4).trans (zaG.upd zia)) ((A'.same t4).setR (k':=s'.k) (en':=some x) (t4 _ _ hr') ⟨T,rfl,zaa⟩)
 nofun
 refine⟨r,(C 9),dr,_,_,rfl,hr',Z.c_Run,Z.n_Run_known,zfs,?_⟩
 by_cases hm:m∈ks
 ·rw[if_neg (λz=>z hm)] at q
  obtain⟨kvs,o,g1,e1,e2,e3⟩:=A'.kn.craft hm
  refine⟨ka,some (.ref o),rfl,by rw[<-e2];exact DGet.k (k:=.inl m) e1,?_⟩
  dsimp only[Option.isSome]
  nofun
  refine⟨r,(C 9),dr,_,_,rfl,hr',Z.c_Run,Z.n_Run_stack,zbN,?_⟩
  nofun
  refine zep (.inl (SqL.of A'.sta)) ?_
  nofun
  rw[zlm,List.length_reverse,<-fl]
  by_cases h20:20<=(f::st).length
  ·rw[if_pos h20] at q
   rw[List.length_cons] at h20
   rw[decide_eq_true (show (20:Int)<=((st.length+1:Nat):Int) by omega)]
   nofun
   refine⟨(by walk_at "sm"),λT hT=>?_⟩
   nofun
   refine⟨r,(C 9),dr,_,rfl,zad hT _ _ _ hr',Z.c_Run,Z.n_Run_ending,by show 5<1000;decide,?_⟩
   rw[zda]
   exact sete _ T hT q
  ·rw[if_neg h20] at q
   rw[List.length_cons] at h20
   rw[decide_eq_false (show ¬ (20:Int)<=((st.length+1:Nat):Int) by omega)]
   have rtm:=A'.kn.rt m hm
   obtain⟨dx,y1,y2,b3,b4,dvs,nvs,ho,hL,_⟩:=e3.out (K:=K) rtm.nine.d9
   nofun
   refine⟨r,dr,_,rfl,hr',zcu (by decide +kernel),?_⟩
   nofun
   refine⟨r,(C 9),dr,_,_,rfl,hr',Z.c_Run,Z.n_Run_known,zfs,?_⟩
   nofun
   refine⟨ka,.ref o,rfl,by rw[<-e2];exact DGet.k (k:=.inl m) e1,?_⟩
   nofun
   refine⟨o,(C 0),dx,_,_,rfl,ho,Z.c_Craft,Z.n_Craft_needs,zcC _ _ _ _,?_⟩
   nofun
   refine⟨g,a0,a1,rfl,hg,λna H1 s1 hna=>?_⟩
   nofun
   refine⟨r,ka,ia,sa,ks,cr,fas,s',kfp,"needs",y1,na,_,zeu a0 a1,f,st,rfl,A'.same s1,hst,hen,hL.same s1,SqL.of hna,rfl,rtm.sm.1,λH2 o2 A2=>?_⟩
   have m2:zaG (zas r ia sa fas) H (zas r ia sa fas) H2:=(zaG.same s1).trans (zaG.offR o2 A2)
   cases hb:zaI (cr m).needs (zeu a0 a1) with
   | some i=>
    rw[hb] at q A2
    dsimp only[Option.isNone]
    nofun
    exact q H2 _ m2 A2
   | none=>
    rw[hb] at q A2
    have A2:RunX (C 9) (C 8) (C 0) H2 r ka ia sa ks cr fas s' kfp:=by
     rw[<-Rs.quiet hen];exact A2
    obtain⟨dr2,ev2,hr2,_⟩:=A2.ins
    dsimp only[Option.isNone]
    nofun
    refine⟨r,dr2,_,rfl,hr2,zcu (by decide +kernel),?_⟩
    nofun
    have hg2:SqL K H2 g [.int a0,.int a1]\/SqT K H2 g [.int a0,.int a1]:=by
     refine zf0 (λb o e so=>?_) hg
     refine o2 b o (λz=>?_) (s1 b o e)
     rw[zms.mp z,hr'] at e
     cases e
     cases so
    refine⟨r,ka,ia,sa,ks,cr,fas,s',kfp,g,m,a0,a1,rfl,A2,hg2,hen,⟨λk hk=>?_,λk hk=>?_⟩,by rw[hst,List.length_cons];omega,λH3 fas3 m3 A3=>?_⟩
    ·rcases List.mem_cons.mp hk with rfl | hk
     ·exact⟨hm,by show (0:Int)<=0;omega,by show (0:Int)<=_;omega,rfl,rfl⟩
     ·rw[hst] at hk;exact wfs.1 k hk
    ·rw[List.tail_cons,hst] at hk
     rcases List.mem_cons.mp hk with rfl | hk
     ·exact hc
     ·exact wfs.2 k hk
    ·nofun
     rw[hst] at A3
     exact q H3 fas3 (m2.trans m3) A3
 ·rw[if_pos hm] at q
  obtain⟨kvs,e1,e2⟩:=A'.kn.no hm
  refine⟨ka,none,rfl,by rw[<-e2];exact DGet.k (k:=.inl m) e1,?_⟩
  dsimp only[Option.isSome]
  nofun
  refine⟨(by walk_at "sm"),λT hT=>?_⟩
  nofun
  refine⟨r,(C 9),dr,_,rfl,zad hT _ _ _ hr',Z.c_Run,Z.n_Run_ending,by show 5<1000;decide,?_⟩
  rw[zda]
  exact sete _ T hT q
theorem zlr(h9:l.length=9)(sm:Sm l)(h1:H la=some (.lst (l.map V.int)))(h2:H na=some (.lst (ns.map V.int)))(h3:ns.length=8)(q:∀ H',Same H H'->Q (.int (zdt l ns)) H'):zgB K [.ref la,.ref na] H Q E:=by
 cases l with
 | nil=>simp at h9
 | cons c fs=>
 refine⟨la,na,c,fs,ns,rfl,SqL.of h1,SqL.of h2,by simpa using h9,h3,zno sm,λH' s=>?_⟩
 rw[<-ze2]
 exact q H' s
theorem zoI(h9:l.length=9)(sm:Sm l)(h1:H la=some (.lst (l.map V.int)))(h2:H na=some (.lst (ns.map V.int)))(h3:ns.length=8)(q:∀ H',Same H H'->Q (.bl (decide (0<=zdt l ns))) H'):zgC K [.ref la,.ref na] H Q E:=by
 cases l with
 | nil=>simp at h9
 | cons c fs=>
 refine⟨la,na,c,fs,ns,rfl,SqL.of h1,SqL.of h2,by simpa using h9,h3,zno sm,λH' s=>?_⟩
 rw[<-ze2]
 exact q H' s
inductive Q62 (K:Fg)(C:Nat->Addr)(vs:List V)(H:Hp)(Q:VK)(E:XK):Prop
 | mk (r ka ia sa:Addr) (ks:List Int) (cr:Int->Cr) (fas:List Fa) (s:Rs) (kfp:List Addr):vs=[.ref r]->RunX (C 9) (C 8) (C 0) H r ka ia sa ks cr fas s kfp->WfR ks cr s->s.en=none->s.st.length<=20->(∀ H' fas',zaG (zas r ia sa fas) H (zas r ia sa fas') H'->RunX (C 9) (C 8) (C 0) H' r ka ia sa ks cr fas' (zhx cr ks s) kfp->Q .non H')->Q62 K C vs H Q E
include B Z in
theorem zkN (Q64:Mth CX0 P w K mg b8 (C 9) "put" ["self","hand","number"] 7 (Q63 K C))(Q74:Mth CX0 P w K mg b8 (C 9) "craft_of" ["self","frame"] 1 (Q73 K C))(Q0:Fn P w K mg b8 "worth" ["line","numbers"] 1 (zgB K))(Q5f:Mth CX0 P w K mg b8 (C 8) "numbers" ["self"] 1 (Q5e K C))(G_Run_draw:Mth CX0 P w K mg b8 (C 9) "draw" ["self","hand","low","high"] 8 (Q65 K C))(Q6b:Mth CX0 P w K mg b8 (C 9) "come_to" ["self","place"] 6 (Q6a K C))(G_Run_hold:Mth CX0 P w K mg b8 (C 9) "hold" ["self","line"] 7 (Q66 K C))(G_Run_call:Mth CX0 P w K mg b8 (C 9) "call" ["self","number","given"] 8 (Q67 K C))(Q1:Fn P w K mg b8 "holds" ["line","numbers"] 2 (zgC K))(F:Fun K "step" "Run.step" zeD f fd)(M:Meth K (C 9) "step" f):Mth CX0 P w K mg b8 (C 9) "step" ["self"] 9 (Q62 K C):=by
 refine⟨f,fd,M,F.ok (k:=8) zdb (λvs H Q E h=>?_) (λcdv A outer s H vs Q E hr h=>?_),F.binds λ_ _ _ _ _ _ us hl=>(by obtain⟨_,rfl⟩:=len1 hl;rfl)⟩
 ·first
  | (obtain⟨_,_,_,_,_,_,_,_,_,rfl,_⟩:=h;rfl)
 obtain⟨r,ka,ia,sa,ks,cr,fas,s',kfp,rfl,A',hW,hen,l20,q⟩:=h
 refine⟨_,(zag (zbB (pv 0) (zaW (zaS K) (zax K (pv 0) rfl) zae) rfl)
   (zag (zat (i:=1) zdb.nd rfl (Or.inl rfl) (zau (k_ix K) (zax K (pv 0) rfl) (zde zbP zae) (λ_ _=>rfl)))
   (zag (zat (i:=2) zdb.nd rfl (Or.inl rfl) (zau (k_ix K) (zax K (zbc Q74 Z.c_Run hr zbi (pv 0) (zac (pv 1) zab)) rfl) (zax K (pv 1) rfl) (λ_ _=>rfl)))
   (zag (zat (i:=3) zdb.nd rfl (Or.inl rfl) (zau (k_ix K) (pv 2) zae (λ_ _=>rfl)))
   (zah (zbd (zaA (k_eq K hr) (pv 3) zbh (zaw _)) (zah (za3 (zbc Q64 Z.c_Run hr zbi (pv 0) (zaD (zau (k_ix K) (pv 2) zae (λ_ _=>rfl)) (zaC (zap Q0 hr rfl (zaD (zau (k_ix K) (pv 2) zae (λ_ _=>rfl)) (zaC (zcg Q5f Z.c_Frame hr zbi (pv 1)) zab))) zab))))) (zah (zbd (zaA (k_eq K hr) (pv 3) zbh (zaw _)) (zah (za3 (zbc Q64 Z.c_Run hr zbi (pv 0) (zaD (zau (k_ix K) (pv 2) zae (λ_ _=>rfl)) (zcF (zaW zpj (zap Q0 hr rfl (zaD (zau (k_ix K) (pv 2) zae (λ_ _=>rfl)) (zaC (zcg Q5f Z.c_Frame hr zbi (pv 1)) zab))) (zau (k_ix K) (pv 2) zae (λ_ _=>rfl))) zab))))) (zah (zbd (zaA (k_eq K hr) (pv 3) zbh (zaw _)) (zah (za3 (zbc G_Run_draw Z.c_Run hr zbi (pv 0) (zaD (zau (k_ix K) (pv 2) zae (λ_ _=>rfl)) (zaD (zau (k_ix K) (pv 2) zae (λ_ _=>rfl)) (zaD (zau (k_ix K) (pv 2) zae (λ_ _=>rfl)) zab)))))) (zah (zbd (zaA (k_eq K hr) (pv 3) zbh (zaw _)) (zah (za3 (zbc Q6b Z.c_Run hr zbi (pv 0) (pa_if (zij (zcJ (zap Q1 hr rfl (zaD (zau (k_ix K) (pv 2) zae (λ_ _=>rfl)) (zaC (zcg Q5f Z.c_Frame hr zbi (pv 1)) zab)))) (zau (k_ix K) (pv 2) zae (λ_ _=>rfl)) (zaW (zaS K) (zax K (pv 1) rfl) zae)) zab)))) (zah (zbd (zaA (k_eq K hr) (pv 3) zbh (zaw _)) (zah (za3 (zbc G_Run_hold Z.c_Run hr zbi (pv 0) (zaD (zau (k_ix K) (pv 2) zae (λ_ _=>rfl)) zab)))) (zag (zat (i:=4) zdb.nd rfl (Or.inl rfl) (zau (k_ix K) (pv 2) zae (λ_ _=>rfl)))
   (zah (za3 (zbc G_Run_call Z.c_Run hr zbi (pv 0) (zaD (zau (k_ix K) (pv 2) zae (λ_ _=>rfl)) (zcL (zaO (zaD (zau (k_ix K) (zax K (pv 1) rfl) (zau (k_ix K) (pv 4) zae (λ_ _=>rfl)) (λ_ _=>rfl)) (zaD (zau (k_ix K) (zax K (pv 1) rfl) (zau (k_ix K) (pv 4) zae (λ_ _=>rfl)) (λ_ _=>rfl)) zab))) zab)))))))))))))))))))),?_⟩
 obtain⟨f,st,hst,hp⟩:=hW.on hen
 have wfs:=hW.w
 rw[hst] at wfs l20
 rw[List.length_cons] at l20
 have wf:=wfs.1 f List.mem_cons_self
 have rt:=A'.kn.rt f.n wf.m
 obtain⟨dr,ev,hr',hev⟩:=A'.ins
 have fr:=A'.fr
 rw[hst] at fr
 cases fas with
 | nil=>exact fr.elim
 | cons t fas=>
 obtain⟨p,ha,aa⟩:=t
 obtain⟨⟨dp,f1⟩,f2,f3,f4⟩:=fr
 have hp0:=wf.p0
 have hlt:f.p.toNat<(cr f.n).deeds.length:=by omega
 have hd:zfr (cr f.n) f.p=some (cr f.n).deeds[f.p.toNat]:=List.getElem?_eq_getElem hlt
 have hok:=rt.parts.2.2.2.2.2 _ (List.getElem_mem hlt)
 have h9:=rt.nine.d9 _ (List.getElem_mem hlt)
 rw[zov hst hd] at q
 nofun
 walk_at "q"
 nofun
 refine⟨r,(C 9),dr,_,_,rfl,hr',Z.c_Run,Z.n_Run_steps_done,zor,?_⟩
 nofun
 refine⟨r,(C 9),dr,_,rfl,hr',Z.c_Run,Z.n_Run_steps_done,by show 5<1000;decide,?_⟩
 rw[zos]
 have A1:=A'.setR (k':=s'.k+1) (en':=s'.en) hr' hev
 have m1:zaG (zas r ia sa ((p,ha,aa)::fas)) H (zas r ia sa ((p,ha,aa)::fas)) (upd H r (.ins (C 9) dr (rfls ka ia sa (s'.k+1) ev))):=zaG.upd zia
 generalize upd H r (.ins (C 9) dr (rfls ka ia sa (s'.k+1) ev))=H1 at *
 have hst1:({s' with k:=s'.k+1,en:=s'.en} : Rs).st=f::st:=hst
 have hen1:({s' with k:=s'.k+1,en:=s'.en} : Rs).en=none:=hen
 have q:=λH' fas' m A=>q H' fas' (m1.trans m) A
 generalize ({s' with k:=s'.k+1,en:=s'.en} : Rs)=s1 at *
 clear f1 f2 f3 f4 hr' hev
 obtain⟨dr,ev,hr',hev⟩:=A1.ins
 have fr:=A1.fr
 rw[hst1] at fr
 obtain⟨⟨dp,f1⟩,f2,f3,f4⟩:=fr
 nofun
 walk_at "q"
 nofun
 refine⟨r,(C 9),dr,_,_,rfl,hr',Z.c_Run,Z.n_Run_stack,zbN,?_⟩
 nofun
 refine zcf (SqL.of A1.sta) (v:=.ref p) zft ?_
 nofun
 walk_at "q"
 nofun
 refine⟨r,dr,_,rfl,hr',zcu (by decide +kernel),?_⟩
 nofun
 refine⟨r,ka,ia,sa,ks,cr,(p,ha,aa)::fas,s1,kfp,p,dp,ha,aa,f,rfl,A1,f1,wf.m,λo gg hC=>?_⟩
 obtain⟨dx,y1,y2,b3,b4,dvs,nvs,ho,_,_,h3,hD,_⟩:=hC.out (K:=K) rt.nine.d9
 have ld:=hD.1
 have hx:=List.getElem?_eq_getElem (l:=dvs) (i:=f.p.toNat) (by omega)
 have hdr:=hD.2 _ _ _ hd hx
 have hat:=hd
 generalize (cr f.n).deeds[f.p.toNat]=d at *
 generalize dvs[f.p.toNat]=x at *
 nofun
 refine⟨o,(C 0),dx,_,_,rfl,ho,Z.c_Craft,Z.n_Craft_deeds,zbM _ _ _ _,?_⟩
 nofun
 refine⟨p,(C 8),dp,_,_,rfl,f1,Z.c_Frame,Z.n_Frame_place,zcX _ _ _ _,?_⟩
 nofun
 refine zcf (SqL.of h3) (v:=x) (zlc hp0 hx) ?_
 cases d with
 | set hh l=>
  obtain⟨T,ys,rfl,hT,px⟩:=zbl hdr
  obtain⟨x0,ys,rfl,e0,px⟩:=zak px
  obtain⟨x1,ys,rfl,e1,px⟩:=zak px
  obtain⟨x2,ys,rfl,e2,px⟩:=zak px
  cases zbG px
  cases zbL e0
  cases zbq e1
  obtain⟨la,rfl,hla⟩:=zcG e2
  simp only[zbF,zcj,btw,Bool.and_eq_true,decide_eq_true_eq] at hok
  nofun
  walk_at "q"
  nofun
  refine zaJ (SqT.of hT) (v:=.str "set") zbu ?_
  nofun
  rw[decide_eq_true rfl]
  nofun
  refine⟨r,dr,_,rfl,hr',zcu (by decide +kernel),?_⟩
  nofun
  refine zaJ (SqT.of hT) (v:=.int hh) (zaB (j:=1) rfl) ?_
  nofun
  refine zaJ (SqT.of hT) (v:=.ref la) (zaB (j:=2) rfl) ?_
  nofun
  refine⟨p,dp,_,rfl,f1,zlT (by decide +kernel),?_⟩
  nofun
  refine⟨p,dp,ha,aa,f,rfl,f1,f2,f3,wf.h4,wf.a2,λna H2 s2 hna=>?_⟩
  nofun
  refine zlr (H:=H2) h9 (zjz hok.2) (s2 _ _ hla) hna (zdP wf) λH3 s3=>?_
  have s23:=s2.trans s3
  nofun
  refine⟨r,ka,ia,sa,ks,cr,(p,ha,aa)::fas,s1,kfp,f,st,hh,_,rfl,A1.same s23,hst1,hen1,hok.1,wfs,hp,λH4 fas4 m4 A4=>?_⟩
  nofun
  exact q H4 fas4 ((zaG.same s23).trans m4) A4
 | part hh l b=>
  obtain⟨T,ys,rfl,hT,px⟩:=zbl hdr
  obtain⟨x0,ys,rfl,e0,px⟩:=zak px
  obtain⟨x1,ys,rfl,e1,px⟩:=zak px
  obtain⟨x2,ys,rfl,e2,px⟩:=zak px
  obtain⟨x3,ys,rfl,e3,px⟩:=zak px
  cases zbG px
  cases zbL e0
  cases zbq e1
  cases zbq e3
  obtain⟨la,rfl,hla⟩:=zcG e2
  simp only[zbF,zcj,btw,Bool.and_eq_true,decide_eq_true_eq] at hok
  obtain⟨hok1,hok2,hok3⟩:=hok
  nofun
  walk_at "q"
  nofun
  refine zaJ (SqT.of hT) (v:=.str "part") zbu ?_
  nofun
  rw[zqf]
  nofun
  rw[decide_eq_true rfl]
  nofun
  refine⟨r,dr,_,rfl,hr',zcu (by decide +kernel),?_⟩
  nofun
  refine zaJ (SqT.of hT) (v:=.int hh) (zaB (j:=1) rfl) ?_
  nofun
  refine zaJ (SqT.of hT) (v:=.ref la) (zaB (j:=2) rfl) ?_
  nofun
  refine⟨p,dp,_,rfl,f1,zlT (by decide +kernel),?_⟩
  nofun
  refine⟨p,dp,ha,aa,f,rfl,f1,f2,f3,wf.h4,wf.a2,λna H2 s2 hna=>?_⟩
  nofun
  refine zlr (H:=H2) h9 (zjz hok2) (s2 _ _ hla) hna (zdP wf) λH3 s3=>?_
  have s23:=s2.trans s3
  nofun
  refine zaJ (SqT.of (s23 _ _ hT)) (v:=.int b) (zaB (j:=3) rfl) ?_
  nofun
  refine⟨r,ka,ia,sa,ks,cr,(p,ha,aa)::fas,s1,kfp,f,st,hh,_,rfl,A1.same s23,hst1,hen1,hok1,wfs,hp,λH4 fas4 m4 A4=>?_⟩
  nofun
  exact q H4 fas4 ((zaG.same s23).trans m4) A4
 | draw hh lo hi=>
  obtain⟨T,ys,rfl,hT,px⟩:=zbl hdr
  obtain⟨x0,ys,rfl,e0,px⟩:=zak px
  obtain⟨x1,ys,rfl,e1,px⟩:=zak px
  obtain⟨x2,ys,rfl,e2,px⟩:=zak px
  obtain⟨x3,ys,rfl,e3,px⟩:=zak px
  cases zbG px
  cases zbL e0
  cases zbq e1
  cases zbq e2
  cases zbq e3
  simp only[zbF,zcj,btw,Bool.and_eq_true,decide_eq_true_eq] at hok
  nofun
  walk_at "q"
  nofun
  refine zaJ (SqT.of hT) (v:=.str "draw") zbu ?_
  nofun
  rw[zns.1]
  nofun
  rw[zns.2]
  nofun
  rw[decide_eq_true rfl]
  nofun
  refine⟨r,dr,_,rfl,hr',zcu (by decide +kernel),?_⟩
  nofun
  refine zaJ (SqT.of hT) (v:=.int hh) (zaB (j:=1) rfl) ?_
  nofun
  refine zaJ (SqT.of hT) (v:=.int lo) (zaB (j:=2) rfl) ?_
  nofun
  refine zaJ (SqT.of hT) (v:=.int hi) (zaB (j:=3) rfl) ?_
  nofun
  refine⟨r,ka,ia,sa,ks,cr,(p,ha,aa)::fas,s1,kfp,f,st,hh,lo,hi,rfl,A1,hst1,hen1,hok.1,wfs,hp,λH4 fas4 m4 A4=>?_⟩
  nofun
  exact q H4 fas4 m4 A4
 | turn l j=>
  obtain⟨T,ys,rfl,hT,px⟩:=zbl hdr
  obtain⟨x0,ys,rfl,e0,px⟩:=zak px
  obtain⟨x1,ys,rfl,e1,px⟩:=zak px
  obtain⟨x2,ys,rfl,e2,px⟩:=zak px
  cases zbG px
  cases zbL e0
  cases zbq e2
  obtain⟨la,rfl,hla⟩:=zcG e1
  simp only[zbF,btw,Bool.and_eq_true,decide_eq_true_eq] at hok
  nofun
  walk_at "q"
  nofun
  refine zaJ (SqT.of hT) (v:=.str "turn") zbu ?_
  nofun
  rw[zkz.1]
  nofun
  rw[zkz.2.1]
  nofun
  rw[zkz.2.2]
  nofun
  rw[decide_eq_true rfl]
  nofun
  refine⟨r,dr,_,rfl,hr',zcu (by decide +kernel),?_⟩
  nofun
  refine zaJ (SqT.of hT) (v:=.ref la) (zaB (j:=1) rfl) ?_
  nofun
  refine⟨p,dp,_,rfl,f1,zlT (by decide +kernel),?_⟩
  nofun
  refine⟨p,dp,ha,aa,f,rfl,f1,f2,f3,wf.h4,wf.a2,λna H2 s2 hna=>?_⟩
  nofun
  refine zoI (H:=H2) h9 (zjz hok.1) (s2 _ _ hla) hna (zdP wf) λH3 s3=>?_
  have s23:=s2.trans s3
  have wj:∀ k,0<=k->k<=((cr f.n).deeds.length:Int)->Wf ks cr ({f with p:=k}::st):=λk z1 z2=>wfs.top ⟨wf.m,z1,z2,wf.h4,wf.a2⟩
  unfold zfO at q
  by_cases hb:0<=zdt l (zcW f)
  ·rw[decide_eq_true hb]
   simp only[if_pos hb] at q
   nofun
   refine zaJ (SqT.of (s23 _ _ hT)) (v:=.int j) (zaB (j:=2) rfl) ?_
   nofun
   refine⟨r,ka,ia,sa,ks,cr,(p,ha,aa)::fas,s1,kfp,f,st,j,rfl,A1.same s23,hst1,hen1,wj j hok.2.1 hok.2.2,λH4 fas4 m4 A4=>?_⟩
   nofun
   exact q H4 fas4 ((zaG.same s23).trans m4) A4
  ·rw[decide_eq_false hb]
   simp only[if_neg hb] at q
   nofun
   refine⟨p,(C 8),dp,_,_,rfl,s23 _ _ f1,Z.c_Frame,Z.n_Frame_place,zcX _ _ _ _,?_⟩
   nofun
   refine⟨r,ka,ia,sa,ks,cr,(p,ha,aa)::fas,s1,kfp,f,st,f.p+1,rfl,A1.same s23,hst1,hen1,wj (f.p+1) (by omega) (by omega),λH4 fas4 m4 A4=>?_⟩
   nofun
   exact q H4 fas4 ((zaG.same s23).trans m4) A4
 | hold l=>
  obtain⟨T,ys,rfl,hT,px⟩:=zbl hdr
  obtain⟨x0,ys,rfl,e0,px⟩:=zak px
  obtain⟨x1,ys,rfl,e1,px⟩:=zak px
  cases zbG px
  cases zbL e0
  obtain⟨la,rfl,hla⟩:=zcG e1
  simp only[zbF] at hok
  nofun
  walk_at "q"
  nofun
  refine zaJ (SqT.of hT) (v:=.str "hold") zbu ?_
  nofun
  rw[ziD.1]
  nofun
  rw[ziD.2.1]
  nofun
  rw[ziD.2.2.1]
  nofun
  rw[ziD.2.2.2]
  nofun
  rw[decide_eq_true rfl]
  nofun
  refine⟨r,dr,_,rfl,hr',zcu (by decide +kernel),?_⟩
  nofun
  refine zaJ (SqT.of hT) (v:=.ref la) (zaB (j:=1) rfl) ?_
  nofun
  refine⟨r,ka,ia,sa,ks,cr,(p,ha,aa)::fas,s1,kfp,f,st,la,l,rfl,A1,hst1,hen1,hla,h9,zjz hok,wfs,hp,λH4 fas4 m4 A4=>?_⟩
  nofun
  exact q H4 fas4 m4 A4
 | call m g0 g1 t0 t1=>
  obtain⟨T,ys,rfl,hT,px⟩:=zbl hdr
  obtain⟨x0,ys,rfl,e0,px⟩:=zak px
  obtain⟨x1,ys,rfl,e1,px⟩:=zak px
  obtain⟨x2,ys,rfl,e2,px⟩:=zak px
  obtain⟨x3,ys,rfl,e3,px⟩:=zak px
  cases zbL e0
  cases zbq e1
  obtain⟨gv,rfl,hgv⟩:=zfp e2
  obtain⟨b0,b1,_⟩:=zh9 hok
  have e4:=wf.h4
  rw[zlU] at q
  nofun
  walk_at "q"
  nofun
  refine zaJ (SqT.of hT) (v:=.str "call") zbu ?_
  nofun
  rw[zhb.1]
  nofun
  rw[zhb.2.1]
  nofun
  rw[zhb.2.2.1]
  nofun
  rw[zhb.2.2.2.1]
  nofun
  rw[zhb.2.2.2.2]
  nofun
  walk_at "q"
  nofun
  refine zaJ (SqT.of hT) (v:=.ref gv) (zaB (j:=2) rfl) ?_
  nofun
  refine⟨r,dr,_,rfl,hr',zcu (by decide +kernel),?_⟩
  nofun
  refine zaJ (SqT.of hT) (v:=.int m) (zaB (j:=1) rfl) ?_
  nofun
  refine⟨p,(C 8),dp,_,_,rfl,f1,Z.c_Frame,Z.n_Frame_hands,zcl _ _ _ _,?_⟩
  nofun
  refine zaJ (SqT.of hgv) (v:=.int g0) zbu ?_
  nofun
  refine zcf (SqL.of f2) (zfP b0.1 (by omega)) ?_
  nofun
  refine⟨p,(C 8),dp,_,_,rfl,f1,Z.c_Frame,Z.n_Frame_hands,zcl _ _ _ _,?_⟩
  nofun
  refine zaJ (SqT.of hgv) (v:=.int g1) (zaB (j:=1) rfl) ?_
  nofun
  refine zcf (SqL.of f2) (zfP b1.1 (by omega)) ?_
  nofun
  refine⟨(by walk_at "sm"),λg hg=>?_⟩
  have t2:=zad hg (.lst [V.int (f.hands.getD g0.toNat 0),.int (f.hands.getD g1.toNat 0)])
  nofun
  refine⟨r,ka,ia,sa,ks,cr,(p,ha,aa)::fas,s1,kfp,f,st,g,m,_,_,rfl,A1.same t2,hst1,hen1,.inl (SqL.of zaa),wfs,⟨m,g0,g1,t0,t1,hat⟩,by omega,λH4 fas4 m4 A4=>?_⟩
  nofun
  exact q H4 fas4 ((zaG.same t2).trans m4) A4
inductive Q61 (K:Fg)(C:Nat->Addr)(vs:List V)(H:Hp)(Q:VK)(E:XK):Prop
 | mk (r ka ia sa:Addr) (ks:List Int) (cr:Int->Cr) (fas:List Fa) (s:Rs) (kfp:List Addr) (fuel:Int):vs=[.ref r,.int fuel]->RunX (C 9) (C 8) (C 0) H r ka ia sa ks cr fas s kfp->WfR ks cr s->s.st.length<=20->(∀ v H' fas',zaG (zas r ia sa fas) H (zas r ia sa fas') H'->RunX (C 9) (C 8) (C 0) H' r ka ia sa ks cr fas' (goR cr ks fuel.toNat s) kfp->zrY H' (goR cr ks fuel.toNat s).en v->WfR ks cr (goR cr ks fuel.toNat s)->(goR cr ks fuel.toNat s).st.length<=20->Q v H')->Q61 K C vs H Q E
include B Z in
theorem znF (G_Run_step:Mth CX0 P w K mg b8 (C 9) "step" ["self"] 9 (Q62 K C))(F:Fun K "go" "Run.go" zgn f fd)(M:Meth K (C 9) "go" f):Mth CX0 P w K mg b8 (C 9) "go" ["self","fuel"] 10 (Q61 K C):=by
 refine⟨f,fd,M,F.ok (k:=9) zjL (λvs H Q E h=>?_) (λcdv A outer s H vs Q E hr h=>?_),F.binds λ_ _ _ _ _ _ us hl=>(by obtain⟨_,_,rfl⟩:=len2 hl;rfl)⟩
 ·first
  | (obtain⟨_,_,_,_,_,_,_,_,_,_,rfl,_⟩:=h;rfl)
 obtain⟨r,ka,ia,sa,ks,cr,fas,s',kfp,fuel,rfl,A',hW,l20,q⟩:=h
 refine⟨_,(zag (zkS PassesOwn.never (PW.pt (zl5 (zaA zpk (pv 1) zae (zaw _)) (zj2 (zaA zgE (zax K (pv 0) rfl) zdl (zaw _))))) (zag (za3 (zcg G_Run_step Z.c_Run hr zbi (pv 0)))
   (zah (zat (i:=1) zjL.nd rfl (Or.inl rfl) (zaW zkT (pv 1) zae)))))
   (zag (zbd (zaA zgE (zax K (pv 0) rfl) zdl (zaw _)) (zah (zaq (zdm (zam zbh zab)))) zaE)
   (zah (zaq (zax K (pv 0) rfl))))),?_⟩
 with_reducible refine zh3 (λσ H2=>∃ fu fas2,A5 (σ=[some (.ref r),some (.int fu)]) (WfR ks cr (goR cr ks fuel.toNat s')) ((goR cr ks fuel.toNat s').st.length<=20) (zaG (zas r ia sa fas) H (zas r ia sa fas2) H2) (RunX (C 9) (C 8) (C 0) H2 r ka ia sa ks cr fas2 (goR cr ks fuel.toNat s') kfp)) (λNX tail=>?_) ?_
 ·refine⟨(λm σ H2=>E3 λfu fas2 s2=>A7 (σ=[some (.ref r),some (.int fu)]) (m=fu.toNat) (goR cr ks fu.toNat s2=goR cr ks fuel.toNat s') (WfR ks cr s2) (s2.st.length<=20) (zaG (zas r ia sa fas) H (zas r ia sa fas2) H2) (RunX (C 9) (C 8) (C 0) H2 r ka ia sa ks cr fas2 s2 kfp)),⟨_,fuel,fas,s',rfl,rfl,rfl,hW,l20,zaG.refl,A'⟩,?_⟩
  rintro m σ H2 ⟨fu,fas2,s2,rfl,rfl,eg,w2,l2,m2,A2⟩
  obtain⟨dr2,ev2,hr2,en2⟩:=A2.ins
  have en2:=en2.none_iff
  nofun
  by_cases hf:0<fu
  ·rw[decide_eq_true hf]
   nofun
   refine⟨r,(C 9),dr2,_,_,rfl,hr2,Z.c_Run,Z.n_Run_ending,zev,?_⟩
   nofun
   refine⟨rfl,?_⟩
   rw[en2]
   nofun
   have e1:fu.toNat=(fu - 1).toNat+1:=by omega
   cases he:s2.en with
   | some x=>
    dsimp only[Option.isNone]
    nofun
    rw[zp4 (by rw[he];intro z;cases z)] at eg
    subst eg
    exact tail _ _ ⟨fu,fas2,rfl,w2,l2,m2,A2⟩
   | none=>
    dsimp only[Option.isNone]
    nofun
    refine⟨(λσ H3=>∃ fas3 s3,A6 (σ=[some (.ref r),some (.int (fu - 1))]) (goR cr ks (fu - 1).toNat s3=goR cr ks fuel.toNat s') (WfR ks cr s3) (s3.st.length<=20) (zaG (zas r ia sa fas) H (zas r ia sa fas3) H3) (RunX (C 9) (C 8) (C 0) H3 r ka ia sa ks cr fas3 s3 kfp)),λσ' H' ⟨fas3,s3,z1,z2,z3,z4,z5,z6⟩=>⟨(fu - 1).toNat,by omega,fu - 1,fas3,s3,z1,rfl,z2,z3,z4,z5,z6⟩,?_⟩
    nofun
    walk_at "q"
    nofun
    refine⟨r,dr2,_,rfl,hr2,zcu (by decide +kernel),?_⟩
    nofun
    refine⟨r,ka,ia,sa,ks,cr,fas2,s2,kfp,rfl,A2,w2,he,l2,λH3 fas3 m3 A3=>?_⟩
    nofun
    rw[e1] at eg
    have e2:goR cr ks ((fu - 1).toNat+1) s2=goR cr ks (fu - 1).toNat (zhx cr ks s2):=by
     show (if s2.en=none then _ else _)=_
     rw[if_pos he]
    rw[e2] at eg
    exact⟨fas3,_,rfl,eg,zop A2.kn.rt w2 he,znr l2,m2.trans m3,A3⟩
  ·rw[decide_eq_false hf]
   nofun
   have e0:fu.toNat=0:=by omega
   rw[e0] at eg
   have eg:s2=goR cr ks fuel.toNat s':=eg
   subst eg
   exact tail _ _ ⟨fu,fas2,rfl,w2,l2,m2,A2⟩
 ·rintro σ H2 ⟨fu,fas2,rfl,w2,l2,m2,A2⟩
  obtain⟨dr2,ev2,hr2,en2⟩:=A2.ins
  have en2':=en2.none_iff
  have q:=λv H' m A t=>q v H' fas2 m A t w2 l2
  generalize goR cr ks fuel.toNat s'=s2 at *
  nofun
  walk_at "q"
  nofun
  refine⟨r,(C 9),dr2,_,_,rfl,hr2,Z.c_Run,Z.n_Run_ending,zev,?_⟩
  nofun
  refine⟨rfl,?_⟩
  rw[en2']
  nofun
  cases he:s2.en with
  | some x=>
   dsimp only[Option.isNone]
   rw[he] at en2 q
   obtain⟨T,rfl,hT⟩:=en2
   nofun
   refine⟨r,(C 9),dr2,_,_,rfl,hr2,Z.c_Run,Z.n_Run_ending,zev,?_⟩
   exact q _ H2 m2 A2 ⟨T,rfl,hT⟩
  | none=>
   dsimp only[Option.isNone]
   rw[he] at q
   nofun
   refine⟨(by walk_at "sm"),λT hT=>?_⟩
   have t3:=zad hT (.tup [V.str "cut"])
   exact q _ _ (m2.trans (zaG.same t3)) (A2.same t3) ⟨T,rfl,zaa⟩
inductive Q7b (K:Fg)(vs:List V)(H:Hp)(Q:VK)(E:XK):Prop
 | mk (a:Addr) (k:Int) (ns:List Int):vs=[.ref a,.int k]->SqL K H a (ns.map V.int)->0<=k->Q (.int (cell ns k)) H->Q7b K vs H Q E
theorem zjY{k:Int}(h:SqL K H a (ns.map V.int))(hk:0<=k)(q:Q (.int (cell ns k)) H):Q7b K [.ref a,.int k] H Q E:=⟨a,k,ns,rfl,h,hk,q⟩
include B Z in
theorem zjZ (F:Fun K "_law_cell_at" "_law_cell_at" zdX f fd)(m:mg "_law_cell_at"=some (.ref f)):Fn P w K mg b8 "_law_cell_at" ["script","k"] 1 (Q7b K):=by
 refine Fn.of (k:=0) F zjN m (λ_ _ _ _ _ _ us hl=>(by obtain⟨_,_,rfl⟩:=len2 hl;rfl)) (λvs H Q E h=>?_) (λcdv A outer s H vs Q E hr h=>?_)
 ·first
  | (obtain⟨_,_,_,rfl,_⟩:=h;rfl)
 obtain⟨a,k,ns,rfl,hS,hk,q⟩:=h
 refine⟨_,(zag (zbd (zaA zmi (pv 1) (zav (zd0 K) rfl B.len L2.boot_len (zac (pv 0) zab)) (zaw _)) (zah (zaq (zau (k_ix K) (pv 0) (pv 1) (λ_ _=>rfl)))) zaE)
   (zah (zaq zae))),?_⟩
 ac_rfl
 refine zep (.inl hS) ?_
 ac_rfl
 rw[zlm]
 unfold cell at q
 refine ite2 (λe=>?_) (λe=>?_)
 ·have e':k<(ns.length:Int):=of_decide_eq_true e
  ac_rfl
  have hl:k.toNat<ns.length:=by omega
  refine zcf hS (v:=.int (ns.getD k.toNat 0)) ?_ q
  have z:atI (ns.map V.int) ((k.toNat:Nat):Int)=some (.int (ns.getD k.toNat 0)):=zaB (by simp[hl])
  rwa [show ((k.toNat:Nat):Int)=k by omega] at z
 ·have e':¬ k<(ns.length:Int):=of_decide_eq_false (Bool.eq_false_iff.mpr e)
  ac_rfl
  have hl:ns.getD k.toNat 0=0:=by simp[List.getD,List.getElem?_eq_none (show ns.length<=k.toNat by omega)]
  rw[hl] at q
  exact q
def zeO (K:Fg)(C:Nat->Addr):Value->Addr->Sp:=λc a vs H Q _=>∃ (D:Addr) (j:Nat),vs=[.ref a]/\c=.ref D/\[(C 2),(C 3),(C 5),(C 6),(C 4)][j]?=some D/\∀ H',Same H H'->Q (.int j) H'
include B Z in
theorem zlZ (F:Fun K "_law_which" "_law_which" zff f fd)(m:mg "_law_which"=some (.ref f)):FnH P w K mg b8 "_law_which" ["e"] 1 (zeO K C):=by
 refine FnH.of (k:=0) F zfU m (λ_ _ _ _ _ _ us hl=>(by obtain⟨_,rfl⟩:=len1 hl;rfl)) (λc a vs H Q E h=>?_) (λcdv A outer s H vs Q E x0 o0 hr hd hn h=>?_)
 ·first
  | (obtain⟨rfl,_⟩:=h;rfl)
  | (obtain⟨_,rfl,_⟩:=h;rfl)
  | (obtain⟨_,_,rfl,_⟩:=h;rfl)
  | (obtain⟨_,_,_,rfl,_⟩:=h;rfl)
  | (obtain⟨_,_,_,_,rfl,_⟩:=h;rfl)
  | (obtain⟨_,_,_,_,_,rfl,_⟩:=h;rfl)
  | (obtain⟨_,_,_,_,_,_,rfl,_⟩:=h;rfl)
  | (obtain⟨_,_,_,_,_,_,_,rfl,_⟩:=h;rfl)
  | (obtain⟨_,_,_,_,_,_,_,_,rfl,_⟩:=h;rfl)
  | (obtain⟨_,_,_,_,_,_,_,_,_,rfl,_⟩:=h;rfl)
  | (obtain⟨_,_,_,_,_,_,_,_,_,_,rfl,_⟩:=h;rfl)
  | (obtain⟨_,_,_,_,_,_,_,_,_,_,_,rfl,_⟩:=h;rfl)
  | (obtain⟨_,_,_,_,_,_,_,_,_,_,_,_,rfl,_⟩:=h;rfl)
  | (obtain⟨_,_,_,_,_,_,_,_,_,_,_,_,_,rfl,_⟩:=h;rfl)
  | (obtain⟨_,_,_,_,_,_,_,_,_,_,_,_,_,_,rfl,_⟩:=h;rfl)
  | (obtain⟨_,_,_,_,_,_,_,_,_,_,_,_,_,_,_,rfl,_⟩:=h;rfl)
  | (obtain⟨_,_,_,_,_,_,_,_,_,_,_,_,_,_,_,_,rfl,_⟩:=h;rfl)
 obtain⟨D,j,rfl,hc,hj,q⟩:=h
 have key:∃ anc b0 b1 b2 b3 b4,Err K D anc/\ErrIs2 K D/\anc.contains (.type "ValueError")=true/\(Value.ref D::anc).contains (.ref (C 2))=b0/\(Value.ref D::anc).contains (.ref (C 3))=b1/\(Value.ref D::anc).contains (.ref (C 5))=b2/\(Value.ref D::anc).contains (.ref (C 6))=b3/\(Value.ref D::anc).contains (.ref (C 4))=b4/\[b0,b1,b2,b3,b4]=(List.range 5).map (· == j)/\j<5:=by
  have nd:=Z.nd
  have n2:[(C 6),(C 5),(C 4),(C 3),(C 2),(C 1)].Nodup:=List.pairwise_reverse.mpr (nd.imp λh=>h.symm)
  simp only[List.nodup_cons,List.mem_cons,List.not_mem_nil,or_false,not_or,not_false_eq_true,List.nodup_nil,and_true] at nd n2
  match j,hj with
  | 0,hj=>cases hj;exact⟨_,_,_,_,_,_,Z.e_BadSheet,Z.i_BadSheet,by simp[zaR],rfl,rfl,rfl,rfl,rfl,by simp[zaR,nd,n2,List.range,List.range.loop],by omega⟩
  | 1,hj=>cases hj;exact⟨_,_,_,_,_,_,Z.e_NoCraft,Z.i_NoCraft,by simp[zaR],rfl,rfl,rfl,rfl,rfl,by simp[zaR,nd,n2,List.range,List.range.loop],by omega⟩
  | 2,hj=>cases hj;exact⟨_,_,_,_,_,_,Z.e_NotShown,Z.i_NotShown,by simp[zaR],rfl,rfl,rfl,rfl,rfl,by simp[zaR,nd,n2,List.range,List.range.loop],by omega⟩
  | 3,hj=>cases hj;exact⟨_,_,_,_,_,_,Z.e_Unfit,Z.i_Unfit,by simp[zaR],rfl,rfl,rfl,rfl,rfl,by simp[zaR,nd,n2,List.range,List.range.loop],by omega⟩
  | 4,hj=>cases hj;exact⟨_,_,_,_,_,_,Z.e_Unmet,Z.i_Unmet,by simp[zaR],rfl,rfl,rfl,rfl,rfl,by simp[zaR,nd,n2,List.range,List.range.loop],by omega⟩
  | j+5,hj=>simp at hj
 obtain⟨anc,b0,b1,b2,b3,b4,eD,iD,hv,h0,h1,h2,h3,h4,hb,j5⟩:=key
 refine⟨_,(zag (zat (i:=1) zfU.nd rfl (Or.inl rfl) (zaO (zaC (zav (zjr hd hn) rfl B.isinstance L2.zbk (zac (pv 0) (zac (zb2 rfl Z.m_BadSheet) zab))) (zaC (zav (zjr hd hn) rfl B.isinstance L2.zbk (zac (pv 0) (zac (zb2 rfl Z.m_NoCraft) zab))) (zaC (zav (zjr hd hn) rfl B.isinstance L2.zbk (zac (pv 0) (zac (zb2 rfl Z.m_NotShown) zab))) zab)))))
   (zag (zat (i:=1) zfU.nd rfl (Or.inl rfl) (zaW (zaS K) (pv 1) (zaO (zaC (zav (zjr hd hn) rfl B.isinstance L2.zbk (zac (pv 0) (zac (zb2 rfl Z.m_Unfit) zab))) (zaC (zav (zjr hd hn) rfl B.isinstance L2.zbk (zac (pv 0) (zac (zb2 rfl Z.m_Unmet) zab))) zab)))))
   (zag (zbd (PW.pt (zj3 (zgD (zcJ (zav (zrO hd hn) rfl B.isinstance L2.zbk (zac (pv 0) (zac (zl4 (v:=.ty "ValueError") rfl B.ValueError L2.zgY rfl) zab))))) (zkQ (zaA zqE (zmy PySem.F.plainAttrs_list PySem.F.slot_list_count PySem.F.type_list_count zm7 (pv 1) (zam zf9 zab)) zae (zaw _))))) (zah (zaq (zde zbP zae))) zaE)
   (zah (zaq (zmy PySem.F.plainAttrs_list PySem.F.slot_list_index PySem.F.type_list_index zm8 (pv 1) (zam zf9 zab))))))),?_⟩
 walk_at "q"
 nofun
 refine⟨D,(C 2),anc,_,rfl,hc,eD,iD,Z.e_BadSheet,?_⟩
 rw[h0]
 nofun
 refine⟨D,(C 3),anc,_,rfl,hc,eD,iD,Z.e_NoCraft,?_⟩
 rw[h1]
 nofun
 refine⟨D,(C 5),anc,_,rfl,hc,eD,iD,Z.e_NotShown,?_⟩
 rw[h2]
 nofun
 refine⟨(by walk_at "sm"),λp hp=>?_⟩
 have s1:=zad hp (.lst [V.bl b0,.bl b1,.bl b2])
 nofun
 walk_at "q"
 nofun
 refine⟨D,(C 6),anc,_,rfl,hc,eD,iD,Z.e_Unfit,?_⟩
 rw[h3]
 nofun
 refine⟨D,(C 4),anc,_,rfl,hc,eD,iD,Z.e_Unmet,?_⟩
 rw[h4]
 nofun
 refine⟨(by walk_at "sm"),λp2 hp2=>?_⟩
 have s2:=zad hp2 (.lst [V.bl b3,.bl b4])
 nofun
 refine zbr (s2 _ _ zaa) zaa (by walk_at "sm") λp3 hp3=>?_
 have s3:=zad hp3 (.lst [V.bl b0,.bl b1,.bl b2,.bl b3,.bl b4])
 have e3:∀ m,[b0,b1,b2,b3,b4][m]?=if m<5 then some (m == j) else none:=by
  intro m
  rw[hb,zgm]
  split
  ·rename_i z;rw[List.getElem?_range z];rfl
  ·rename_i z;rw[List.getElem?_eq_none (by simpa using z)];rfl
 have ec:[b0,b1,b2,b3,b4].countP id=1:=by
  rw[hb]
  rcases (show j=0\/j=1\/j=2\/j=3\/j=4 by omega) with rfl | rfl | rfl | rfl | rfl <;> rfl
 nofun
 walk_at "q"
 nofun
 refine⟨D,anc,_,rfl,by decide +kernel,hc,eD,iD,?_⟩
 rw[hv]
 refine⟨true,rfl,?_⟩
 rw[if_neg (by simp)]
 nofun
 refine⟨tyL zaa,?_⟩
 nofun
 refine⟨p3,[b0,b1,b2,b3,b4],rfl,rfl,zaa,?_⟩
 rw[ec]
 nofun
 refine⟨rfl,?_⟩
 refine⟨false,rfl,?_⟩
 nofun
 refine⟨tyL zaa,?_⟩
 nofun
 refine⟨p3,[b0,b1,b2,b3,b4],j,rfl,rfl,zaa,?_,λm hm=>?_,by omega,q _ (s1.trans (s2.trans s3))⟩
 ·rw[e3,if_pos j5];simp
 ·rw[e3,if_pos (by omega)];simp;omega
def wayN (w:Int):Int:=if w=0 then 0 else if w=1 then 1 else if w=2 then 2 else if w=3 then 3 else 4
def zcI (least:Int):Cr:=⟨[[-least,0,0,0,0,1,0,0,0]],[],[.hold [1,0,0,0,0,0,0,0,0]],[[]]⟩
def zdR (gone:Int):Cr:=⟨[],[],[.call gone 0 1 2 3],[[]]⟩
def zea:Cr:=⟨[],[],[.hold [1000000001,0,0,0,0,0,0,0,0]],[[]]⟩
inductive Q7d (K:Fg)(C:Nat->Addr)(vs:List V)(H:Hp)(Q:VK)(E:XK):Prop
 | mk (ha la va na:Addr) (way one two gone least:Int) (ks:List Int) (cr:Int->Cr) (ws:List Int) (fp:List Addr):vs=[.ref ha,.int way,.ref na,.int least]->SqT K H na [.int one,.int two,.int gone]->HAt (C 7) (C 0) H ha la va ks cr ws fp->one∈ks->two∈ks->gone∉ks->cr one=zcI least->cr two=zdR gone->ks.length<60->one.natAbs<100->two.natAbs<100->gone.natAbs<100->0<=least->least<=1000000000->(∀ H',Same H H'->Q (.int (wayN way)) H')->Q7d K C vs H Q E
theorem zqo{C:Addr}{sp:Sp}{t:TA}{σ:L2.St}(h:t σ H λvs H1=>∀ y dx,H1 y=none->H1 dx=none->dx≠y->sp (.ref y::vs) (upd (upd H1 dx (.own y)) y (.ins C dx [])) (λv H2=>v=.non/\Q (.ref y) H2) E):zhs C sp [] E t σ H Q:=by
 have e:(λ(vs:List V) (H1:Hp)=>∀ y dx,H1 y=none->H1 dx=none->dx≠y->sp (.ref y::(vs++[])) (upd (upd H1 dx (.own y)) y (.ins C dx [])) (λv H2=>v=.non/\Q (.ref y) H2) E)
   = λvs H1=>∀ y dx,H1 y=none->H1 dx=none->dx≠y->sp (.ref y::vs) (upd (upd H1 dx (.own y)) y (.ins C dx [])) (λv H2=>v=.non/\Q (.ref y) H2) E:=by funext vs H1;rw[List.append_nil]
 show t σ H λvs H1=>∀ y dx,H1 y=none->H1 dx=none->dx≠y->sp (.ref y::(vs++[])) (upd (upd H1 dx (.own y)) y (.ins C dx [])) (λv H2=>v=.non/\Q (.ref y) H2) E
 rw[e];exact h
theorem zid{y:Addr}(hy:H y=none)(hd:H dx=none):Same H (upd (upd H dx (.own y)) y (.ins c dx [])):=λb o e=>by
 rw[zai (zan e hy),zai (zan e hd)];exact e
include B Z in
theorem zoJ (Q44:Mth (CX1 P w) P w K mg b8 (C 7) "lay" ["self","number","craft"] 8 (Q43 K C))(G_l_which:FnH P w K mg b8 "_law_which" ["e"] 1 (zeO K C))(M_Craft:Mkr P w K mg b8 "Craft" (C 0) ["self","needs","leaves","deeds","notes"] 2 (Q8 K C))(Q4c:Mth (CX1 P w) P w K mg b8 (C 7) "seek" ["self","number"] 8 (Q4b K C))(Q4a:Mth (CX1 P w) P w K mg b8 (C 7) "vouch" ["self","number","rows"] 8 (Q49 K C))(M_Run:Mkx P w K mg b8 "Run" (C 9) ["self","hall","number","given","inputs"] 8 (Q60 K C))(Q2b:Fnx P w K mg b8 "duties" ["craft","crafts"] 6 (Q2a K C))(Q48:Mth CX0 P w K mg b8 (C 7) "crafts" ["self"] 5 (Q47 K C))(F:Fun K "_law_met" "_law_met" zih f fd)(m:mg "_law_met"=some (.ref f)):Fn P w K mg b8 "_law_met" ["hall","way","numbers","least"] 10 (Q7d K C):=by
 refine Fn.of (k:=9) F zfD m (λ_ _ _ _ _ _ us hl=>(by obtain⟨_,_,_,_,rfl⟩:=len4 hl;rfl)) (λvs H Q E h=>?_) (λcdv A outer s H vs Q E hr h=>?_)
 ·first
  | (obtain⟨_,_,_,_,_,_,_,_,_,_,_,_,_,rfl,_⟩:=h;rfl)
 obtain⟨ha,la,va,na,way,one,two,gone,least,ks,cr,ws,fp,rfl,hna,hA,h1,h2,h3,c1,c2,hk,n1,n2,n3,l0,l1,q⟩:=h
 refine⟨_,(QSs.run (zbD (QS.mk (ziX (pv 2) (zh2 K (n:=3) rfl (zbJ (zay (i:=4) zfD.nd rfl (Or.inl rfl)) (zbJ (zay (i:=5) zfD.nd rfl (Or.inl rfl)) (zbJ (zay (i:=6) zfD.nd rfl (Or.inl rfl)) zfH))))))
   (zbD (zrQ rfl rfl rfl (zci (zjs (zaA (k_eq K hr) (pv 1) zae (zaw _)) (zci (zeN (zle Q44 Z.c_Hall hr (QE.mk (pv 0)) (zd1 (QE.mk (pv 4)) (zky (q_mk M_Craft hr rfl (zch (zc7 zaT) (zch (zc7 zaT) (zch (zc7 (zgV (zki (za9 (QE.mk zbh) (zlb (q_op (zaS K) (zc7 (zlb (q_op (zaS K) (q_op zoL (QE.mk zae) (QE.mk zae)) (QE.mk zae)) zaT)) (q_op zdq (zc7 (za9 (QE.mk zae) zaT)) (QE.mk zae))) zaT))) zaT)) (zch (zc7 (zch (zc7 zaT) zaT)) zaT))))) zaT))))) (zci (zjs (zaA (k_eq K hr) (pv 1) zae (zaw _)) (zci (zeN (zle Q4c Z.c_Hall hr (QE.mk (pv 0)) (zd1 (QE.mk (pv 6)) zaT)))) (zci (zjs (zaA (k_eq K hr) (pv 1) zae (zaw _)) (zci (zeN (zle Q4a Z.c_Hall hr (QE.mk (pv 0)) (zd1 (QE.mk (pv 4)) (zch (zc7 (zgV (zki (za9 (QE.mk zae) (zch (zc7 zaT) zaT))) zaT)) zaT))))) (zci (zjs (zaA (k_eq K hr) (pv 1) zae (zaw _)) (zci (zeN (qx_mk M_Run hr rfl (zd1 (QE.mk (pv 0)) (zd1 (QE.mk (pv 4)) (zgV (zki (zlb (q_op zkT (QE.mk (pv 3)) (QE.mk zae)) (za9 (QE.mk zae) zaT))) (zch (zc7 zaT) zaT))))))) (zci (zjs (zaA (k_eq K hr) (pv 1) zae (zaw _)) (zci (zeN (zle Q4c Z.c_Hall hr (QE.mk (pv 0)) (zd1 (QE.mk (pv 5)) zaT)))) (zci (zeN (qx_fn Q2b hr rfl (zrB (QE.mk (zdZ (hr_u hr) (zcg Q48 Z.c_Hall hr zbi (pv 0)) (pv 5) (λ_ _=>rfl))) (zp1 (QE.mk zgr) zaT))))))))))))))) (ph_as (i:=7) (tb:=λc a=>tRet (zhr (zeO K C c a) [] E0 (zc2 (tVar 7) tNil))) Z.e_HallError rfl Z.m_HallError zfD.nd rfl rfl (λ_ _ hd hn=>(zah (zaq (zrP G_l_which hr rfl hd hn (zac (pv 7) zab))))) zrz))
   (zkj (QS.mk (zaq zae)))))),?_⟩
 obtain⟨dx,hh⟩:=hA.ins
 have fin:∀ (D a:Addr) (H':Hp),[(C 2),(C 3),(C 5),(C 6),(C 4)][(wayN way).toNat]?=some D->Same H H'->zeO K C (.ref D) a [.ref a] H' Q E0:=λD a H' e s=>⟨D,(wayN way).toNat,rfl,rfl,e,λH2 s2=>by
  have z:0<=wayN way:=by unfold wayN;split <;> (try split) <;> (try split) <;> (try split) <;> omega
  rw[Int.toNat_of_nonneg z];exact q _ (s.trans s2)⟩
 walk_at "q"
 nofun
 refine⟨na,_,rfl,hna,rfl,?_⟩
 refine⟨_,_,rfl,?_⟩
 nofun
 refine⟨_,_,rfl,?_⟩
 nofun
 refine⟨_,_,rfl,?_⟩
 nofun
 refine⟨rfl,?_⟩
 walk_at "q"
 refine i_try ?_
 nofun
 refine ite2 (λe=>?_) (λe=>?_)
 ·have w1:way=0:=of_decide_eq_true e
  subst w1
  nofun
  refine⟨ha,dx,_,rfl,hh,zd3 (by decide +kernel) (by decide +kernel),?_⟩
  nofun
  refine⟨(by walk_at "sm"),λa1 ha1=>?_⟩
  have s1:=zad ha1 (.lst [])
  have g1:(upd H a1 (.lst [])) a1=some (.lst []):=zaa
  generalize upd H a1 (.lst [])=H1 at *
  nofun
  refine⟨(by walk_at "sm"),λa2 ha2=>?_⟩
  have s2:=zad ha2 (.lst [])
  have g2:(upd H1 a2 (.lst [])) a2=some (.lst []):=zaa
  generalize upd H1 a2 (.lst [])=H2 at *
  nofun
  refine⟨(by walk_at "sm"),λb1 hb1=>?_⟩
  have s3:=zad hb1 (.lst [V.int 1000000001])
  have g3:(upd H2 b1 (.lst [V.int 1000000001])) b1=some (.lst [V.int 1000000001]):=zaa
  show tOp zmS _ _ _ (upd H2 b1 (.lst [V.int 1000000001])) _
  generalize upd H2 b1 (.lst [V.int 1000000001])=H3 at *
  nofun
  refine⟨(by walk_at "sm"),λb2 hb2=>?_⟩
  have s4:=zad hb2 (.lst [V.int 0])
  have g4:(upd H3 b2 (.lst [V.int 0])) b2=some (.lst [V.int 0]):=zaa
  generalize upd H3 b2 (.lst [V.int 0])=H4 at *
  nofun
  refine .inr ⟨b2,8,[V.int 0],rfl,rfl,g4,by decide,by decide,by walk_at "sm",λb3 hb3=>?_⟩
  have s5:=zad hb3 (.lst [V.int 0,.int 0,.int 0,.int 0,.int 0,.int 0,.int 0,.int 0])
  have g5:(upd H4 b3 (.lst [V.int 0,.int 0,.int 0,.int 0,.int 0,.int 0,.int 0,.int 0])) b3=some (.lst [V.int 0,.int 0,.int 0,.int 0,.int 0,.int 0,.int 0,.int 0]):=zaa
  show zkd K _ _ (upd H4 b3 (.lst [V.int 0,.int 0,.int 0,.int 0,.int 0,.int 0,.int 0,.int 0])) _
  generalize upd H4 b3 (.lst [V.int 0,.int 0,.int 0,.int 0,.int 0,.int 0,.int 0,.int 0])=H5 at *
  refine zbr (s5 _ _ (s4 _ _ g3)) g5 (by walk_at "sm") λb4 hb4=>?_
  have s6:=zad hb4 (.lst ([1000000001,0,0,0,0,0,0,0,0].map V.int))
  have g6:(upd H5 b4 (.lst ([1000000001,0,0,0,0,0,0,0,0].map V.int))) b4=some (.lst ([1000000001,0,0,0,0,0,0,0,0].map V.int)):=zaa
  nofun
  refine⟨(by walk_at "sm"),λt1 ht1=>?_⟩
  have s7:=zad ht1 (.tup [V.str "hold",.ref b4])
  have g7:(upd (upd H5 b4 (.lst ([1000000001,0,0,0,0,0,0,0,0].map V.int))) t1 (.tup [V.str "hold",.ref b4])) t1=some (.tup [V.str "hold",.ref b4]):=zaa
  nofun
  refine⟨(by walk_at "sm"),λa3 ha3=>?_⟩
  have s8:=zad ha3 (.lst [V.ref t1])
  have g8:=zaa (H:=upd (upd H5 b4 (.lst ([1000000001,0,0,0,0,0,0,0,0].map V.int))) t1 (.tup [V.str "hold",.ref b4])) (a:=a3) (o:=.lst [V.ref t1])
  nofun
  refine⟨(by walk_at "sm"),λc1 hc1=>?_⟩
  have s9:=zad hc1 (.lst [])
  nofun
  refine⟨(by walk_at "sm"),λa4 ha4=>?_⟩
  have s10:=zad ha4 (.lst [V.ref c1])
  nofun
  intro p dp p0 dp0 ndp
  have tf:=s9.trans s10
  have te:=s8.trans tf
  have t2:=s3.trans (s4.trans (s5.trans (s6.trans (s7.trans te))))
  have em:∀ {b:Addr}{h:Hp},h b=some (.lst [])->Rep K h (zaz []) (.ref b):=λ{b h} e=>by
   unfold zaz Rep
   exact⟨b,_,rfl,SqL.of e,by unfold Reps;rfl⟩
  have n9:zea.Nine:=⟨by simp[zea],by simp[zea],by simp[zea,zg0],by simp[zea],by simp[zea],by simp[zea],by simp[zea],by simp[zea]⟩
  refine zfE (c:=zea) p0 dp0 (em ((s2.trans t2) _ _ g1)) (em (t2 _ _ g2)) (SqL.of (tf _ _ g8)) (SqL.of zaa) ⟨rfl,λi d x q1 q2=>?_⟩ ⟨rfl,λi d x q1 q2=>?_⟩ n9 λH8 f s11 hC hf fn=>⟨rfl,?_⟩
  ·match i,q1,q2 with
   | 0,q1,q2=>cases q1;cases q2;exact zko (te _ _ g7) (by simp) ⟨.inr (.inl ⟨_,rfl,rfl⟩),.inr (.inr (.inl ⟨b4,_,rfl,rfl,(s7.trans te) _ _ g6⟩)),trivial⟩
   | i+1,q1,q2=>simp[zea] at q1
  ·match i,q1,q2 with
   | 0,q1,q2=>cases q1;cases q2;exact em (s10 _ _ zaa)
   | i+1,q1,q2=>simp[zea] at q1
  nofun
  have s0:=s1.trans (s2.trans (t2.trans s11))
  refine⟨ha,la,va,p,one,ks,cr,ws,fp,zea,rfl,hA.same s0,hC.t n9.d9,n9,by unfold zbn;omega,.inl h1,λ_ H' s' a=>?_,λz=>by cases z⟩
  refine⟨(C 2),_,rfl,Z.e_BadSheet,?_⟩
  rw[if_pos (by simp)]
  show tRet _ _ _ _
  nofun
  exact fin (C 2) a H' rfl (s0.trans s')
 nofun
 refine ite2 (λe1=>?_) (λe1=>?_)
 ·have w1:way=1:=of_decide_eq_true e1
  subst w1
  nofun
  refine⟨ha,dx,_,rfl,hh,zd3 (by decide +kernel) (by decide +kernel),?_⟩
  nofun
  refine⟨ha,la,va,gone,ks,cr,ws,fp,rfl,hA,by unfold zbn;omega,λ_ a=>?_,λz=>absurd z h3,λz=>absurd z h3⟩
  refine⟨(C 3),_,rfl,Z.e_NoCraft,?_⟩
  rw[if_pos (by simp)]
  show tRet _ _ _ _
  nofun
  exact fin (C 3) a H rfl λ_ _ z=>z
 nofun
 refine ite2 (λe2=>?_) (λe2=>?_)
 ·have w1:way=2:=of_decide_eq_true e2
  subst w1
  nofun
  refine⟨ha,dx,_,rfl,hh,zd3 (by decide +kernel) (by decide +kernel),?_⟩
  nofun
  refine⟨(by walk_at "sm"),λa1 ha1=>?_⟩
  have s0:=zad ha1 (.lst [])
  have g1:(upd H a1 (.lst [])) a1=some (.lst (([]:List Int).map V.int)):=zaa
  generalize upd H a1 (.lst [])=H0 at *
  nofun
  refine⟨(by walk_at "sm"),λa2 ha2=>?_⟩
  have s1:=zad ha2 (.tup [V.int 0,.ref a1])
  have g2:(upd H0 a2 (.tup [V.int 0,.ref a1])) a2=some (.tup [V.int 0,.ref a1]):=zaa
  generalize upd H0 a2 (.tup [V.int 0,.ref a1])=H1 at *
  nofun
  refine⟨(by walk_at "sm"),λa3 ha3=>?_⟩
  have s2:=zad ha3 (.lst [V.ref a2])
  have g3:(upd H1 a3 (.lst [V.ref a2])) a3=some (.lst [V.ref a2]):=zaa
  generalize upd H1 a3 (.lst [V.ref a2])=H2 at *
  nofun
  have s02:=s0.trans (s1.trans s2)
  have nf:zkA ((cr one).gs cr) [(0,[])]=false:=by
   rw[c1]
   rfl
  have nc:zaZ (cr one).deeds=[]:=by rw[c1];rfl
  refine⟨ha,la,va,a3,one,ks,cr,ws,fp,[(0,[])],[V.ref a2],rfl,hA.same s02,by unfold zbn;omega,SqL.of g3,?_,?_,λz=>absurd h1 z,λ_ ⟨m,mm,_⟩=>(by rw[nc] at mm;cases mm),λ_ _ _ H' s' a=>?_,λ_ _ z=>by rw[nf] at z;cases z⟩
  ·show Reps K H2 [.tup [.int 0,nums []]] [V.ref a2]
   unfold Reps
   refine⟨.ref a2,[],rfl,?_,by unfold Reps;rfl⟩
   unfold Rep
   refine⟨a2,_,rfl,SqT.of (s2 _ _ g2),?_⟩
   unfold Reps
   refine⟨_,_,rfl,by unfold Rep;rfl,?_⟩
   unfold Reps
   refine⟨_,_,rfl,?_,by unfold Reps;rfl⟩
   unfold nums Rep
   exact⟨a1,_,rfl,SqL.of (s2 _ _ (s1 _ _ g1)),by unfold Reps;rfl⟩
  ·intro r hr
   rw[zms.mp hr]
   exact⟨by simp,by unfold CB;decide,λw hw=>by cases hw⟩
  ·refine⟨(C 5),_,rfl,Z.e_NotShown,?_⟩
   rw[if_pos (by simp)]
   show tRet _ _ _ _
   nofun
   exact fin (C 5) a H' rfl (s02.trans s')
 nofun
 refine ite2 (λe3=>?_) (λe3=>?_)
 ·have w1:way=3:=of_decide_eq_true e3
  subst w1
  nofun
  refine zqo ?_
  nofun
  refine⟨(by walk_at "sm"),λgt hgt=>?_⟩
  have s0:=zad hgt (.tup [V.int (least - 1),.int 7])
  have hg:(upd H gt (.tup [V.int (least - 1),.int 7])) gt=some (.tup [V.int (least - 1),.int 7]):=zaa
  generalize upd H gt (.tup [V.int (least - 1),.int 7])=H0 at *
  nofun
  refine⟨(by walk_at "sm"),λza hza=>?_⟩
  have s1:=zad hza (.lst [])
  have hz:(upd H0 za (.lst [])) za=some (.lst (([]:List Int).map V.int)):=zaa
  generalize upd H0 za (.lst [])=H1 at *
  nofun
  intro y dy y0 dy0 nd
  have sm:=zid (c:=(C 9)) y0 dy0
  have s2:=s0.trans (s1.trans sm)
  refine⟨y,dy,ha,la,va,gt,za,one,least - 1,7,ks,cr,ws,fp,[],rfl,zaa,hA.same s2,.inr (SqT.of (sm _ _ (s1 _ _ hg))),SqL.of (sm _ _ hz),by unfold zbn;omega,λz=>absurd h1 z,λz w H' o' a=>?_,λz w=>?_⟩
  ·have s':Same H H':=λb o e=>o' b o (λw=>by rw[zms.mp w,(s0.trans s1).free y0] at e;cases e) (s2 b o e)
   refine⟨(C 6),_,rfl,Z.e_Unfit,?_⟩
   rw[if_pos (by simp)]
   show tRet _ _ _ _
   nofun
   exact fin (C 6) a H' rfl s'
  ·rw[c1] at w
   simp[zaI,zcI,zdt,zeu,dot] at w
   omega
 have cd:zaZ (cr two).deeds=[gone]:=by rw[c2];rfl
 nofun
 refine ite2 (λe4=>?_) (λe4=>?_)
 ·have w1:way=4:=of_decide_eq_true e4
  subst w1
  nofun
  refine⟨ha,dx,_,rfl,hh,zd3 (by decide +kernel) (by decide +kernel),?_⟩
  nofun
  refine⟨ha,la,va,two,ks,cr,ws,fp,rfl,hA,by unfold zbn;omega,λz=>absurd h2 z,λ_ _ H' s' a=>?_,λ_ z=>absurd (z gone (by rw[cd];simp)) h3⟩
  refine⟨(C 4),_,rfl,Z.e_Unmet,?_⟩
  rw[if_pos (by simp)]
  show tRet _ _ _ _
  nofun
  exact fin (C 4) a H' rfl s'
 have w5:wayN way=4:=by
  unfold wayN
  rw[if_neg (λz=>e (decide_eq_true z)),if_neg (λz=>e1 (decide_eq_true z)),if_neg (λz=>e2 (decide_eq_true z)),if_neg (λz=>e3 (decide_eq_true z))]
 rw[w5] at fin
 nofun
 refine⟨ha,dx,_,rfl,hh,zd3 (by decide +kernel) (by decide +kernel),?_⟩
 nofun
 refine⟨ha,la,va,ks,cr,ws,fp,rfl,hA,λca H2 kvs ns F s2 _ hca np _ kv _ _ _=>?_⟩
 nofun
 obtain⟨v,e7,p,rfl,hC⟩:=kv.2.2 two (np.mem_iff.mpr h2)
 have rt:=hA.rt two h2
 refine⟨ca,.ref p,rfl,by rw[<-e7];exact DGet.k (k:=.inl two) hca,?_⟩
 nofun
 intro d hd
 have s3:=zad hd (.dK [])
 nofun
 refine⟨p,d,(cr two).needs,(cr two).leaves,(cr two).deeds,(cr two).notes,[],λ_=>([],[]),rfl,(hC.t rt.nine.d9).same s3,rt.good,rt.dok,zaa,rt.calledMost,.inl ⟨⟨gone,by rw[cd];simp,rfl⟩,λH' s' a=>?_⟩⟩
 refine⟨(C 4),_,rfl,Z.e_Unmet,?_⟩
 rw[if_pos (by simp)]
 show tRet _ _ _ _
 nofun
 exact fin (C 4) a H' rfl (s2.trans (s3.trans s'))
inductive Q7e (K:Fg)(vs:List V)(H:Hp)(Q:VK)(E:XK):Prop
 | mk (a:Addr) (ns:List Int):vs=[.ref a]->SqL K H a (ns.map V.int)->ns.length<=63->(∀ H',Q (.bl true) H')->Q7e K vs H Q E
variable {l:Int}
theorem oneR(l0:0<=l)(l1:l<1000000000+1):(zcI l).right=true:=by
 show zeb _ _ _ _=true
 unfold zcI zeb
 simp[zg1,zdz,zes,zeU,ze3,zbF,ze4,btw]
 omega
theorem twoR {g:Int}(l0:0<=g)(l1:g<100):(zdR g).right=true:=by
 show zeb _ _ _ _=true
 unfold zdR zeb
 simp[zg1,zdz,ze3,zbF,ze4,btw]
 exact⟨⟨⟨rfl,rfl⟩,rfl,rfl⟩,l0,by omega⟩
theorem zkO: (zcI l).Nine:=⟨by simp[zcI],by simp[zcI],by simp[zcI,zg0],by simp[zcI],by simp[zcI],by simp[zcI],by simp[zcI],by simp[zcI]⟩
theorem zkP: (zdR l).Nine:=⟨by simp[zdR],by simp[zdR],by simp[zdR,zg0],by simp[zdR],by simp[zdR],by simp[zdR],by simp[zdR],by simp[zdR]⟩
theorem oneGo{cr:Int->Cr}{ks:List Int}{n:Int}(h:cr n=zcI l):(goR cr ks 9 (zd5 cr ⟨[],[],0,none⟩ (zec n l 0) [])).en=some [.str "done",.int l,.int 0]:=by
 simp[goR,zd5,come,zec,h,zcI,zd4,zaI,zhx,zfr,zfO,zcW,zdt,dot,zlS]
theorem wayAt {w:Int}(h0:0<=w)(h6:w<6):atI [V.int 0,.int 1,.int 2,.int 3,.int 4,.int 4] w=some (.int (wayN w)):=by
 obtain rfl | rfl | rfl | rfl | rfl | rfl:w=0\/w=1\/w=2\/w=3\/w=4\/w=5:=by omega
 all_goals rfl
include B Z in
theorem zr2 (M_Hall:Mkr P w K mg b8 "Hall" (C 7) ["self"] 1 (Q42 K C))(Q44:Mth (CX1 P w) P w K mg b8 (C 7) "lay" ["self","number","craft"] 8 (Q43 K C))(Q7c:Fn P w K mg b8 "_law_cell_at" ["script","k"] 1 (Q7b K))(M_Craft:Mkr P w K mg b8 "Craft" (C 0) ["self","needs","leaves","deeds","notes"] 2 (Q8 K C))(G_Run_go:Mth CX0 P w K mg b8 (C 9) "go" ["self","fuel"] 10 (Q61 K C))(G_l_met:Fn P w K mg b8 "_law_met" ["hall","way","numbers","least"] 10 (Q7d K C))(Q46:Mth CX0 P w K mg b8 (C 7) "standing" ["self"] 1 (Q45 K C))(Q4e:Mth CX0 P w K mg b8 (C 7) "held" ["self","number"] 1 (Q4d K C))(M_Run:Mkx P w K mg b8 "Run" (C 9) ["self","hall","number","given","inputs"] 8 (Q60 K C))(F:Fun K "law" "law" ziU f fd):FnOk P w K mg b8 CX0 11 f fd ["script"] (Q7e K):=by
 refine F.ok (k:=10) zeZ (λvs H Q E h=>?_) (λcdv A outer s H vs Q E hr h=>?_)
 ·obtain⟨a,ns,rfl,_⟩:=h
  rfl
 obtain⟨a,ns,rfl,hS,hl,q⟩:=h
 refine⟨_,(QSs.run (zbD (QS.mk (zat (i:=1) zeZ.nd rfl (Or.inl rfl) (zaW zfg (zap Q7c hr rfl (zac (pv 0) (zam zae zab))) (zaW (zaS K) (zaW zoL zae zae) zae))))
   (zbD (QS.mk (zat (i:=2) zeZ.nd rfl (Or.inl rfl) (zaW zfg (zap Q7c hr rfl (zac (pv 0) (zam zae zab))) zae)))
   (zbD (QS.mk (zat (i:=3) zeZ.nd rfl (Or.inl rfl) (zaW zfg (zaW (zaS K) (zaW (zaS K) (pv 2) zae) (zaW zfg (zap Q7c hr rfl (zac (pv 0) (zam zae zab))) zae)) zae)))
   (zbD (QS.mk (zat (i:=4) zeZ.nd rfl (Or.inl rfl) (zaW zfg (zaW (zaS K) (zaW (zaS K) (pv 3) zae) (zaW zfg (zap Q7c hr rfl (zac (pv 0) (zam zae zab))) zae)) zae)))
   (zbD (QS.mk (zbd (zaA (k_eq K hr) (pv 4) (pv 2) (zaw _)) (zah (zat (i:=4) zeZ.nd rfl (Or.inl rfl) (zaW zfg (zaW (zaS K) (pv 4) zae) zae))) zaE))
   (zbD (QS.mk (zat (i:=5) zeZ.nd rfl (Or.inl rfl) (zrH M_Hall hr rfl)))
   (zbD (znq (zrU Q44 Z.c_Hall hr zm4 (QE.mk (pv 5)) (zd1 (QE.mk (pv 2)) (zky (q_mk M_Craft hr rfl (zch (zc7 (zch (zc7 (qa_un (QE.mk (zde zbP (pv 1))) (za9 (QE.mk zae) (za9 (QE.mk zae) (za9 (QE.mk zae) (za9 (QE.mk zae) (za9 (QE.mk zae) (za9 (QE.mk zae) (za9 (QE.mk zae) (za9 (QE.mk zae) zaT)))))))))) zaT)) (zch (zc7 zaT) (zch (zc7 (zgV (zki (za9 (QE.mk zbh) (zlb (q_op (zaS K) (zc7 (za9 (QE.mk zae) zaT)) (q_op zdq (zc7 (za9 (QE.mk zae) zaT)) (QE.mk zae))) zaT))) zaT)) (zch (zc7 (zch (zc7 zaT) zaT)) zaT))))) zaT))))
   (zbD (znq (zrU Q44 Z.c_Hall hr zm4 (QE.mk (pv 5)) (zd1 (QE.mk (pv 3)) (zky (q_mk M_Craft hr rfl (zch (zc7 zaT) (zch (zc7 zaT) (zch (zc7 (zgV (zki (za9 (QE.mk zbh) (zd1 (QE.mk (pv 4)) (zgV (zki (za9 (QE.mk zae) (za9 (QE.mk zae) zaT))) (zgV (zki (za9 (QE.mk zae) (za9 (QE.mk zae) zaT))) zaT))))) zaT)) (zch (zc7 (zch (zc7 zaT) zaT)) zaT))))) zaT))))
   (zbD (QS.mk (zat (i:=6) zeZ.nd rfl (Or.inl rfl) (zaW zfg (zap Q7c hr rfl (zac (pv 0) (zam zae zab))) zae)))
   (zbD (zrV PassesOwn.never rfl (zej rfl B.range (zam zae zab)) (zay (i:=7) zeZ.nd rfl (Or.inl rfl)) (zbD (QS.mk (zat (i:=8) zeZ.nd rfl (Or.inl rfl) (zaW zfg (zaW (zaS K) (pv 6) (pv 7)) zae)))
   (zkj (QS.mk (zbd (zaA (k_ne K hr) (zap G_l_met hr rfl (zac (pv 5) (zac (pv 8) (zm2 (zdm (zac (pv 2) (zac (pv 3) (zac (pv 4) zab)))) (zac (pv 1) zab))))) (zau (k_ix K) (zaO (zam zae (zam zae (zam zae (zam zae (zam zae (zam zae zab))))))) (pv 8) (λ_ _=>rfl)) (zaw _)) (zah (zaq zf9)) zaE)))))
   (zbD (QS.mk (zbd (PW.pt (zj3 (zaA (k_ne K hr) (zcg Q46 Z.c_Hall hr zbi (pv 5)) (zav zkm rfl B.sorted L2.zgW (zcL (zaO (zac (pv 2) (zac (pv 3) zab))) zab)) (zaw _)) (zj3 (zaA zm5 (zbc Q4e Z.c_Hall hr zbi (pv 5) (zac (pv 2) zab)) zf9 (zaw _)) (zkQ (zaA zm5 (zbc Q4e Z.c_Hall hr zbi (pv 5) (zac (pv 3) zab)) zf9 (zaw _)))))) (zah (zaq zf9)) zaE))
   (zkj (QS.mk (zaq (zbt (k_eq K hr) (zbc G_Run_go Z.c_Run hr zbi (zrv M_Run hr rfl zm4 (zac (pv 5) (zac (pv 2) (zm2 (zdm (zac (pv 1) (zam zae zab))) (zcL (zaO zab) zab))))) (zam zae zab)) (zdm (zam zbh (zac (pv 1) (zam zae zab)))) (zaw _))))))))))))))))),?_⟩
 nofun
 walk_at "q"
 nofun
 refine zjY hS (by decide) ?_
 have l0:=Int.emod_nonneg (cell ns 0) (show (1000000000+1:Int)≠0 by decide)
 have l1:=Int.emod_lt_of_pos (cell ns 0) (show (0:Int)<1000000000+1 by decide)
 nofun
 generalize cell ns 0 % (1000000000+1)=least at l0 l1 ⊢
 walk_at "q"
 nofun
 refine zjY hS (by decide) ?_
 have o0:=Int.emod_nonneg (cell ns 1) (show (100:Int)≠0 by decide)
 have o1:=Int.emod_lt_of_pos (cell ns 1) (show (0:Int)<100 by decide)
 nofun
 generalize cell ns 1 % 100=one at o0 o1 ⊢
 walk_at "q"
 nofun
 refine zjY hS (by decide) ?_
 have u0:=Int.emod_nonneg (cell ns 2) (show (49:Int)≠0 by decide)
 have u1:=Int.emod_lt_of_pos (cell ns 2) (show (0:Int)<49 by decide)
 nofun
 generalize cell ns 2 % 49=u at u0 u1 ⊢
 have t0:=Int.emod_nonneg (one+1+u) (show (100:Int)≠0 by decide)
 have t1:=Int.emod_lt_of_pos (one+1+u) (show (0:Int)<100 by decide)
 have tn:(one+1+u) % 100≠one:=by omega
 have tm:(one+50) % 100≠(one+1+u) % 100:=by omega
 generalize (one+1+u) % 100=two at t0 t1 tn tm ⊢
 walk_at "q"
 nofun
 refine zjY hS (by decide) ?_
 have v0:=Int.emod_nonneg (cell ns 3) (show (49:Int)≠0 by decide)
 have v1:=Int.emod_lt_of_pos (cell ns 3) (show (0:Int)<49 by decide)
 nofun
 generalize cell ns 3 % 49=v at v0 v1 ⊢
 have g0:=Int.emod_nonneg (two+1+v) (show (100:Int)≠0 by decide)
 have g1:=Int.emod_lt_of_pos (two+1+v) (show (0:Int)<100 by decide)
 have gn:(two+1+v) % 100≠two:=by omega
 generalize (two+1+v) % 100=gone at g0 g1 gn ⊢
 with_reducible refine zh3 (λσ H'=>∃ gone:Int,0<=gone/\gone<100/\gone≠one/\gone≠two/\σ=[some (.ref a),some (.int least),some (.int one),some (.int two),some (.int gone),none,none,none,none]/\H'=H) (λNX hN=>?_) (λσ H' hM=>?_)
 ·nofun
  refine ite2 (λe=>?_) (λe=>?_)
  ·have e:gone=one:=of_decide_eq_true e
   subst e
   have w0:=Int.emod_nonneg (gone+50) (show (100:Int)≠0 by decide)
   have w1:=Int.emod_lt_of_pos (gone+50) (show (0:Int)<100 by decide)
   have w2:(gone+50) % 100≠gone:=by omega
   nofun
   exact hN _ _ ⟨_,w0,w1,w2,tm,rfl,rfl⟩
  ·nofun
   exact hN _ _ ⟨_,g0,g1,λz=>e (decide_eq_true z),gn,rfl,rfl⟩
 obtain⟨gone,g0,g1',gn,gm,rfl,rfl⟩:=hM
 walk_at "q"
 nofun
 intro ha dx ha0 dx0 ndx
 refine⟨ha,dx,rfl,zaa,λla va H6 la0 va0 nlv o1 h1 h2 h3=>⟨rfl,?_⟩⟩
 have s6:Same _ H6:=znn ha0 dx0 o1
 have hA0:HAt (C 7) (C 0) H6 ha la va [] (λ_=>zea) [] []:=HAt.start h1 h2 h3 nlv
 nofun
 walk_at "q"
 nofun
 refine⟨ha,dx,_,rfl,h1,zd3 (by decide +kernel) (by decide +kernel),?_⟩
 nofun
 refine⟨(by walk_at "sm"),λb1 hb1=>?_⟩
 have s1:=zad hb1 (.lst [V.int (-least),.int 0,.int 0,.int 0,.int 0,.int 1,.int 0,.int 0,.int 0])
 have g1:(upd H6 b1 (.lst [V.int (-least),.int 0,.int 0,.int 0,.int 0,.int 1,.int 0,.int 0,.int 0])) b1=some (.lst ([-least,0,0,0,0,1,0,0,0].map V.int)):=zaa
 generalize upd H6 b1 (.lst [V.int (-least),.int 0,.int 0,.int 0,.int 0,.int 1,.int 0,.int 0,.int 0])=H7 at *
 nofun
 refine⟨(by walk_at "sm"),λa1 ha1=>?_⟩
 have s2:=zad ha1 (.lst [V.ref b1])
 have g2:(upd H7 a1 (.lst [V.ref b1])) a1=some (.lst [V.ref b1]):=zaa
 generalize upd H7 a1 (.lst [V.ref b1])=H8 at *
 nofun
 refine⟨(by walk_at "sm"),λa2 ha2=>?_⟩
 have s3:=zad ha2 (.lst [])
 have g3:(upd H8 a2 (.lst [])) a2=some (.lst []):=zaa
 generalize upd H8 a2 (.lst [])=H9 at *
 nofun
 refine⟨(by walk_at "sm"),λb2 hb2=>?_⟩
 have s4:=zad hb2 (.lst [V.int 1])
 have g4:(upd H9 b2 (.lst [V.int 1])) b2=some (.lst [V.int 1]):=zaa
 generalize upd H9 b2 (.lst [V.int 1])=H10 at *
 nofun
 refine⟨(by walk_at "sm"),λb3 hb3=>?_⟩
 have s5:=zad hb3 (.lst [V.int 0])
 have g5:(upd H10 b3 (.lst [V.int 0])) b3=some (.lst [V.int 0]):=zaa
 generalize upd H10 b3 (.lst [V.int 0])=H11 at *
 nofun
 refine .inr ⟨b3,8,[V.int 0],rfl,rfl,g5,by decide,by decide,by walk_at "sm",λb4 hb4=>?_⟩
 have s7:=zad hb4 (.lst [V.int 0,.int 0,.int 0,.int 0,.int 0,.int 0,.int 0,.int 0])
 have g7:(upd H11 b4 (.lst [V.int 0,.int 0,.int 0,.int 0,.int 0,.int 0,.int 0,.int 0])) b4=some (.lst [V.int 0,.int 0,.int 0,.int 0,.int 0,.int 0,.int 0,.int 0]):=zaa
 show zkd K _ _ (upd H11 b4 (.lst [V.int 0,.int 0,.int 0,.int 0,.int 0,.int 0,.int 0,.int 0])) _
 generalize upd H11 b4 (.lst [V.int 0,.int 0,.int 0,.int 0,.int 0,.int 0,.int 0,.int 0])=H12 at *
 refine zbr (s7 _ _ (s5 _ _ g4)) g7 (by walk_at "sm") λb5 hb5=>?_
 have s8:=zad hb5 (.lst ([1,0,0,0,0,0,0,0,0].map V.int))
 have g8:(upd H12 b5 (.lst ([1,0,0,0,0,0,0,0,0].map V.int))) b5=some (.lst ([1,0,0,0,0,0,0,0,0].map V.int)):=zaa
 show tNil _ (upd H12 b5 (.lst ([1,0,0,0,0,0,0,0,0].map V.int))) _
 generalize upd H12 b5 (.lst ([1,0,0,0,0,0,0,0,0].map V.int))=H13 at *
 nofun
 refine⟨(by walk_at "sm"),λt2 ht2=>?_⟩
 have s9:=zad ht2 (.tup [V.str "hold",.ref b5])
 have g9:(upd H13 t2 (.tup [V.str "hold",.ref b5])) t2=some (.tup [V.str "hold",.ref b5]):=zaa
 show tNil _ (upd H13 t2 (.tup [V.str "hold",.ref b5])) _
 generalize upd H13 t2 (.tup [V.str "hold",.ref b5])=H14 at *
 nofun
 refine⟨(by walk_at "sm"),λa3 ha3=>?_⟩
 have s10:=zad ha3 (.lst [V.ref t2])
 have g10:(upd H14 a3 (.lst [V.ref t2])) a3=some (.lst [V.ref t2]):=zaa
 generalize upd H14 a3 (.lst [V.ref t2])=H15 at *
 nofun
 refine⟨(by walk_at "sm"),λc1 hc1=>?_⟩
 have s11:=zad hc1 (.lst [])
 have g11:(upd H15 c1 (.lst [])) c1=some (.lst []):=zaa
 generalize upd H15 c1 (.lst [])=H16 at *
 nofun
 refine⟨(by walk_at "sm"),λa4 ha4=>?_⟩
 have s12:=zad ha4 (.lst [V.ref c1])
 have g12:(upd H16 a4 (.lst [V.ref c1])) a4=some (.lst [V.ref c1]):=zaa
 generalize upd H16 a4 (.lst [V.ref c1])=H17 at *
 nofun
 intro p dp p0 dp0 ndp
 have u10:=s11.trans s12
 have u9:=s10.trans u10
 have u8:=s9.trans u9
 have u3:=s4.trans (s5.trans (s7.trans (s8.trans u8)))
 have u2:=s3.trans u3
 have em:∀ {b:Addr}{h:Hp},h b=some (.lst [])->Rep K h (zaz []) (.ref b):=λ{b h} e=>by
  unfold zaz Rep
  exact⟨b,_,rfl,SqL.of e,by unfold Reps;rfl⟩
 refine zfE (c:=zcI least) p0 dp0 ?_ (em (u3 _ _ g3)) (SqL.of (u10 _ _ g10)) (SqL.of g12) ⟨rfl,λi d x q1 q2=>?_⟩ ⟨rfl,λi d x q1 q2=>?_⟩ zkO λH18 f s13 hC hf fn=>⟨rfl,?_⟩
 ·unfold zaz Rep
  refine⟨a1,_,rfl,SqL.of (u2 _ _ g2),?_⟩
  show Reps K H17 [nums [-least,0,0,0,0,1,0,0,0]] _
  unfold Reps
  exact⟨_,_,rfl,za8.mpr ⟨_,rfl,SqL.of ((s2.trans u2) _ _ g1)⟩,by unfold Reps;rfl⟩
 ·match i,q1,q2 with
  | 0,q1,q2=>cases q1;cases q2;exact zko (u9 _ _ g9) (by simp) ⟨.inr (.inl ⟨_,rfl,rfl⟩),.inr (.inr (.inl ⟨b5,_,rfl,rfl,u8 _ _ g8⟩)),trivial⟩
  | i+1,q1,q2=>simp[zcI] at q1
 ·match i,q1,q2 with
  | 0,q1,q2=>cases q1;cases q2;exact em (s12 _ _ g11)
  | i+1,q1,q2=>simp[zcI] at q1
 nofun
 have t1:=s1.trans (s2.trans (u2.trans s13))
 have hr1:=oneR l0 l1
 refine⟨ha,la,va,p,one,[],λ_=>zea,[],[],zcI least,rfl,hA0.same t1,hC.t zkO.d9,zkO,by unfold zbn;omega,.inr (by simp),λz=>(by rw[hr1] at z;cases z),λ_ H19 ks1 ws1 fp1 o1 hA1 _ _ hks hws _=>?_⟩
 cases hks (by simp)
 have w0:ws1=[]:=List.eq_nil_iff_forall_not_mem.mpr λm hm=>by
  have:=((hws m).mp hm).1
  cases this
 subst w0
 nofun
 have n1:NoD H' H19:=(s6.trans t1).nod.trans (o1.nod λb hb=>?_)
 rotate_left
 ·obtain⟨kl,hla,_⟩:=(hA0.same t1).laid
  obtain⟨kv,hva,_⟩:=(hA0.same t1).vou
  simp only[List.mem_cons,List.not_mem_nil,or_false] at hb
  rcases hb with rfl | rfl
  ·exact⟨_,hla⟩
  ·exact⟨_,hva⟩
 have hS1:=n1.sq.lst hS
 clear n1 o1 hws hks hA0 hS t1 u2 u3 u8 u9 u10 s1 s2 s3 s4 s5 s6 s7 s8 s9 s10 s11 s12 s13 g1 g2 g3 g4 g5 g7 g8 g9 g10 g11 g12 hC hf fn
 obtain⟨dx2,hh2⟩:=hA1.ins
 walk_at "q"
 nofun
 refine⟨ha,dx2,_,rfl,hh2,zd3 (by decide +kernel) (by decide +kernel),?_⟩
 nofun
 refine⟨(by walk_at "sm"),λa1 ha1=>?_⟩
 have s1:=zad ha1 (.lst [])
 have g1:(upd H19 a1 (.lst [])) a1=some (.lst []):=zaa
 generalize upd H19 a1 (.lst [])=H20 at *
 nofun
 refine⟨(by walk_at "sm"),λa2 ha2=>?_⟩
 have s2:=zad ha2 (.lst [])
 have g2:(upd H20 a2 (.lst [])) a2=some (.lst []):=zaa
 generalize upd H20 a2 (.lst [])=H21 at *
 nofun
 refine⟨(by walk_at "sm"),λb1 hb1=>?_⟩
 have s3:=zad hb1 (.tup [V.int 0,.int 1])
 have g3:(upd H21 b1 (.tup [V.int 0,.int 1])) b1=some (.tup [V.int 0,.int 1]):=zaa
 generalize upd H21 b1 (.tup [V.int 0,.int 1])=H22 at *
 nofun
 refine⟨(by walk_at "sm"),λb2 hb2=>?_⟩
 have s4:=zad hb2 (.tup [V.int 2,.int 3])
 have g4:(upd H22 b2 (.tup [V.int 2,.int 3])) b2=some (.tup [V.int 2,.int 3]):=zaa
 generalize upd H22 b2 (.tup [V.int 2,.int 3])=H23 at *
 nofun
 refine⟨(by walk_at "sm"),λt2 ht2=>?_⟩
 have s5:=zad ht2 (.tup [V.str "call",.int gone,.ref b1,.ref b2])
 have g5:(upd H23 t2 (.tup [V.str "call",.int gone,.ref b1,.ref b2])) t2=some (.tup [V.str "call",.int gone,.ref b1,.ref b2]):=zaa
 show tNil _ (upd H23 t2 (.tup [V.str "call",.int gone,.ref b1,.ref b2])) _
 generalize upd H23 t2 (.tup [V.str "call",.int gone,.ref b1,.ref b2])=H24 at *
 nofun
 refine⟨(by walk_at "sm"),λa3 ha3=>?_⟩
 have s6:=zad ha3 (.lst [V.ref t2])
 have g6:(upd H24 a3 (.lst [V.ref t2])) a3=some (.lst [V.ref t2]):=zaa
 generalize upd H24 a3 (.lst [V.ref t2])=H25 at *
 nofun
 refine⟨(by walk_at "sm"),λc1 hc1=>?_⟩
 have s7:=zad hc1 (.lst [])
 have g7:(upd H25 c1 (.lst [])) c1=some (.lst []):=zaa
 generalize upd H25 c1 (.lst [])=H26 at *
 nofun
 refine⟨(by walk_at "sm"),λa4 ha4=>?_⟩
 have s8:=zad ha4 (.lst [V.ref c1])
 have g8:(upd H26 a4 (.lst [V.ref c1])) a4=some (.lst [V.ref c1]):=zaa
 generalize upd H26 a4 (.lst [V.ref c1])=H27 at *
 nofun
 intro p2 dp2 p20 dp20 ndp2
 have u6:=s7.trans s8
 have u5:=s6.trans u6
 have u4:=s5.trans u5
 have u2:=s3.trans (s4.trans u4)
 refine zfE (c:=zdR gone) p20 dp20 (em ((s2.trans u2) _ _ g1)) (em (u2 _ _ g2)) (SqL.of (u6 _ _ g6)) (SqL.of g8) ⟨rfl,λi d x q1 q2=>?_⟩ ⟨rfl,λi d x q1 q2=>?_⟩ zkP λH28 f s9 hC hf fn=>⟨rfl,?_⟩
 ·match i,q1,q2 with
  | 0,q1,q2=>cases q1;cases q2;exact zko (u5 _ _ g5) (by simp) ⟨.inr (.inl ⟨_,rfl,rfl⟩),.inl ⟨_,rfl,rfl⟩,.inr (.inr (.inr ⟨b1,_,_,rfl,rfl,(s4.trans u4) _ _ g3⟩)),.inr (.inr (.inr ⟨b2,_,_,rfl,rfl,u4 _ _ g4⟩)),trivial⟩
  | i+1,q1,q2=>simp[zdR] at q1
 ·match i,q1,q2 with
  | 0,q1,q2=>cases q1;cases q2;exact em (s8 _ _ g7)
  | i+1,q1,q2=>simp[zdR] at q1
 nofun
 have t1:=s1.trans (s2.trans (u2.trans s9))
 have hr2:=twoR g0 g1'
 refine⟨ha,la,va,p2,two,[one],setC (λ_=>zea) one (zcI least),[],fp1,zdR gone,rfl,hA1.same t1,hC.t zkP.d9,zkP,by unfold zbn;omega,.inr (by simp),λz=>(by rw[hr2] at z;cases z),λ_ H29 ks1 ws1 fp2 o1 hA2 _ _ hks hws _=>?_⟩
 cases hks (by simp[tn])
 have w0:ws1=[]:=List.eq_nil_iff_forall_not_mem.mpr λm hm=>by
  have:=((hws m).mp hm).1
  cases this
 subst w0
 have n2:NoD H19 H29:=t1.nod.trans (o1.nod λb hb=>?_)
 rotate_left
 ·obtain⟨kl,hla,_⟩:=(hA1.same t1).laid
  obtain⟨kv,hva,_⟩:=(hA1.same t1).vou
  simp only[List.mem_cons,List.not_mem_nil,or_false] at hb
  rcases hb with rfl | rfl
  ·exact⟨_,hla⟩
  ·exact⟨_,hva⟩
 have hS2:=n2.sq.lst hS1
 have c1:setC (setC (λ_=>zea) one (zcI least)) two (zdR gone) one=zcI least:=by
  unfold setC
  rw[if_neg tn.symm,if_pos rfl]
 have c2:setC (setC (λ_=>zea) one (zcI least)) two (zdR gone) two=zdR gone:=if_pos rfl
 generalize setC (setC (λ_=>zea) one (zcI least)) two (zdR gone)=cr at *
 clear n2 o1 hws hks hA1 hS1 t1 u2 u4 u5 u6 s1 s2 s3 s4 s5 s6 s7 s8 s9 g1 g2 g3 g4 g5 g6 g7 g8 hC hf fn
 nofun
 walk_at "q"
 nofun
 refine zjY hS2 (by decide) ?_
 nofun
 generalize cell ns 4 % 6=first
 walk_at "q"
 nofun
 have k1:one∈[one]++[two]:=by simp
 have k2:two∈[one]++[two]:=by simp
 have k3:gone∉[one]++[two]:=by simp[gn,gm]
 have kl:([one]++[two]).length=2:=rfl
 have so2:∀ ns:List Int,ns.Perm ([one]++[two])↔ns.Perm [one,two]:=λ_=>Iff.rfl
 generalize [one]++[two]=ks at *
 refine zgS (by decide) (by decide) ?_
 refine zkf (λi σ H'=>∃ x y,σ=[some (.ref a),some (.int least),some (.int one),some (.int two),some (.int gone),some (.ref ha),some (.int first),x,y]/\HAt (C 7) (C 0) H' ha la va ks cr [] fp2) ⟨none,none,rfl,hA2⟩ ?_ ?_
 ·rintro i σ H30 hi ⟨x,y,rfl,hA3⟩
  nofun
  walk_at "q"
  nofun
  have w0:=Int.emod_nonneg (first+(0+(i:Int))) (show (6:Int)≠0 by decide)
  have w1:=Int.emod_lt_of_pos (first+(0+(i:Int))) (show (0:Int)<6 by decide)
  generalize (first+(0+(i:Int))) % 6=w at w0 w1 ⊢
  nofun
  refine⟨(by walk_at "sm"),λna hna=>?_⟩
  have s1:=zad hna (.tup [V.int one,.int two,.int gone])
  have g1:(upd H30 na (.tup [V.int one,.int two,.int gone])) na=some (.tup [V.int one,.int two,.int gone]):=zaa
  generalize upd H30 na (.tup [V.int one,.int two,.int gone])=H31 at *
  nofun
  refine⟨ha,la,va,na,w,one,two,gone,least,ks,cr,[],fp2,rfl,SqT.of g1,hA3.same s1,k1,k2,k3,c1,c2,by omega,by omega,by omega,by omega,l0,by omega,λH32 s2=>?_⟩
  nofun
  refine⟨(by walk_at "sm"),λwl hwl=>?_⟩
  have s3:=zad hwl (.lst [V.int 0,.int 1,.int 2,.int 3,.int 4,.int 4])
  have g3:(upd H32 wl (.lst [V.int 0,.int 1,.int 2,.int 3,.int 4,.int 4])) wl=some (.lst [V.int 0,.int 1,.int 2,.int 3,.int 4,.int 4]):=zaa
  generalize upd H32 wl (.lst [V.int 0,.int 1,.int 2,.int 3,.int 4,.int 4])=H33 at *
  nofun
  refine zcf (SqL.of g3) (wayAt w0 w1) ?_
  nofun
  rw[decide_eq_true rfl]
  nofun
  exact⟨_,_,rfl,hA3.same (s1.trans (s2.trans s3))⟩
 rintro σ H30 ⟨x,y,rfl,hA3⟩
 clear hA2
 obtain⟨dx3,hh3⟩:=hA3.ins
 nofun
 walk_at "q"
 nofun
 refine⟨ha,dx3,_,rfl,hh3,zd3 (by decide +kernel) (by decide +kernel),?_⟩
 nofun
 refine⟨ha,la,va,ks,cr,[],fp2,rfl,hA3,λl n1 hl1 pm1 so1=>?_⟩
 have s1:=zad hl1 (.lst (n1.map V.int))
 have g1:(upd H30 l (.lst (n1.map V.int))) l=some (.lst (n1.map V.int)):=zaa
 generalize upd H30 l (.lst (n1.map V.int))=H31 at *
 nofun
 refine⟨(by walk_at "sm"),λpl hpl=>?_⟩
 have s2:=zad hpl (.lst [V.int one,.int two])
 have g2:(upd H31 pl (.lst [V.int one,.int two])) pl=some (.lst ([one,two].map V.int)):=zaa
 generalize upd H31 pl (.lst [V.int one,.int two])=H32 at *
 nofun
 refine⟨pl,[one,two],rfl,g2,by simp,λl2 n2 hl2 pm2 so3=>?_⟩
 have s3:=zad hl2 (.lst (n2.map V.int))
 have g3:(upd H32 l2 (.lst (n2.map V.int))) l2=some (.lst (n2.map V.int)):=zaa
 generalize upd H32 l2 (.lst (n2.map V.int))=H33 at *
 have e12:=zgX (((so2 _).mp pm1).trans pm2.symm) so1 so3
 subst e12
 refine i_neD (za8.mpr ⟨_,rfl,SqL.of ((s2.trans s3) _ _ g1)⟩) (za8.mpr ⟨_,rfl,SqL.of g3⟩) (Nat.le_trans (zgu _) (by decide)) ?_
 rw[zem]
 have hA4:=hA3.same (s1.trans (s2.trans s3))
 clear s1 s2 s3 g1 g2 g3 hA3 hh3
 obtain⟨dx4,hh4⟩:=hA4.ins
 nofun
 refine⟨ha,dx4,_,rfl,hh4,zd3 (by decide +kernel) (by decide +kernel),?_⟩
 nofun
 refine⟨ha,la,va,one,ks,cr,[],fp2,rfl,hA4,?_⟩
 rw[decide_eq_false List.not_mem_nil]
 nofun
 refine zo6 ?_
 rw[decide_eq_true rfl]
 nofun
 refine⟨ha,dx4,_,rfl,hh4,zd3 (by decide +kernel) (by decide +kernel),?_⟩
 nofun
 refine⟨ha,la,va,two,ks,cr,[],fp2,rfl,hA4,?_⟩
 rw[decide_eq_false List.not_mem_nil]
 nofun
 refine zo6 ?_
 rw[decide_eq_true rfl]
 nofun
 refine⟨(by walk_at "sm"),λgt hgt=>?_⟩
 have s1:=zad hgt (.tup [V.int least,.int 0])
 have g1:(upd H33 gt (.tup [V.int least,.int 0])) gt=some (.tup [V.int least,.int 0]):=zaa
 generalize upd H33 gt (.tup [V.int least,.int 0])=H34 at *
 nofun
 refine⟨(by walk_at "sm"),λza hza=>?_⟩
 have s2:=zad hza (.lst [])
 have g2:(upd H34 za (.lst [])) za=some (.lst (([]:List Int).map V.int)):=zaa
 generalize upd H34 za (.lst [])=H35 at *
 nofun
 intro r dr r0 dr0 ndr
 have sm:=zid (c:=(C 9)) r0 dr0
 have fb:zaI (cr one).needs (zeu least 0)=none:=by
  rw[c1]
  simp[zaI,zcI,zdt,zeu,dot]
  omega
 refine⟨r,dr,ha,la,va,gt,za,one,least,0,ks,cr,[],fp2,[],rfl,zaa,hA4.same (s1.trans (s2.trans sm)),.inr (SqT.of (sm _ _ (s2 _ _ g1))),SqL.of (sm _ _ g2),by unfold zbn;omega,λz=>absurd k1 z,λ_ z=>absurd fb z,λ_ _ H36 ka ia sa fas kfp nn m1 RX pm0 _=>⟨rfl,?_⟩⟩
 nofun
 have wb:WfF nn cr (zec one least 0):=⟨pm0.mem_iff.mpr k1,Int.le_refl _,by show (0:Int)<=_;omega,rfl,rfl⟩
 have w0:WfR nn cr (zd5 cr ⟨[],[],0,none⟩ (zec one least 0) []):=zd6 ⟨λf hf=>by rw[zms.mp hf];exact wb,λf hf=>by cases hf⟩
 have l2:(zd5 cr ⟨[],[],0,none⟩ (zec one least 0) []).st.length<=20:=Nat.le_trans zgA (by simp)
 obtain⟨dr2,evr,hr',_⟩:=RX.ins
 refine⟨r,dr2,_,rfl,hr',zcu (by decide +kernel),?_⟩
 nofun
 refine⟨r,ka,ia,sa,nn,cr,fas,_,kfp,9,rfl,RX,w0,l2,λtold H37 fas2 _ _ tl _ _=>?_⟩
 rw[show (9:Int).toNat=9 from rfl,oneGo c1] at tl
 obtain⟨Tt,rfl,hTt⟩:=tl
 nofun
 refine⟨(by walk_at "sm"),λTc hTc=>?_⟩
 have s3:=zad hTc (.tup [V.str "done",.int least,.int 0])
 have dR:∀ {h:Hp}{t:Addr},h t=some (.tup [V.str "done",.int least,.int 0])->Rep K h (.tup [.str "done",.int least,.int 0]) (.ref t):=λ{h t} e=>by
  unfold Rep
  refine⟨t,_,rfl,SqT.of e,?_⟩
  unfold Reps
  refine⟨_,_,rfl,by unfold Rep;rfl,?_⟩
  unfold Reps
  refine⟨_,_,rfl,by unfold Rep;rfl,?_⟩
  unfold Reps
  refine⟨_,_,rfl,by unfold Rep;rfl,?_⟩
  unfold Reps
  rfl
 refine zn7 (dR (s3 _ _ hTt)) (dR zaa) (by simp[dep,deps]) ?_
 rw[zem]
 exact q _
end
abbrev FQ (K:Fg)(f:Addr)(x q:Str)(s:Stmt):Prop:=∃ oc od sl kV dc pm an cd ct,K.lookup f=some ⟨oc,od,.func (fnOf x q (zdy s) (zb4 s) (zaf s) .none kV dc pm an cd ct),sl⟩/\codeIn K cd q=true/\keepIn K (.ref f)=true
theorem zaK{f:Addr}{x q:Str}{s:Stmt}(h:FQ K f x q s):∃ fd,Fun K x q s f fd:=by
 obtain⟨_,_,_,_,_,_,_,_,_,l,c,k⟩:=h
 exact⟨_,zoV l c k⟩
abbrev NI (K:Fg)(x:Str)(f:Addr):Prop:=nsIn K mainGlobals x=some (some (.ref f))
abbrev FI (K:Fg)(C:Addr)(x:Str)(f:Addr):Prop:=findIn K (.ref C) x=some (some (.ref f))
abbrev KI (K:Fg)(f:Addr):Prop:=keepIn K (.ref f)=true
abbrev IF (K:Fg)(f:Addr):Prop:=isFn K (.ref f)=true
theorem all_mk{l:PySem.W.OpenLaw}{w:World}{h:Heap}{mg:Str->Option Value}{fa:Addr}(X:K.In h)(G:h.Ns mainGlobals mg)(hfa:mg "law"=some (.ref fa))(aC0:NI K "Craft" C0)(aC1:NI K "HallError" C1)(aC2:NI K "BadSheet" C2)(aC3:NI K "NoCraft" C3)(aC4:NI K "Unmet" C4)(aC5:NI K "NotShown" C5)(aC6:NI K "Unfit" C6)(aC7:NI K "Hall" C7)(aC8:NI K "Frame" C8)(aC9:NI K "Run" C9)(a1:NI K "copied_lines" f1)(l1:FQ K f1 "copied_lines" "copied_lines" zbT)(a2:NI K "copied_deed" f2)(l2:FQ K f2 "copied_deed" "copied_deed" zb5)(a3:FI K C0 "__init__" f3)(i3:IF K f3)(l3:FQ K f3 "__init__" "Craft.__init__" zbo)(a4:NI K "worth" f4)(l4:FQ K f4 "worth" "worth" zie)(a5:NI K "holds" f5)(l5:FQ K f5 "holds" "holds" zif)(a6:NI K "bare" f6)(l6:FQ K f6 "bare" "bare" ziT)(a7:NI K "summed" f7)(l7:FQ K f7 "summed" "summed" zfc)(a8:NI K "turned" f8)(l8:FQ K f8 "turned" "turned" zgj)(a9:NI K "copied_craft" f9)(l9:FQ K f9 "copied_craft" "copied_craft" zcw)(a10:NI K "called_by" f10)(l10:FQ K f10 "called_by" "called_by" zcZ)(a11:NI K "between" f11)(l11:FQ K f11 "between" "between" zfd)(a12:NI K "small_enough" f12)(l12:FQ K f12 "small_enough" "small_enough" zcx)(a13:NI K "line_right" f13)(l13:FQ K f13 "line_right" "line_right" zb3)(a14:NI K "lines_right" f14)(l14:FQ K f14 "lines_right" "lines_right" zb8)(a15:NI K "oath_right" f15)(l15:FQ K f15 "oath_right" "oath_right" zdg)(a16:NI K "hand_right" f16)(l16:FQ K f16 "hand_right" "hand_right" zdj)(a17:NI K "two_hands_right" f17)(l17:FQ K f17 "two_hands_right" "two_hands_right" zbs)(a18:NI K "call_right" f18)(l18:FQ K f18 "call_right" "call_right" zdi)(a19:NI K "range_right" f19)(l19:FQ K f19 "range_right" "range_right" zcN)(a20:NI K "deed_right" f20)(l20:FQ K f20 "deed_right" "deed_right" zdh)(a21:NI K "deeds_right" f21)(l21:FQ K f21 "deeds_right" "deeds_right" zb6)(a22:NI K "notes_right" f22)(l22:FQ K f22 "notes_right" "notes_right" zb7)(a23:NI K "right" f23)(l23:FQ K f23 "right" "right" zig)(a24:NI K "due_at" f24)(l24:FQ K f24 "due_at" "due_at" zeA)(a25:NI K "eight_with" f25)(l25:FQ K f25 "eight_with" "eight_with" zcE)(a26:NI K "each_from" f26)(l26:FQ K f26 "each_from" "each_from" zc0)(a27:NI K "all_turned" f27)(l27:FQ K f27 "all_turned" "all_turned" zcD)(a28:NI K "constant" f28)(l28:FQ K f28 "constant" "constant" zeB)(a29:NI K "first_duties" f29)(l29:FQ K f29 "first_duties" "first_duties" zcy)(a30:NI K "call_duties" f30)(l30:FQ K f30 "call_duties" "call_duties" zcS)(a31:NI K "part_duties" f31)(l31:FQ K f31 "part_duties" "part_duties" zcP)(a32:NI K "draw_duties" f32)(l32:FQ K f32 "draw_duties" "draw_duties" zcQ)(a33:NI K "turn_duties" f33)(l33:FQ K f33 "turn_duties" "turn_duties" zcR)(a34:NI K "deed_duties" f34)(l34:FQ K f34 "deed_duties" "deed_duties" zcO)(a35:NI K "duties" f35)(l35:FQ K f35 "duties" "duties" zgk)(a36:NI K "shows" f36)(l36:FQ K f36 "shows" "shows" zei)(a37:NI K "noughts_and_ones" f37)(l37:FQ K f37 "noughts_and_ones" "noughts_and_ones" za7)(a38:NI K "sought" f38)(l38:FQ K f38 "sought" "sought" zgl)(a39:FI K C7 "__init__" f39)(i39:IF K f39)(l39:FQ K f39 "__init__" "Hall.__init__" zb9)(a40:FI K C7 "release" f40)(i40:IF K f40)(l40:FQ K f40 "release" "Hall.release" zcz)(a41:FI K C7 "called_at" f41)(i41:IF K f41)(l41:FQ K f41 "called_at" "Hall.called_at" zbY)(a42:FI K C7 "release_callers" f42)(i42:IF K f42)(l42:FQ K f42 "release_callers" "Hall.release_callers" zbm)(a43:NI K "same_oath" f43)(l43:FQ K f43 "same_oath" "same_oath" zdT)(a44:FI K C7 "lay" f44)(i44:IF K f44)(l44:FQ K f44 "lay" "Hall.lay" zeC)(a45:FI K C7 "standing" f45)(i45:IF K f45)(l45:FQ K f45 "standing" "Hall.standing" zca)(a46:FI K C7 "crafts" f46)(i46:IF K f46)(l46:FQ K f46 "crafts" "Hall.crafts" zcT)(a47:NI K "all_shown" f47)(l47:FQ K f47 "all_shown" "all_shown" zc1)(a48:FI K C7 "must_stand" f48)(i48:IF K f48)(l48:FQ K f48 "must_stand" "Hall.must_stand" zbH)(a49:FI K C7 "duties_at" f49)(i49:IF K f49)(l49:FQ K f49 "duties_at" "Hall.duties_at" zbX)(a50:FI K C7 "vouch" f50)(i50:IF K f50)(l50:FQ K f50 "vouch" "Hall.vouch" zdk)(a51:FI K C7 "seek" f51)(i51:IF K f51)(l51:FQ K f51 "seek" "Hall.seek" zcr)(a52:FI K C7 "held" f52)(i52:IF K f52)(l52:FQ K f52 "held" "Hall.held" zdS)(a53:FI K C8 "__init__" f53)(i53:IF K f53)(l53:FQ K f53 "__init__" "Frame.__init__" zbZ)(a54:FI K C8 "numbers" f54)(i54:IF K f54)(l54:FQ K f54 "numbers" "Frame.numbers" zcb)(a55:FI K C9 "craft_of" f55)(i55:IF K f55)(l55:FQ K f55 "craft_of" "Run.craft_of" zcB)(a56:FI K C9 "is_behind_last_deed" f56)(i56:IF K f56)(l56:FQ K f56 "is_behind_last_deed" "Run.is_behind_last_deed" za1)(a57:NI K "first_unmet" f57)(l57:FQ K f57 "first_unmet" "first_unmet" zcV)(a58:FI K C9 "meets" f58)(i58:IF K f58)(l58:FQ K f58 "meets" "Run.meets" zdW)(a59:FI K C9 "take" f59)(i59:IF K f59)(l59:FQ K f59 "take" "Run.take" zeH)(a60:FI K C9 "leave" f60)(i60:IF K f60)(l60:FQ K f60 "leave" "Run.leave" zdV)(a61:FI K C9 "meet_notes" f61)(i61:IF K f61)(l61:FQ K f61 "meet_notes" "Run.meet_notes" zb0)(a62:FI K C9 "come_to" f62)(i62:IF K f62)(l62:FQ K f62 "come_to" "Run.come_to" zcU)(a63:FI K C9 "begin" f63)(i63:IF K f63)(l63:FQ K f63 "begin" "Run.begin" zdU)(a64:NI K "asked_numbers" f64)(l64:FQ K f64 "asked_numbers" "asked_numbers" zcc)(a65:FI K C9 "__init__" f65)(i65:IF K f65)(l65:FQ K f65 "__init__" "Run.__init__" zcA)(a66:FI K C9 "put" f66)(i66:IF K f66)(l66:FQ K f66 "put" "Run.put" zfe)(a67:FI K C9 "draw" f67)(i67:IF K f67)(l67:FQ K f67 "draw" "Run.draw" zeE)(a68:FI K C9 "hold" f68)(i68:IF K f68)(l68:FQ K f68 "hold" "Run.hold" zeF)(a69:FI K C9 "call" f69)(i69:IF K f69)(l69:FQ K f69 "call" "Run.call" zeG)(a70:FI K C9 "step" f70)(i70:IF K f70)(l70:FQ K f70 "step" "Run.step" zeD)(a71:FI K C9 "go" f71)(i71:IF K f71)(l71:FQ K f71 "go" "Run.go" zgn)(a72:NI K "_law_cell_at" f72)(l72:FQ K f72 "_law_cell_at" "_law_cell_at" zdX)(a73:NI K "_law_which" f73)(l73:FQ K f73 "_law_which" "_law_which" zff)(a74:NI K "_law_met" f74)(l74:FQ K f74 "_law_met" "_law_met" zih)(a75:NI K "law" f75)(l75:FQ K f75 "law" "law" ziU)(z_ValueError:nsIn K mainGlobals "ValueError"=some none)(z_all:nsIn K mainGlobals "all"=some none)(z_any:nsIn K mainGlobals "any"=some none)(z_enumerate:nsIn K mainGlobals "enumerate"=some none)(z_isinstance:nsIn K mainGlobals "isinstance"=some none)(z_len:nsIn K mainGlobals "len"=some none)(z_list:nsIn K mainGlobals "list"=some none)(z_min:nsIn K mainGlobals "min"=some none)(z_range:nsIn K mainGlobals "range"=some none)(z_sorted:nsIn K mainGlobals "sorted"=some none)(z_tuple:nsIn K mainGlobals "tuple"=some none)(z_zip:nsIn K mainGlobals "zip"=some none)(y_NUMBERS:nsIn K mainGlobals "NUMBERS"=some (some (.int 9 t_NUMBERS)))(y_FACTORS:nsIn K mainGlobals "FACTORS"=some (some (.int 8 t_FACTORS)))(y_HAND_SPOTS:NI K "HAND_SPOTS" a_HAND_SPOTS)(x_HAND_SPOTS:K.lookup a_HAND_SPOTS=some ⟨.type "tuple",dd_HAND_SPOTS,.seq #[.int 1 t_HAND_SPOTS_0,.int 2 t_HAND_SPOTS_1,.int 3 t_HAND_SPOTS_2,.int 4 t_HAND_SPOTS_3] n_HAND_SPOTS,ss_HAND_SPOTS⟩)(y_LEFT_SPOTS:NI K "LEFT_SPOTS" a_LEFT_SPOTS)(x_LEFT_SPOTS:K.lookup a_LEFT_SPOTS=some ⟨.type "tuple",dd_LEFT_SPOTS,.seq #[.int 7 t_LEFT_SPOTS_0,.int 8 t_LEFT_SPOTS_1] n_LEFT_SPOTS,ss_LEFT_SPOTS⟩)(y_LEFT_AS_HANDS:NI K "LEFT_AS_HANDS" a_LEFT_AS_HANDS)(x_LEFT_AS_HANDS:K.lookup a_LEFT_AS_HANDS=some ⟨.type "tuple",dd_LEFT_AS_HANDS,.seq #[.int 0 t_LEFT_AS_HANDS_0,.int 1 t_LEFT_AS_HANDS_1,.int 2 t_LEFT_AS_HANDS_2,.int 3 t_LEFT_AS_HANDS_3,.int 4 t_LEFT_AS_HANDS_4,.int 5 t_LEFT_AS_HANDS_5,.int 0 t_LEFT_AS_HANDS_6,.int 1 t_LEFT_AS_HANDS_7] n_LEFT_AS_HANDS,ss_LEFT_AS_HANDS⟩)(y_MOST_LINES:nsIn K mainGlobals "MOST_LINES"=some (some (.int 2 t_MOST_LINES)))(y_MOST_DEEDS:nsIn K mainGlobals "MOST_DEEDS"=some (some (.int 8 t_MOST_DEEDS)))(y_LAST_HAND:nsIn K mainGlobals "LAST_HAND"=some (some (.int 3 t_LAST_HAND)))(y_LAST_NUMBER:nsIn K mainGlobals "LAST_NUMBER"=some (some (.int 99 t_LAST_NUMBER)))(y_GREATEST_BY:nsIn K mainGlobals "GREATEST_BY"=some (some (.int 1000 t_GREATEST_BY)))(y_GREATEST:nsIn K mainGlobals "GREATEST"=some (some (.int 1000000000 t_GREATEST)))(y_ASKED_0:nsIn K mainGlobals "ASKED_0"=some (some (.int 4 t_ASKED_0)))(y_ASKED_1:nsIn K mainGlobals "ASKED_1"=some (some (.int 5 t_ASKED_1)))(y_NEW_0:nsIn K mainGlobals "NEW_0"=some (some (.int 6 t_NEW_0)))(y_NEW_1:nsIn K mainGlobals "NEW_1"=some (some (.int 7 t_NEW_1)))(y_WHOLES:NI K "WHOLES" a_WHOLES)(x_WHOLES:K.lookup a_WHOLES=some ⟨.type "tuple",dd_WHOLES,.seq #[.int 1 t_WHOLES_0,.int 2 t_WHOLES_1,.int 3 t_WHOLES_2,.int 4 t_WHOLES_3] n_WHOLES,ss_WHOLES⟩)(y_MOST_FRAMES:nsIn K mainGlobals "MOST_FRAMES"=some (some (.int 20 t_MOST_FRAMES)))(oC1:K.lookup C1=some (PySem.excClassObj xn1 xq1 C1 xN1 xb1 zaR xh1 xl1 xs1 xa1 xc1 xd1 x0_1 x1_1 x2_1 x3_1 x5_1 "ValueError.__new__"))(xC1:excIn K C1 zaR "ValueError.__new__"=true)(gC1:findIn K (.ref C1) "__getattribute__"=some (some (.builtin "BaseException.__getattribute__")))(kC1:findIn K (.ref C1) "__getattr__"=some none)(fC1:findIn K (.ref C1) "__class__"=some (some (.builtin "object.__class__")))(rC1:PySem.W.mroIn K C1 (.type "object")=some true)(bC1:PySem.W.mroIn K C1 (.type "BaseException")=some true)(oC2:K.lookup C2=some (PySem.excClassObj xn2 xq2 C2 xN2 xb2 (.ref C1::zaR) xh2 xl2 xs2 xa2 xc2 xd2 x0_2 x1_2 x2_2 x3_2 x5_2 "ValueError.__new__"))(xC2:excIn K C2 zaR "ValueError.__new__"=true)(gC2:findIn K (.ref C2) "__getattribute__"=some (some (.builtin "BaseException.__getattribute__")))(kC2:findIn K (.ref C2) "__getattr__"=some none)(fC2:findIn K (.ref C2) "__class__"=some (some (.builtin "object.__class__")))(rC2:PySem.W.mroIn K C2 (.type "object")=some true)(bC2:PySem.W.mroIn K C2 (.type "BaseException")=some true)(oC3:K.lookup C3=some (PySem.excClassObj xn3 xq3 C3 xN3 xb3 (.ref C1::zaR) xh3 xl3 xs3 xa3 xc3 xd3 x0_3 x1_3 x2_3 x3_3 x5_3 "ValueError.__new__"))(xC3:excIn K C3 zaR "ValueError.__new__"=true)(gC3:findIn K (.ref C3) "__getattribute__"=some (some (.builtin "BaseException.__getattribute__")))(kC3:findIn K (.ref C3) "__getattr__"=some none)(fC3:findIn K (.ref C3) "__class__"=some (some (.builtin "object.__class__")))(rC3:PySem.W.mroIn K C3 (.type "object")=some true)(bC3:PySem.W.mroIn K C3 (.type "BaseException")=some true)(oC4:K.lookup C4=some (PySem.excClassObj xn4 xq4 C4 xN4 xb4 (.ref C1::zaR) xh4 xl4 xs4 xa4 xc4 xd4 x0_4 x1_4 x2_4 x3_4 x5_4 "ValueError.__new__"))(xC4:excIn K C4 zaR "ValueError.__new__"=true)(gC4:findIn K (.ref C4) "__getattribute__"=some (some (.builtin "BaseException.__getattribute__")))(kC4:findIn K (.ref C4) "__getattr__"=some none)(fC4:findIn K (.ref C4) "__class__"=some (some (.builtin "object.__class__")))(rC4:PySem.W.mroIn K C4 (.type "object")=some true)(bC4:PySem.W.mroIn K C4 (.type "BaseException")=some true)(oC5:K.lookup C5=some (PySem.excClassObj xn5 xq5 C5 xN5 xb5 (.ref C1::zaR) xh5 xl5 xs5 xa5 xc5 xd5 x0_5 x1_5 x2_5 x3_5 x5_5 "ValueError.__new__"))(xC5:excIn K C5 zaR "ValueError.__new__"=true)(gC5:findIn K (.ref C5) "__getattribute__"=some (some (.builtin "BaseException.__getattribute__")))(kC5:findIn K (.ref C5) "__getattr__"=some none)(fC5:findIn K (.ref C5) "__class__"=some (some (.builtin "object.__class__")))(rC5:PySem.W.mroIn K C5 (.type "object")=some true)(bC5:PySem.W.mroIn K C5 (.type "BaseException")=some true)(oC6:K.lookup C6=some (PySem.excClassObj xn6 xq6 C6 xN6 xb6 (.ref C1::zaR) xh6 xl6 xs6 xa6 xc6 xd6 x0_6 x1_6 x2_6 x3_6 x5_6 "ValueError.__new__"))(xC6:excIn K C6 zaR "ValueError.__new__"=true)(gC6:findIn K (.ref C6) "__getattribute__"=some (some (.builtin "BaseException.__getattribute__")))(kC6:findIn K (.ref C6) "__getattr__"=some none)(fC6:findIn K (.ref C6) "__class__"=some (some (.builtin "object.__class__")))(rC6:PySem.W.mroIn K C6 (.type "object")=some true)(bC6:PySem.W.mroIn K C6 (.type "BaseException")=some true)(pg0:PySem.W.plainGet K C0 Str.empty=true)(hd0:PySem.W.hasDictIn K C0=true)(po0:PySem.W.plainOver K C0=true)(sa0:findIn K (.ref C0) "__setattr__"=some (some (.builtin "object.__setattr__")))(mk0:makesIn K C0=true)(kc0:KI K C0)(na0_needs:findIn K (.ref C0) "needs"=some none)(na0_leaves:findIn K (.ref C0) "leaves"=some none)(na0_deeds:findIn K (.ref C0) "deeds"=some none)(na0_notes:findIn K (.ref C0) "notes"=some none)(pg7:PySem.W.plainGet K C7 Str.empty=true)(hd7:PySem.W.hasDictIn K C7=true)(po7:PySem.W.plainOver K C7=true)(sa7:findIn K (.ref C7) "__setattr__"=some (some (.builtin "object.__setattr__")))(mk7:makesIn K C7=true)(kc7:KI K C7)(na7_laid:findIn K (.ref C7) "laid"=some none)(na7_vouched:findIn K (.ref C7) "vouched"=some none)(pg8:PySem.W.plainGet K C8 Str.empty=true)(hd8:PySem.W.hasDictIn K C8=true)(po8:PySem.W.plainOver K C8=true)(sa8:findIn K (.ref C8) "__setattr__"=some (some (.builtin "object.__setattr__")))(mk8:makesIn K C8=true)(kc8:KI K C8)(na8_number:findIn K (.ref C8) "number"=some none)(na8_place:findIn K (.ref C8) "place"=some none)(na8_hands:findIn K (.ref C8) "hands"=some none)(na8_asked:findIn K (.ref C8) "asked"=some none)(pg9:PySem.W.plainGet K C9 Str.empty=true)(hd9:PySem.W.hasDictIn K C9=true)(po9:PySem.W.plainOver K C9=true)(sa9:findIn K (.ref C9) "__setattr__"=some (some (.builtin "object.__setattr__")))(mk9:makesIn K C9=true)(kc9:KI K C9)(na9_known:findIn K (.ref C9) "known"=some none)(na9_inputs_left:findIn K (.ref C9) "inputs_left"=some none)(na9_stack:findIn K (.ref C9) "stack"=some none)(na9_steps_done:findIn K (.ref C9) "steps_done"=some none)(na9_ending:findIn K (.ref C9) "ending"=some none)(sC:PySem.W.specialIn K (.builtin "object.__class__") "__get__"=some (some (.builtin "getset_descriptor.__get__")))(tC:PySem.W.takesIn K (.builtin "object.__class__")=some true)(nd:[C1,C2,C3,C4,C5,C6].Nodup):
  ∃ fd:FuncData,(∀ (s:Shared) (v:Value),BindsTo s fd ⟨[v],[]⟩ [("script",v)])/\∀ b8:Heap,K.In b8->b8.Ns mainGlobals mg->FnOk l.prog w K mg b8 CX0 11 fa fd ["script"] (Q7e K):=by
 have e:=hfa.symm.trans (mg_of X G a75)
 cases e
 have B:Bl K mg:=⟨mg_none_of X G z_ValueError,mg_none_of X G z_all,mg_none_of X G z_any,mg_none_of X G z_enumerate,mg_none_of X G z_isinstance,mg_none_of X G z_len,mg_none_of X G z_list,mg_none_of X G z_min,mg_none_of X G z_range,mg_none_of X G z_sorted,mg_none_of X G z_tuple,mg_none_of X G z_zip,⟨_,mg_of X G y_NUMBERS⟩,⟨_,mg_of X G y_FACTORS⟩,⟨_,mg_of X G y_MOST_LINES⟩,⟨_,mg_of X G y_MOST_DEEDS⟩,⟨_,mg_of X G y_LAST_HAND⟩,⟨_,mg_of X G y_LAST_NUMBER⟩,⟨_,mg_of X G y_GREATEST_BY⟩,⟨_,mg_of X G y_GREATEST⟩,⟨_,mg_of X G y_ASKED_0⟩,⟨_,mg_of X G y_ASKED_1⟩,⟨_,mg_of X G y_NEW_0⟩,⟨_,mg_of X G y_NEW_1⟩,⟨_,mg_of X G y_MOST_FRAMES⟩,⟨_,mg_of X G y_HAND_SPOTS,λ_=>.inr ⟨_,_,_,x_HAND_SPOTS,rfl,rfl,zao (by simp),.cons ⟨_,rfl⟩ (.cons ⟨_,rfl⟩ (.cons ⟨_,rfl⟩ (.cons ⟨_,rfl⟩ (.nil))))⟩⟩,⟨_,mg_of X G y_LEFT_SPOTS,λ_=>.inr ⟨_,_,_,x_LEFT_SPOTS,rfl,rfl,zao (by simp),.cons ⟨_,rfl⟩ (.cons ⟨_,rfl⟩ (.nil))⟩⟩,⟨_,mg_of X G y_LEFT_AS_HANDS,λ_=>.inr ⟨_,_,_,x_LEFT_AS_HANDS,rfl,rfl,zao (by simp),.cons ⟨_,rfl⟩ (.cons ⟨_,rfl⟩ (.cons ⟨_,rfl⟩ (.cons ⟨_,rfl⟩ (.cons ⟨_,rfl⟩ (.cons ⟨_,rfl⟩ (.cons ⟨_,rfl⟩ (.cons ⟨_,rfl⟩ (.nil))))))))⟩⟩,⟨_,mg_of X G y_WHOLES,λ_=>.inr ⟨_,_,_,x_WHOLES,rfl,rfl,zao (by simp),.cons ⟨_,rfl⟩ (.cons ⟨_,rfl⟩ (.cons ⟨_,rfl⟩ (.cons ⟨_,rfl⟩ (.nil))))⟩⟩⟩
 have Z:Zt K mg (λi=>[C0,C1,C2,C3,C4,C5,C6,C7,C8,C9].getD i 0):=⟨⟨pg0,hd0,po0,sa0⟩,mg_of X G aC0,na0_needs,na0_leaves,na0_deeds,na0_notes,⟨⟨_,_,_,_,_,_,_,_,_,_,_,_,_,_,_,oC1⟩,xC1⟩,mg_of X G aC1,⟨gC1,kC1,fC1,sC,tC,rC1,bC1⟩,⟨⟨_,_,_,_,_,_,_,_,_,_,_,_,_,_,_,oC2⟩,xC2⟩,mg_of X G aC2,⟨gC2,kC2,fC2,sC,tC,rC2,bC2⟩,⟨⟨_,_,_,_,_,_,_,_,_,_,_,_,_,_,_,oC3⟩,xC3⟩,mg_of X G aC3,⟨gC3,kC3,fC3,sC,tC,rC3,bC3⟩,⟨⟨_,_,_,_,_,_,_,_,_,_,_,_,_,_,_,oC4⟩,xC4⟩,mg_of X G aC4,⟨gC4,kC4,fC4,sC,tC,rC4,bC4⟩,⟨⟨_,_,_,_,_,_,_,_,_,_,_,_,_,_,_,oC5⟩,xC5⟩,mg_of X G aC5,⟨gC5,kC5,fC5,sC,tC,rC5,bC5⟩,⟨⟨_,_,_,_,_,_,_,_,_,_,_,_,_,_,_,oC6⟩,xC6⟩,mg_of X G aC6,⟨gC6,kC6,fC6,sC,tC,rC6,bC6⟩,⟨pg7,hd7,po7,sa7⟩,mg_of X G aC7,na7_laid,na7_vouched,⟨pg8,hd8,po8,sa8⟩,mg_of X G aC8,na8_number,na8_place,na8_hands,na8_asked,⟨pg9,hd9,po9,sa9⟩,mg_of X G aC9,na9_known,na9_inputs_left,na9_stack,na9_steps_done,na9_ending,nd⟩
 obtain⟨_,F1⟩:=zaK l1
 obtain⟨_,F2⟩:=zaK l2
 obtain⟨_,F3⟩:=zaK l3
 obtain⟨_,F4⟩:=zaK l4
 obtain⟨_,F5⟩:=zaK l5
 obtain⟨_,F6⟩:=zaK l6
 obtain⟨_,F7⟩:=zaK l7
 obtain⟨_,F8⟩:=zaK l8
 obtain⟨_,F9⟩:=zaK l9
 obtain⟨_,F10⟩:=zaK l10
 obtain⟨_,F11⟩:=zaK l11
 obtain⟨_,F12⟩:=zaK l12
 obtain⟨_,F13⟩:=zaK l13
 obtain⟨_,F14⟩:=zaK l14
 obtain⟨_,F15⟩:=zaK l15
 obtain⟨_,F16⟩:=zaK l16
 obtain⟨_,F17⟩:=zaK l17
 obtain⟨_,F18⟩:=zaK l18
 obtain⟨_,F19⟩:=zaK l19
 obtain⟨_,F20⟩:=zaK l20
 obtain⟨_,F21⟩:=zaK l21
 obtain⟨_,F22⟩:=zaK l22
 obtain⟨_,F23⟩:=zaK l23
 obtain⟨_,F24⟩:=zaK l24
 obtain⟨_,F25⟩:=zaK l25
 obtain⟨_,F26⟩:=zaK l26
 obtain⟨_,F27⟩:=zaK l27
 obtain⟨_,F28⟩:=zaK l28
 obtain⟨_,F29⟩:=zaK l29
 obtain⟨_,F30⟩:=zaK l30
 obtain⟨_,F31⟩:=zaK l31
 obtain⟨_,F32⟩:=zaK l32
 obtain⟨_,F33⟩:=zaK l33
 obtain⟨_,F34⟩:=zaK l34
 obtain⟨_,F35⟩:=zaK l35
 obtain⟨_,F36⟩:=zaK l36
 obtain⟨_,F37⟩:=zaK l37
 obtain⟨_,F38⟩:=zaK l38
 obtain⟨_,F39⟩:=zaK l39
 obtain⟨_,F40⟩:=zaK l40
 obtain⟨_,F41⟩:=zaK l41
 obtain⟨_,F42⟩:=zaK l42
 obtain⟨_,F43⟩:=zaK l43
 obtain⟨_,F44⟩:=zaK l44
 obtain⟨_,F45⟩:=zaK l45
 obtain⟨_,F46⟩:=zaK l46
 obtain⟨_,F47⟩:=zaK l47
 obtain⟨_,F48⟩:=zaK l48
 obtain⟨_,F49⟩:=zaK l49
 obtain⟨_,F50⟩:=zaK l50
 obtain⟨_,F51⟩:=zaK l51
 obtain⟨_,F52⟩:=zaK l52
 obtain⟨_,F53⟩:=zaK l53
 obtain⟨_,F54⟩:=zaK l54
 obtain⟨_,F55⟩:=zaK l55
 obtain⟨_,F56⟩:=zaK l56
 obtain⟨_,F57⟩:=zaK l57
 obtain⟨_,F58⟩:=zaK l58
 obtain⟨_,F59⟩:=zaK l59
 obtain⟨_,F60⟩:=zaK l60
 obtain⟨_,F61⟩:=zaK l61
 obtain⟨_,F62⟩:=zaK l62
 obtain⟨_,F63⟩:=zaK l63
 obtain⟨_,F64⟩:=zaK l64
 obtain⟨_,F65⟩:=zaK l65
 obtain⟨_,F66⟩:=zaK l66
 obtain⟨_,F67⟩:=zaK l67
 obtain⟨_,F68⟩:=zaK l68
 obtain⟨_,F69⟩:=zaK l69
 obtain⟨_,F70⟩:=zaK l70
 obtain⟨_,F71⟩:=zaK l71
 obtain⟨_,F72⟩:=zaK l72
 obtain⟨_,F73⟩:=zaK l73
 obtain⟨_,F74⟩:=zaK l74
 obtain⟨_,_,_,kV,dc,pm,an,cd,ct,l75,c75,k75⟩:=l75
 have F75:=zoV (st:=ziU) l75 c75 k75
 refine⟨fnOf "law" "law" (zdy ziU) (zb4 ziU) (zaf ziU) .none kV dc pm an cd ct,λs v=>.of_eq rfl,λb8 _ _=>?_⟩
 have G1:=zhk (P:=l.prog) (w:=w) (b8:=b8) B Z  F1 (mg_of X G a1)
 have G2:=zhC (P:=l.prog) (w:=w) (b8:=b8) B Z  F2 (mg_of X G a2)
 have G3:=zoy (P:=l.prog) (w:=w) (b8:=b8) B Z G1 G2 F3 ⟨mk0,a3,i3,kc0⟩
 have G4:=zoz (P:=l.prog) (w:=w) (b8:=b8) B Z  F4 (mg_of X G a4)
 have G5:=zoA (P:=l.prog) (w:=w) (b8:=b8) B Z G4 F5 (mg_of X G a5)
 have G6:=zqi (P:=l.prog) (w:=w) (b8:=b8) B Z  F6 (mg_of X G a6)
 have G7:=znt (P:=l.prog) (w:=w) (b8:=b8) B Z  F7 (mg_of X G a7)
 have G8:=znu (P:=l.prog) (w:=w) (b8:=b8) B Z G7 F8 (mg_of X G a8)
 have G9:=zhl (P:=l.prog) (w:=w) (b8:=b8) B Z G3 F9 (mg_of X G a9)
 have G10:=zjO (P:=l.prog) (w:=w) (b8:=b8) B Z  F10 (mg_of X G a10)
 have G11:=zlW (P:=l.prog) (w:=w) (b8:=b8) B Z  F11 (mg_of X G a11)
 have G12:=zhm (P:=l.prog) (w:=w) (b8:=b8) B Z G11 F12 (mg_of X G a12)
 have G13:=ziI (P:=l.prog) (w:=w) (b8:=b8) B Z G12 F13 (mg_of X G a13)
 have G14:=zhD (P:=l.prog) (w:=w) (b8:=b8) B Z G13 F14 (mg_of X G a14)
 have G15:=ziJ (P:=l.prog) (w:=w) (b8:=b8) B Z G14 F15 (mg_of X G a15)
 have G16:=ziK (P:=l.prog) (w:=w) (b8:=b8) B Z G11 F16 (mg_of X G a16)
 have G17:=zfF (P:=l.prog) (w:=w) (b8:=b8) B Z G16 F17 (mg_of X G a17)
 have G18:=ziL (P:=l.prog) (w:=w) (b8:=b8) B Z G17 G11 F18 (mg_of X G a18)
 have G19:=zhE (P:=l.prog) (w:=w) (b8:=b8) B Z G12 F19 (mg_of X G a19)
 have G20:=ziN (P:=l.prog) (w:=w) (b8:=b8) B Z G18 G13 G16 G11 G19 F20 (mg_of X G a20)
 have G21:=zhF (P:=l.prog) (w:=w) (b8:=b8) B Z G11 G20 F21 (mg_of X G a21)
 have G22:=zhG (P:=l.prog) (w:=w) (b8:=b8) B Z G14 F22 (mg_of X G a22)
 have G23:=zoD (P:=l.prog) (w:=w) (b8:=b8) B Z G15 G21 G22 F23 (mg_of X G a23)
 have G24:=znx (P:=l.prog) (w:=w) (b8:=b8) B Z G11 G1 G6 G8 F24 (mg_of X G a24)
 have G25:=ziP (P:=l.prog) (w:=w) (b8:=b8) B Z G6 F25 (mg_of X G a25)
 have G26:=zjQ (P:=l.prog) (w:=w) (b8:=b8) B Z G1 F26 (mg_of X G a26)
 have G27:=ziQ (P:=l.prog) (w:=w) (b8:=b8) B Z G8 F27 (mg_of X G a27)
 have G28:=zkG (P:=l.prog) (w:=w) (b8:=b8) B Z  F28 (mg_of X G a28)
 have G29:=zho (P:=l.prog) (w:=w) (b8:=b8) B Z G25 G26 G27 G6 G28 G24 F29 (mg_of X G a29)
 have G30:=zhH (P:=l.prog) (w:=w) (b8:=b8) B Z G25 G26 G27 G6 F30 (mg_of X G a30)
 have G31:=zhI (P:=l.prog) (w:=w) (b8:=b8) B Z G7 G26 G27 G6 G28 G25 F31 (mg_of X G a31)
 have G32:=zhJ (P:=l.prog) (w:=w) (b8:=b8) B Z G7 G26 G27 G6 G28 G25 F32 (mg_of X G a32)
 have G33:=zhK (P:=l.prog) (w:=w) (b8:=b8) B Z G7 G26 G28 F33 (mg_of X G a33)
 have G34:=zhL (P:=l.prog) (w:=w) (b8:=b8) B Z G24 G30 G26 G31 G32 G33 G27 G25 F34 (mg_of X G a34)
 have G35:=znA (P:=l.prog) (w:=w) (b8:=b8) B Z G10 G29 G34 F35 (mg_of X G a35)
 have G36:=zoF (P:=l.prog) (w:=w) (b8:=b8) B Z G7 F36 (mg_of X G a36)
 have G37:=zfb (P:=l.prog) (w:=w) (b8:=b8) B Z  F37 (mg_of X G a37)
 have G38:=znC (P:=l.prog) (w:=w) (b8:=b8) B Z G37 G36 F38 (mg_of X G a38)
 have G39:=zqm (P:=l.prog) (w:=w) (b8:=b8) B Z  F39 ⟨mk7,a39,i39,kc7⟩
 have G40:=zhp (P:=l.prog) (w:=w) (b8:=b8) B Z  F40 ⟨a40,i40,F40.kp⟩
 have G41:=zfY (P:=l.prog) (w:=w) (b8:=b8) B Z G10 F41 ⟨a41,i41,F41.kp⟩
 have G42:=zd9 (P:=l.prog) (w:=w) (b8:=b8) B Z G41 G40 F42 ⟨a42,i42,F42.kp⟩
 have G43:=zjR (P:=l.prog) (w:=w) (b8:=b8) B Z  F43 (mg_of X G a43)
 have G44:=zkI (P:=l.prog) (w:=w) (b8:=b8) B Z G40 G9 G23 G42 G43 F44 ⟨a44,i44,F44.kp⟩
 have G45:=zgg (P:=l.prog) (w:=w) (b8:=b8) B Z  F45 ⟨a45,i45,F45.kp⟩
 have G46:=zhM (P:=l.prog) (w:=w) (b8:=b8) B Z G45 G9 F46 ⟨a46,i46,F46.kp⟩
 have G47:=zjS (P:=l.prog) (w:=w) (b8:=b8) B Z G36 F47 (mg_of X G a47)
 have G48:=zfG (P:=l.prog) (w:=w) (b8:=b8) B Z  F48 ⟨a48,i48,F48.kp⟩
 have G49:=zfZ (P:=l.prog) (w:=w) (b8:=b8) B Z G48 G35 F49 ⟨a49,i49,F49.kp⟩
 have G50:=ziS (P:=l.prog) (w:=w) (b8:=b8) B Z G47 G49 F50 ⟨a50,i50,F50.kp⟩
 have G51:=zjT (P:=l.prog) (w:=w) (b8:=b8) B Z G38 G49 F51 ⟨a51,i51,F51.kp⟩
 have G52:=zjU (P:=l.prog) (w:=w) (b8:=b8) B Z  F52 ⟨a52,i52,F52.kp⟩
 have G53:=zoH (P:=l.prog) (w:=w) (b8:=b8) B Z  F53 ⟨mk8,a53,i53,kc8⟩
 have G54:=zgh (P:=l.prog) (w:=w) (b8:=b8) B Z  F54 ⟨a54,i54,F54.kp⟩
 have G55:=zhq (P:=l.prog) (w:=w) (b8:=b8) B Z  F55 ⟨a55,i55,F55.kp⟩
 have G56:=zdf (P:=l.prog) (w:=w) (b8:=b8) B Z G55 F56 ⟨a56,i56,F56.kp⟩
 have G57:=zhO (P:=l.prog) (w:=w) (b8:=b8) B Z G5 F57 (mg_of X G a57)
 have G58:=zjV (P:=l.prog) (w:=w) (b8:=b8) B Z G57 F58 ⟨a58,i58,F58.kp⟩
 have G59:=zkJ (P:=l.prog) (w:=w) (b8:=b8) B Z G55 F59 ⟨a59,i59,F59.kp⟩
 have G60:=zjW (P:=l.prog) (w:=w) (b8:=b8) B Z G58 G59 G54 G55 F60 ⟨a60,i60,F60.kp⟩
 have G61:=zf1 (P:=l.prog) (w:=w) (b8:=b8) B Z G58 G54 G55 F61 ⟨a61,i61,F61.kp⟩
 have G62:=zhP (P:=l.prog) (w:=w) (b8:=b8) B Z G56 G60 G61 F62 ⟨a62,i62,F62.kp⟩
 have G63:=zjX (P:=l.prog) (w:=w) (b8:=b8) B Z G62 G53 F63 ⟨a63,i63,F63.kp⟩
 have G64:=zgi (P:=l.prog) (w:=w) (b8:=b8) B Z  F64 (mg_of X G a64)
 have G65:=zr1 (P:=l.prog) (w:=w) (b8:=b8) B Z G46 G63 G57 G64 F65 ⟨mk9,a65,i65,kc9⟩
 have G66:=zlY (P:=l.prog) (w:=w) (b8:=b8) B Z G62 F66 ⟨a66,i66,F66.kp⟩
 have G67:=zkK (P:=l.prog) (w:=w) (b8:=b8) B Z G66 F67 ⟨a67,i67,F67.kp⟩
 have G68:=zkL (P:=l.prog) (w:=w) (b8:=b8) B Z G58 G54 G62 F68 ⟨a68,i68,F68.kp⟩
 have G69:=zkM (P:=l.prog) (w:=w) (b8:=b8) B Z G58 G64 G63 F69 ⟨a69,i69,F69.kp⟩
 have G70:=zkN (P:=l.prog) (w:=w) (b8:=b8) B Z G66 G55 G4 G54 G67 G62 G68 G69 G5 F70 ⟨a70,i70,F70.kp⟩
 have G71:=znF (P:=l.prog) (w:=w) (b8:=b8) B Z G70 F71 ⟨a71,i71,F71.kp⟩
 have G72:=zjZ (P:=l.prog) (w:=w) (b8:=b8) B Z  F72 (mg_of X G a72)
 have G73:=zlZ (P:=l.prog) (w:=w) (b8:=b8) B Z  F73 (mg_of X G a73)
 have G74:=zoJ (P:=l.prog) (w:=w) (b8:=b8) B Z G44 G73 G3 G51 G50 G65 G35 G46 F74 (mg_of X G a74)
 exact zr2 B Z G39 G44 G72 G3 G71 G74 G45 G52 G65 F75
end My

open PySem PySem.W PyProof.Rows
open My L2
set_option maxRecDepth 1000000 in
set_option maxHeartbeats 0 in
theorem PySem.Challenge.cw_swornhall_k21_refusals_apart_holds : PySem.Challenge.rw_swornhall_k21_refusals_apart.Holds := by
  refine PySem.Challenge.hd_swornhall_k21_refusals_apart fun d kwd hdef => ?_
  obtain ⟨rfl, rfl⟩ := Prod.mk.inj (Option.some.inj ((show defOf My.Qv PySem.Challenge.rw_swornhall_k21_refusals_apart.row.name = some (_, _) from rfl).symm.trans hdef))
  refine L2.walk_ofE (l := PySem.Challenge.rw_swornhall_k21_refusals_apart) (n := 63) (k := 11) (x := "script") (CX := L2.CX0) (sp := My.Q7e) (S := fun K => ((My.zBoo K).all id, My.zSee K) = (true, My.zSig)) rfl (by decide) rfl ⟨rfl, by decide, by decide, rfl⟩ (fun w h Y => Y) ?F (fun _ _ a ns hl _ hS => ⟨a, ns, rfl, hS, hl, fun _ => rfl⟩) (fun _ _ _ _ z => z)
  intro w K mg fa h hA KX G hmg
  obtain⟨_,_,_,xa_HAND_SPOTS⟩:=L2.tup_of (bA hA 205 rfl)
  obtain⟨_,_,_,xa_LEFT_SPOTS⟩:=L2.tup_of (bA hA 207 rfl)
  obtain⟨_,_,_,xa_LEFT_AS_HANDS⟩:=L2.tup_of (bA hA 209 rfl)
  obtain⟨_,_,_,xa_WHOLES⟩:=L2.tup_of (bA hA 221 rfl)
  obtain⟨_,_,_,_,_,_,_,_,_,_,_,_,_,_,_,o1⟩:=L2.exc_of (bA hA 223 rfl)
  obtain⟨_,_,_,_,_,_,_,_,_,_,_,_,_,_,_,o2⟩:=L2.exc_of (bA hA 230 rfl)
  obtain⟨_,_,_,_,_,_,_,_,_,_,_,_,_,_,_,o3⟩:=L2.exc_of (bA hA 237 rfl)
  obtain⟨_,_,_,_,_,_,_,_,_,_,_,_,_,_,_,o4⟩:=L2.exc_of (bA hA 244 rfl)
  obtain⟨_,_,_,_,_,_,_,_,_,_,_,_,_,_,_,o5⟩:=L2.exc_of (bA hA 251 rfl)
  obtain⟨_,_,_,_,_,_,_,_,_,_,_,_,_,_,_,o6⟩:=L2.exc_of (bA hA 258 rfl)
  exact My.all_mk KX G hmg (eA hA 0 rfl) (eA hA 1 rfl) (eA hA 2 rfl) (eA hA 3 rfl) (eA hA 4 rfl) (eA hA 5 rfl) (eA hA 6 rfl) (eA hA 7 rfl) (eA hA 8 rfl) (eA hA 9 rfl) (eA hA 10 rfl) (fA hA 0 11 79 _ _ _ rfl rfl rfl) (eA hA 12 rfl) (fA hA 1 13 84 _ _ _ rfl rfl rfl) (eA hA 14 rfl) (bA hA 15 rfl) (fA hA 2 16 67 _ _ _ rfl rfl rfl) (eA hA 17 rfl) (fA hA 3 18 28 _ _ _ rfl rfl rfl) (eA hA 19 rfl) (fA hA 4 20 35 _ _ _ rfl rfl rfl) (eA hA 21 rfl) (fA hA 5 22 40 _ _ _ rfl rfl rfl) (eA hA 23 rfl) (fA hA 6 24 45 _ _ _ rfl rfl rfl) (eA hA 25 rfl) (fA hA 7 26 52 _ _ _ rfl rfl rfl) (eA hA 27 rfl) (fA hA 8 28 91 _ _ _ rfl rfl rfl) (eA hA 29 rfl) (fA hA 9 30 96 _ _ _ rfl rfl rfl) (eA hA 31 rfl) (fA hA 10 32 177 _ _ _ rfl rfl rfl) (eA hA 33 rfl) (fA hA 11 34 170 _ _ _ rfl rfl rfl) (eA hA 35 rfl) (fA hA 12 36 130 _ _ _ rfl rfl rfl) (eA hA 37 rfl) (fA hA 13 38 125 _ _ _ rfl rfl rfl) (eA hA 39 rfl) (fA hA 14 40 110 _ _ _ rfl rfl rfl) (eA hA 41 rfl) (fA hA 15 42 163 _ _ _ rfl rfl rfl) (eA hA 43 rfl) (fA hA 16 44 156 _ _ _ rfl rfl rfl) (eA hA 45 rfl) (fA hA 17 46 151 _ _ _ rfl rfl rfl) (eA hA 47 rfl) (fA hA 18 48 144 _ _ _ rfl rfl rfl) (eA hA 49 rfl) (fA hA 19 50 137 _ _ _ rfl rfl rfl) (eA hA 51 rfl) (fA hA 20 52 115 _ _ _ rfl rfl rfl) (eA hA 53 rfl) (fA hA 21 54 120 _ _ _ rfl rfl rfl) (eA hA 55 rfl) (fA hA 22 56 103 _ _ _ rfl rfl rfl) (eA hA 57 rfl) (fA hA 23 58 182 _ _ _ rfl rfl rfl) (eA hA 59 rfl) (fA hA 24 60 320 _ _ _ rfl rfl rfl) (eA hA 61 rfl) (fA hA 25 62 310 _ _ _ rfl rfl rfl) (eA hA 63 rfl) (fA hA 26 64 315 _ _ _ rfl rfl rfl) (eA hA 65 rfl) (fA hA 27 66 327 _ _ _ rfl rfl rfl) (eA hA 67 rfl) (fA hA 28 68 270 _ _ _ rfl rfl rfl) (eA hA 69 rfl) (fA hA 29 70 305 _ _ _ rfl rfl rfl) (eA hA 71 rfl) (fA hA 30 72 284 _ _ _ rfl rfl rfl) (eA hA 73 rfl) (fA hA 31 74 291 _ _ _ rfl rfl rfl) (eA hA 75 rfl) (fA hA 32 76 298 _ _ _ rfl rfl rfl) (eA hA 77 rfl) (fA hA 33 78 277 _ _ _ rfl rfl rfl) (eA hA 79 rfl) (fA hA 34 80 263 _ _ _ rfl rfl rfl) (eA hA 81 rfl) (fA hA 35 82 332 _ _ _ rfl rfl rfl) (eA hA 83 rfl) (fA hA 36 84 344 _ _ _ rfl rfl rfl) (eA hA 85 rfl) (fA hA 37 86 339 _ _ _ rfl rfl rfl) (eA hA 87 rfl) (bA hA 88 rfl) (fA hA 38 89 358 _ _ _ rfl rfl rfl) (eA hA 90 rfl) (bA hA 91 rfl) (fA hA 39 92 447 _ _ _ rfl rfl rfl) (eA hA 93 rfl) (bA hA 94 rfl) (fA hA 40 95 440 _ _ _ rfl rfl rfl) (eA hA 96 rfl) (bA hA 97 rfl) (fA hA 41 98 454 _ _ _ rfl rfl rfl) (eA hA 99 rfl) (fA hA 42 100 468 _ _ _ rfl rfl rfl) (eA hA 101 rfl) (bA hA 102 rfl) (fA hA 43 103 365 _ _ _ rfl rfl rfl) (eA hA 104 rfl) (bA hA 105 rfl) (fA hA 44 106 379 _ _ _ rfl rfl rfl) (eA hA 107 rfl) (bA hA 108 rfl) (fA hA 45 109 386 _ _ _ rfl rfl rfl) (eA hA 110 rfl) (fA hA 46 111 473 _ _ _ rfl rfl rfl) (eA hA 112 rfl) (bA hA 113 rfl) (fA hA 47 114 426 _ _ _ rfl rfl rfl) (eA hA 115 rfl) (bA hA 116 rfl) (fA hA 48 117 433 _ _ _ rfl rfl rfl) (eA hA 118 rfl) (bA hA 119 rfl) (fA hA 49 120 393 _ _ _ rfl rfl rfl) (eA hA 121 rfl) (bA hA 122 rfl) (fA hA 50 123 398 _ _ _ rfl rfl rfl) (eA hA 124 rfl) (bA hA 125 rfl) (fA hA 51 126 405 _ _ _ rfl rfl rfl) (eA hA 127 rfl) (bA hA 128 rfl) (fA hA 52 129 487 _ _ _ rfl rfl rfl) (eA hA 130 rfl) (bA hA 131 rfl) (fA hA 53 132 494 _ _ _ rfl rfl rfl) (eA hA 133 rfl) (bA hA 134 rfl) (fA hA 54 135 620 _ _ _ rfl rfl rfl) (eA hA 136 rfl) (bA hA 137 rfl) (fA hA 55 138 592 _ _ _ rfl rfl rfl) (eA hA 139 rfl) (fA hA 56 140 641 _ _ _ rfl rfl rfl) (eA hA 141 rfl) (bA hA 142 rfl) (fA hA 57 143 627 _ _ _ rfl rfl rfl) (eA hA 144 rfl) (bA hA 145 rfl) (fA hA 58 146 613 _ _ _ rfl rfl rfl) (eA hA 147 rfl) (bA hA 148 rfl) (fA hA 59 149 606 _ _ _ rfl rfl rfl) (eA hA 150 rfl) (bA hA 151 rfl) (fA hA 60 152 599 _ _ _ rfl rfl rfl) (eA hA 153 rfl) (bA hA 154 rfl) (fA hA 61 155 585 _ _ _ rfl rfl rfl) (eA hA 156 rfl) (bA hA 157 rfl) (fA hA 62 158 578 _ _ _ rfl rfl rfl) (eA hA 159 rfl) (fA hA 63 160 648 _ _ _ rfl rfl rfl) (eA hA 161 rfl) (bA hA 162 rfl) (fA hA 64 163 515 _ _ _ rfl rfl rfl) (eA hA 164 rfl) (bA hA 165 rfl) (fA hA 65 166 550 _ _ _ rfl rfl rfl) (eA hA 167 rfl) (bA hA 168 rfl) (fA hA 66 169 557 _ _ _ rfl rfl rfl) (eA hA 170 rfl) (bA hA 171 rfl) (fA hA 67 172 564 _ _ _ rfl rfl rfl) (eA hA 173 rfl) (bA hA 174 rfl) (fA hA 68 175 571 _ _ _ rfl rfl rfl) (eA hA 176 rfl) (bA hA 177 rfl) (fA hA 69 178 543 _ _ _ rfl rfl rfl) (eA hA 179 rfl) (bA hA 180 rfl) (fA hA 70 181 522 _ _ _ rfl rfl rfl) (eA hA 182 rfl) (fA hA 71 183 655 _ _ _ rfl rfl rfl) (eA hA 184 rfl) (fA hA 72 185 669 _ _ _ rfl rfl rfl) (eA hA 186 rfl) (fA hA 73 187 676 _ _ _ rfl rfl rfl) (eA hA 188 rfl) (fA hA 74 189 683 _ _ _ rfl rfl rfl) (eA hA 190 rfl) (eA hA 191 rfl) (eA hA 192 rfl) (eA hA 193 rfl) (eA hA 194 rfl) (eA hA 195 rfl) (eA hA 196 rfl) (eA hA 197 rfl) (eA hA 198 rfl) (eA hA 199 rfl) (eA hA 200 rfl) (eA hA 201 rfl) (eA hA 202 rfl) (eA hA 203 rfl) (eA hA 204 rfl) xa_HAND_SPOTS (eA hA 206 rfl) xa_LEFT_SPOTS (eA hA 208 rfl) xa_LEFT_AS_HANDS (eA hA 210 rfl) (eA hA 211 rfl) (eA hA 212 rfl) (eA hA 213 rfl) (eA hA 214 rfl) (eA hA 215 rfl) (eA hA 216 rfl) (eA hA 217 rfl) (eA hA 218 rfl) (eA hA 219 rfl) (eA hA 220 rfl) xa_WHOLES (eA hA 222 rfl) o1 (bA hA 224 rfl) (eA hA 225 rfl) (eA hA 226 rfl) (eA hA 227 rfl) (eA hA 228 rfl) (eA hA 229 rfl) o2 (bA hA 231 rfl) (eA hA 232 rfl) (eA hA 233 rfl) (eA hA 234 rfl) (eA hA 235 rfl) (eA hA 236 rfl) o3 (bA hA 238 rfl) (eA hA 239 rfl) (eA hA 240 rfl) (eA hA 241 rfl) (eA hA 242 rfl) (eA hA 243 rfl) o4 (bA hA 245 rfl) (eA hA 246 rfl) (eA hA 247 rfl) (eA hA 248 rfl) (eA hA 249 rfl) (eA hA 250 rfl) o5 (bA hA 252 rfl) (eA hA 253 rfl) (eA hA 254 rfl) (eA hA 255 rfl) (eA hA 256 rfl) (eA hA 257 rfl) o6 (bA hA 259 rfl) (eA hA 260 rfl) (eA hA 261 rfl) (eA hA 262 rfl) (eA hA 263 rfl) (eA hA 264 rfl) (bA hA 265 rfl) (bA hA 266 rfl) (bA hA 267 rfl) (eA hA 268 rfl) (bA hA 269 rfl) (bA hA 270 rfl) (eA hA 271 rfl) (eA hA 272 rfl) (eA hA 273 rfl) (eA hA 274 rfl) (bA hA 275 rfl) (bA hA 276 rfl) (bA hA 277 rfl) (eA hA 278 rfl) (bA hA 279 rfl) (bA hA 280 rfl) (eA hA 281 rfl) (eA hA 282 rfl) (bA hA 283 rfl) (bA hA 284 rfl) (bA hA 285 rfl) (eA hA 286 rfl) (bA hA 287 rfl) (bA hA 288 rfl) (eA hA 289 rfl) (eA hA 290 rfl) (eA hA 291 rfl) (eA hA 292 rfl) (bA hA 293 rfl) (bA hA 294 rfl) (bA hA 295 rfl) (eA hA 296 rfl) (bA hA 297 rfl) (bA hA 298 rfl) (eA hA 299 rfl) (eA hA 300 rfl) (eA hA 301 rfl) (eA hA 302 rfl) (eA hA 303 rfl) (eA hA 304 rfl) (eA hA 305 rfl) (by decide)

