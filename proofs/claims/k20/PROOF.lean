import PyProof.Rows.All
import Wide.All
import Wide.FinOn
import OpenK.KLine
import OpenK.KMore
import OpenK.KDescr
import OpenK.KOwn
import OpenK.KCls
import KE.KIsAll
import KE.KRevIter
import KE.KDictList
import KE.KIsNot
import KE.KItem
import KE.KDictSum
import KE.KDictOf
import KE.KxBytes
import KE.KFromBytes
import Open.FastRun
import PySem.Challenge.RW_swornhall_k20_held_by_other_rows
set_option Elab.async false
set_option linter.all false
set_option compiler.extract_closed false
set_option maxHeartbeats 0
set_option maxRecDepth 100000
abbrev Fg:=PySem.W.Frag
variable {i:Nat}
theorem zgm{α: Type _}{β: Type _}{f: α -> β}{l: List α}: (l.map f)[i]? = l[i]?.map f := List.getElem?_map
theorem zlm {α : Type _}{β : Type _}{as : List α}(f : α -> β) : (as.map f).length = as.length := List.length_map f
theorem zme {α : Type _}{β : Type _}{f : α -> β}{o : Option α}{b : β} : o.map f = some b ↔ ∃ a, o = some a /\ f a = b := Option.map_eq_some_iff
theorem zmg{α: Type _}{l: List α}{a: α}(e : l[i]? = some a): a ∈ l := List.mem_of_getElem? e
theorem zms {α : Type _}{a b : α} : a ∈ [b] ↔ a = b := List.mem_singleton
theorem zst {α : Type _}{l : List α} : l.toArray.size = l.length := List.size_toArray
theorem zma {α : Type _}{a : α}{s t : List α} : a ∈ s ++ t ↔ a ∈ s \/ a ∈ t := List.mem_append
theorem zge{α: Type _}{l: List α}{a: α}: l[i]? = some a ↔ ∃ h : i < l.length, l[i] = a := List.getElem?_eq_some_iff
theorem zmc {α : Type _}{β : Type _}{f : α -> β}{a : α}{l : List α} : (a :: l).map f = f a :: l.map f := List.map_cons
theorem zmm {α : Type _}{β : Type _}{f : α -> β}{l : List α}{b : β} : b ∈ l.map f ↔ ∃ a, a ∈ l /\ f a = b := List.mem_map
namespace L2
open PySem PySem.Spec PySem.Calls PyProof.Rows PySem.W
abbrev zbl:List Value:=[.type "ValueError",.type "Exception",.type "BaseException",.type "object"]
def zaU (s:Stmt)(j:Nat):Stmt:=match s with
 | .ClassDef _ _ _ body _ _ _ _ _ _ _=>body.getD j (.Pass ⟨0,0,0,0⟩)
 | _=>.Pass ⟨0,0,0,0⟩
def zdf (s:Stmt):Arguments:=match s with
 | .FunctionDef _ a _ _ _ _ _ _ _ _=>a
 | _=>{posonlyargs:=[],args:=[],vararg:=none,kwonlyargs:=[],kw_defaults:=[],kwarg:=none,defaults:=[]}
def zb4 (s:Stmt):List Stmt:=match s with
 | .FunctionDef _ _ b _ _ _ _ _ _ _=>b
 | _=>[]
def zae (s:Stmt):Scope:=match s with
 | .FunctionDef _ _ _ _ _ _ sc _ _ _=>sc
 | _=>{kind:=.function,names:=[],isGenerator:=false,isCoroutine:=false}
def Kof (as:List Addr)(h:Heap):Fg:=as.filterMap λa=>(h.get? a).map λo=>(a,o)
theorem zpd (h:Heap):∀ as:List Addr,(Kof as h).In h
 | []=>λa o e=>by cases e
 | b::as=>λa o e=>by
  have ih:=zpd h as
  unfold Kof at e
  rw[List.filterMap_cons] at e
  cases hb:h.get? b with
  | none=>rw[hb] at e;exact ih a o e
  | some ob=>
   rw[hb] at e
   simp only[Option.map_some] at e
   rw[List.lookup_cons] at e
   by_cases z:(a == b)=true
   ·rw[z] at e
    cases e
    rw[eq_of_beq z];exact hb
   ·rw[Bool.not_eq_true] at z
    rw[z] at e
    exact ih a o e
abbrev Sig:=Str × Str × Arguments × FuncBody × Scope × Addr × List (Str × Addr) × Value × Addr
def zpM (name qual:Str)(params:Arguments)(body:List Stmt)(scope:Scope):Sig:=(name,qual,params,.stmts body,scope,mainGlobals,[],.none,builtinsNs)
def zaI (K:Fg)(a:Addr):Option Sig:=match K.lookup a with
 | some ⟨_,_,.func f,_⟩=>some (f.name,f.qualname,f.params,f.body,f.scope,f.globals,f.closure,f.defaults,f.builtins)
 | _=>none
def zak (K:Fg)(a:Addr)(q:Str):Bool:=match K.lookup a with
 | some ⟨_,_,.func f,_⟩=>codeIn K f.code q && keepIn K (.ref a)
 | _=>false
def zgd (K:Fg)(C:Addr)(bm:List Value)(newId:String):Bool:=match K.lookup C with
 | some ⟨cl,_,.cls c,sl⟩=>cl == .type "type" && c.mro == .ref C::bm && !c.hasDel && (match sl.toList with
  | [_,_,_,_,some v,_]=>v == .builtin newId
  | _=>false)
 | _=>false
def zic (K:Fg)(a:Addr)(vs:List Value):Bool:=match K.lookup a with
 | some ⟨cl,_,.seq xs _,_⟩=>cl == .type "tuple" && xs.toList == vs
 | _=>false
def eHook {β:Type}(as:List Addr)(see:Fg->β)(due:β):Hook:=
 ⟨β,λs=>see (Kof as s.heap),λ_=>due,λ_ h=>∃ K:Fg,K.In h/\see K=due,λ_ s e=>⟨_,zpd _ _,e⟩,λ_ _ _ ⟨K,x,e⟩ k=>⟨K,x.keeps k,e⟩⟩
end L2
namespace PySem.W.Fast
def tw9986804547429687743:=0
def tw10058768967408577096:=0
def tw13808604757699125324:=0
def tw6435110874369394996:=0
def tw17868053285487603354:=0
def tw8737089938621068348:=0
def tw16530434564058584719:=0
def tw18388918518153676381:=0
def tw14145816086684499429:=0
def tw15177549850931223569:=0
def tw14229185050605989788:=0
def tw2848821766387877954:=0
def tw1374809917478469207:=0
def tw14544876298793395723:=0
def tw18057563203216268151:=0
def tw156082530381067666:=0
def tw17033066757720295045:=0
def tw7389987645450738216:=0
def tw13828411754795446943:=0
def tw12947189612364120706:=0
def tw1031358704201277654:=0
def tw367545148050074024:=0
def tw3299300973600725349:=0
def tw11621570036295761350:=0
def tw13255783476968012005:=0
def tw5713731836817911125:=0
def tw16054492425869373690:=0
def tw16516604270121856324:=0
def tw7511094730542952775:=0
def tw11268013673113223512:=0
def tw16462891597636986909:=0
def tw10261319185182730698:=0
def tw7084761652241960935:=0
def tw7128054955844591991:=0
def tw15320427055893931158:=0
def tw4254192107601592503:=0
def tw8134345833926371818:=0
def tw8158068198411702885:=0
def tw13983840351701153564:=0
def tw16182442318627253099:=0
def tw10421622838739790724:=0
def tw9950757414710290699:=0
def tw10526335602823925892:=0
def tw4583576383022741538:=0
def tw10024517796140472813:=0
def tw3198972665380038037:=0
def tw14381173981402320456:=0
def tw6758439073694183356:=0
def tw3643770134185507770:=0
def tw12879079584284767094:=0
def tw9248885163885197654:=0
def tw17587795053014344701:=0
def tw1093357173537219266:=0
def tw8907488145805885575:=0
def tw8533193735983459316:=0
def tw8291102884327531188:=0
def tw17144594820750696043:=0
def tw4160571771246432784:=0
def tw12165758209761824497:=0
def tw3412586152848087314:=0
def tw6858771693307521214:=0
def tw9279307758428022295:=0
def tw6747439549746279404:=0
def tw2190428539808921921:=0
def tw9270473029328143095:=0
def tw11809341272887658610:=0
def tw6046094686852630866:=0
def tw15598893392776034457:=0
def tw14493375600270129107:=0
def tw6015252710445335345:=0
def tw2812994168546630457:=0
def tw800373796702171260:=0
def tw1085623166443716387:=0
def tw14212850607953440543:=0
def tw14572977599698514142:=0
def tw7242137520443995518:=0
def tw9182528302953782238:=0
def tw18427195626844388285:=0
def tw13377088119357006349:=0
def tw12556939396035326293:=0
def tw13460900028014717118:=0
def tw6448482310919689787:=0
def tw16252396863011882507:=0
def tw2004586341093875691:=0
def tw15717613710630318019:=0
def tw18068987281910554610:=0
def tw16935762754452473341:=0
def tw3947793649369068363:=0
def tw5817057022529034852:=0
def tw7790119056806896765:=0
def tw14709012566037826082:=0
def tw16472997543361836949:=0
def tw15172408466735143979:=0
def tw15597989813238687552:=0
def tw7672456438226706077:=0
def tw831992366775983759:=0
def tw7194829305444349372:=0
def tw18175832657328925367:=0
def tw10247716731139015655:=0
def tw1704243281718042243:=0
def tw9584098792965309308:=0
def tw13899954158337078985:=0
def tw11241659977833565337:=0
def tw5791939111402189254:=0
def tw11228672086196297369:=0
def tw1514756477815672350:=0
def tw15459501662785956255:=0
def tw5603864772942866162:=0
def tw10711593709658284507:=0
def tw11594527044278212759:=0
def tw10363544224360496952:=0
def tw8272482935666592538:=0
def tw7386047442111526959:=0
def tw15595634220321003441:=0
def tw16485626994613360447:=0
def tw6345587760162806204:=0
def tw3512344739958187364:=0
def tw7105292554863158135:=0
def tw16737895644632520075:=0
def tw5145685310866459795:=0
def tw9301256940487742600:=0
def tw2338010042465297104:=0
def tw8055033140609319050:=0
def tw4105477651701067964:=0
def tw12100127440478001023:=0
end PySem.W.Fast
namespace My
open PySem L2 PyProof.Rows
def top (i:Nat):Stmt:=PySem.Challenge.pw_swornhall_k20_held_by_other_rows.main.body.getD i (.Pass ⟨0,0,0,0⟩)
abbrev zkr:Stmt:=top 4
abbrev zks:Stmt:=top 5
abbrev zlb:Stmt:=top 6
abbrev zgz:Stmt:=top 7
abbrev zix:Stmt:=top 8
abbrev zbB:Stmt:=zaU (top 19) 0
abbrev zcl:Stmt:=top 20
abbrev zcC:Stmt:=top 21
abbrev zdg:Stmt:=top 22
abbrev zdJ:Stmt:=top 23
abbrev zkt:Stmt:=top 24
abbrev zea:Stmt:=top 25
abbrev zcD:Stmt:=top 26
abbrev zcE:Stmt:=top 27
abbrev zcF:Stmt:=top 28
abbrev zco:Stmt:=top 29
abbrev zeb:Stmt:=top 30
abbrev zdK:Stmt:=top 31
abbrev zec:Stmt:=top 32
abbrev zbM:Stmt:=top 33
abbrev zed:Stmt:=top 34
abbrev zdh:Stmt:=top 35
abbrev zgP:Stmt:=top 36
abbrev zff:Stmt:=top 37
abbrev ziy:Stmt:=top 51
abbrev zdi:Stmt:=top 52
abbrev zdL:Stmt:=top 53
abbrev zdM:Stmt:=top 54
abbrev zdN:Stmt:=top 55
abbrev zdO:Stmt:=top 56
abbrev zdP:Stmt:=top 57
abbrev zdQ:Stmt:=top 58
abbrev zc3:Stmt:=top 59
abbrev zc4:Stmt:=top 60
abbrev zfH:Stmt:=top 61
abbrev zeT:Stmt:=top 62
abbrev ziz:Stmt:=top 63
abbrev zbo:Stmt:=top 64
abbrev zcL:Stmt:=zaU (top 66) 0
abbrev zfI:Stmt:=zaU (top 66) 1
abbrev zcM:Stmt:=zaU (top 66) 3
abbrev zdR:Stmt:=zaU (top 66) 4
abbrev zee:Stmt:=zaU (top 66) 5
abbrev zcN:Stmt:=zaU (top 66) 6
abbrev zeU:Stmt:=zaU (top 66) 7
abbrev zef:Stmt:=zaU (top 66) 8
abbrev zc5:Stmt:=zaU (top 66) 9
abbrev zcg:Stmt:=zaU (top 66) 10
abbrev zct:Stmt:=zaU (top 66) 11
abbrev zcu:Stmt:=zaU (top 66) 12
abbrev zdj:Stmt:=zaU (top 66) 13
abbrev zbE:Stmt:=zaU (top 66) 14
abbrev zeV:Stmt:=top 67
abbrev zdS:Stmt:=top 68
abbrev zcv:Stmt:=zaU (top 71) 0
abbrev zcO:Stmt:=zaU (top 71) 1
abbrev zdk:Stmt:=zaU (top 72) 0
abbrev ziA:Stmt:=zaU (top 72) 1
abbrev zeW:Stmt:=zaU (top 72) 2
abbrev zfJ:Stmt:=zaU (top 72) 4
abbrev zgQ:Stmt:=zaU (top 72) 5
abbrev zfK:Stmt:=zaU (top 72) 6
abbrev zfL:Stmt:=zaU (top 72) 7
abbrev zfM:Stmt:=zaU (top 72) 8
abbrev zeX:Stmt:=zaU (top 72) 9
abbrev zdT:Stmt:=zaU (top 72) 10
abbrev zbr:Stmt:=zaU (top 72) 11
abbrev zcw:Stmt:=zaU (top 72) 12
abbrev zeY:Stmt:=zaU (top 72) 13
abbrev zfN:Stmt:=zaU (top 72) 14
abbrev zdl:Stmt:=zaU (top 72) 15
abbrev zeZ:Stmt:=zaU (top 72) 16
abbrev zdU:Stmt:=top 73
abbrev zcP:Stmt:=top 74
abbrev ze0:Stmt:=top 76
abbrev zgA:Stmt:=top 78
abbrev zgR:Stmt:=top 79
abbrev ze1:Stmt:=top 80
abbrev zeg:Stmt:=top 81
abbrev zeh:Stmt:=top 82
abbrev zgS:Stmt:=top 83
abbrev zku:Stmt:=top 84
section
open PySem PySem.Spec PySem.Calls PyProof.Rows PySem.W L2
def zqW (p:Program)(ks:List Nat):Program:={p with main:={p.main with body:=ks.filterMap λi=>p.main.body[i]?}}
def Qv:Program:=zqW PySem.Challenge.rw_swornhall_k20_held_by_other_rows.row.toRowW.prog [0,2,3,4,5,6,7,8,10,11,12,13,14,15,16,17,18,19,20,21,22,23,24,25,26,27,28,29,30,31,32,33,34,35,36,37,39,40,41,42,43,44,46,47,48,49,50,51,52,53,54,55,56,57,58,59,60,61,62,63,64,66,67,68,70,71,72,73,74,76,77,78,79,80,81,82,83,84]
abbrev nI (K:Fg)(s:Str)(n:Addr):Bool:=PySem.W.nsIn K mainGlobals s == some (some (.ref n))
abbrev fI (K:Fg)(c:Addr)(s:Str)(n:Addr):Bool:=PySem.W.findIn K (.ref c) s == some (some (.ref n))
abbrev gS (n q:Str)(d:Stmt):Option L2.Sig:=some (L2.zpM n q (zdf d) (zb4 d) (zae d))
def zBo1 (K:Fg):List Bool:=[nI K "Craft" 70,
 nI K "HallError" 192,
 nI K "BadSheet" 205,
 nI K "NoCraft" 217,
 nI K "Unmet" 229,
 nI K "NotShown" 241,
 nI K "Unfit" 253,
 nI K "Hall" 455,
 nI K "Frame" 495,
 nI K "Run" 628,
 nI K "copied_lines" 79,
 L2.zak K 79 "copied_lines",
 nI K "copied_deed" 84,
 L2.zak K 84 "copied_deed",
 fI K 70 "__init__" 67,
 PySem.W.isFn K (.ref 67),
 L2.zak K 67 "Craft.__init__",
 nI K "worth" 28,
 L2.zak K 28 "worth",
 nI K "holds" 35,
 L2.zak K 35 "holds",
 nI K "bare" 40,
 L2.zak K 40 "bare",
 nI K "summed" 45,
 L2.zak K 45 "summed",
 nI K "turned" 52,
 L2.zak K 52 "turned",
 nI K "copied_craft" 91,
 L2.zak K 91 "copied_craft",
 nI K "called_by" 96,
 L2.zak K 96 "called_by",
 nI K "between" 177,
 L2.zak K 177 "between",
 nI K "small_enough" 170,
 L2.zak K 170 "small_enough",
 nI K "line_right" 130,
 L2.zak K 130 "line_right",
 nI K "lines_right" 125,
 L2.zak K 125 "lines_right",
 nI K "oath_right" 110,
 L2.zak K 110 "oath_right",
 nI K "hand_right" 163,
 L2.zak K 163 "hand_right",
 nI K "two_hands_right" 156,
 L2.zak K 156 "two_hands_right",
 nI K "call_right" 151,
 L2.zak K 151 "call_right",
 nI K "range_right" 144,
 L2.zak K 144 "range_right",
 nI K "deed_right" 137,
 L2.zak K 137 "deed_right",
 nI K "deeds_right" 115,
 L2.zak K 115 "deeds_right",
 nI K "notes_right" 120,
 L2.zak K 120 "notes_right",
 nI K "right" 103,
 L2.zak K 103 "right",
 nI K "due_at" 182,
 L2.zak K 182 "due_at",
 nI K "eight_with" 320,
 L2.zak K 320 "eight_with",
 nI K "each_from" 310,
 L2.zak K 310 "each_from",
 nI K "all_turned" 315,
 L2.zak K 315 "all_turned",
 nI K "constant" 327,
 L2.zak K 327 "constant",
 nI K "first_duties" 270,
 L2.zak K 270 "first_duties",
 nI K "call_duties" 305,
 L2.zak K 305 "call_duties",
 nI K "part_duties" 284,
 L2.zak K 284 "part_duties",
 nI K "draw_duties" 291,
 L2.zak K 291 "draw_duties",
 nI K "turn_duties" 298,
 L2.zak K 298 "turn_duties",
 nI K "deed_duties" 277,
 L2.zak K 277 "deed_duties",
 nI K "duties" 263,
 L2.zak K 263 "duties",
 nI K "shows" 332,
 L2.zak K 332 "shows",
 nI K "noughts_and_ones" 344,
 L2.zak K 344 "noughts_and_ones",
 nI K "sought" 339,
 L2.zak K 339 "sought",
 fI K 455 "__init__" 358,
 PySem.W.isFn K (.ref 358),
 L2.zak K 358 "Hall.__init__",
 fI K 455 "release" 445,
 PySem.W.isFn K (.ref 445),
 L2.zak K 445 "Hall.release",
 fI K 455 "called_at" 438,
 PySem.W.isFn K (.ref 438),
 L2.zak K 438 "Hall.called_at",
 fI K 455 "release_callers" 452,
 PySem.W.isFn K (.ref 452),
 L2.zak K 452 "Hall.release_callers",
 nI K "same_oath" 466,
 L2.zak K 466 "same_oath",
 fI K 455 "lay" 365,
 PySem.W.isFn K (.ref 365),
 L2.zak K 365 "Hall.lay",
 fI K 455 "standing" 379,
 PySem.W.isFn K (.ref 379),
 L2.zak K 379 "Hall.standing",
 fI K 455 "crafts" 386,
 PySem.W.isFn K (.ref 386),
 L2.zak K 386 "Hall.crafts",
 nI K "all_shown" 471,
 L2.zak K 471 "all_shown",
 fI K 455 "must_stand" 424,
 PySem.W.isFn K (.ref 424),
 L2.zak K 424 "Hall.must_stand",
 fI K 455 "duties_at" 431,
 PySem.W.isFn K (.ref 431),
 L2.zak K 431 "Hall.duties_at",
 fI K 455 "vouch" 393,
 PySem.W.isFn K (.ref 393),
 L2.zak K 393 "Hall.vouch",
 fI K 455 "seek" 398,
 PySem.W.isFn K (.ref 398),
 L2.zak K 398 "Hall.seek",
 fI K 455 "held" 405,
 PySem.W.isFn K (.ref 405),
 L2.zak K 405 "Hall.held",
 fI K 455 "reach" 412,
 PySem.W.isFn K (.ref 412),
 L2.zak K 412 "Hall.reach",
 fI K 455 "sworn" 417,
 PySem.W.isFn K (.ref 417),
 L2.zak K 417 "Hall.sworn",
 fI K 495 "__init__" 485,
 PySem.W.isFn K (.ref 485),
 L2.zak K 485 "Frame.__init__",
 fI K 495 "numbers" 492,
 PySem.W.isFn K (.ref 492),
 L2.zak K 492 "Frame.numbers",
 fI K 628 "craft_of" 618,
 PySem.W.isFn K (.ref 618),
 L2.zak K 618 "Run.craft_of",
 fI K 628 "is_behind_last_deed" 590,
 PySem.W.isFn K (.ref 590),
 L2.zak K 590 "Run.is_behind_last_deed",
 nI K "first_unmet" 639,
 L2.zak K 639 "first_unmet",
 fI K 628 "meets" 625,
 PySem.W.isFn K (.ref 625),
 L2.zak K 625 "Run.meets",
 fI K 628 "take" 611,
 PySem.W.isFn K (.ref 611),
 L2.zak K 611 "Run.take",
 fI K 628 "leave" 604,
 PySem.W.isFn K (.ref 604),
 L2.zak K 604 "Run.leave",
 fI K 628 "meet_notes" 597,
 PySem.W.isFn K (.ref 597),
 L2.zak K 597 "Run.meet_notes",
 fI K 628 "come_to" 583,
 PySem.W.isFn K (.ref 583),
 L2.zak K 583 "Run.come_to"]
def zBo2 (K:Fg):List Bool:=[fI K 628 "begin" 576,
 PySem.W.isFn K (.ref 576),
 L2.zak K 576 "Run.begin",
 nI K "asked_numbers" 646,
 L2.zak K 646 "asked_numbers",
 fI K 628 "__init__" 513,
 PySem.W.isFn K (.ref 513),
 L2.zak K 513 "Run.__init__",
 fI K 628 "put" 548,
 PySem.W.isFn K (.ref 548),
 L2.zak K 548 "Run.put",
 fI K 628 "draw" 555,
 PySem.W.isFn K (.ref 555),
 L2.zak K 555 "Run.draw",
 fI K 628 "hold" 562,
 PySem.W.isFn K (.ref 562),
 L2.zak K 562 "Run.hold",
 fI K 628 "call" 569,
 PySem.W.isFn K (.ref 569),
 L2.zak K 569 "Run.call",
 fI K 628 "step" 541,
 PySem.W.isFn K (.ref 541),
 L2.zak K 541 "Run.step",
 fI K 628 "go" 520,
 PySem.W.isFn K (.ref 520),
 L2.zak K 520 "Run.go",
 fI K 628 "steps" 527,
 PySem.W.isFn K (.ref 527),
 L2.zak K 527 "Run.steps",
 nI K "_law_cell_at" 653,
 L2.zak K 653 "_law_cell_at",
 nI K "_law_bare" 665,
 L2.zak K 665 "_law_bare",
 nI K "_law_craft_by" 686,
 L2.zak K 686 "_law_craft_by",
 nI K "_law_which" 672,
 L2.zak K 672 "_law_which",
 nI K "_law_refused" 679,
 L2.zak K 679 "_law_refused",
 nI K "_law_bad_laid" 693,
 L2.zak K 693 "_law_bad_laid",
 nI K "_law_stays" 700,
 L2.zak K 700 "_law_stays",
 nI K "law" 707,
 L2.zak K 707 "law",
 PySem.W.nsIn K mainGlobals "ValueError"== some none,
 PySem.W.nsIn K mainGlobals "all"== some none,
 PySem.W.nsIn K mainGlobals "any"== some none,
 PySem.W.nsIn K mainGlobals "enumerate"== some none,
 PySem.W.nsIn K mainGlobals "int"== some none,
 PySem.W.nsIn K mainGlobals "isinstance"== some none,
 PySem.W.nsIn K mainGlobals "len"== some none,
 PySem.W.nsIn K mainGlobals "list"== some none,
 PySem.W.nsIn K mainGlobals "min"== some none,
 PySem.W.nsIn K mainGlobals "range"== some none,
 PySem.W.nsIn K mainGlobals "sorted"== some none,
 PySem.W.nsIn K mainGlobals "tuple"== some none,
 PySem.W.nsIn K mainGlobals "zip"== some none,
 PySem.W.nsIn K mainGlobals "NUMBERS"== some (some (.int 9 196)),
 PySem.W.nsIn K mainGlobals "FACTORS"== some (some (.int 8 198)),
 nI K "HAND_SPOTS" 53,
 L2.zic K 53 [(.int 1 242),(.int 2 243),(.int 3 244),(.int 4 245)],
 nI K "LEFT_SPOTS" 54,
 L2.zic K 54 [(.int 7 247),(.int 8 248)],
 nI K "LEFT_AS_HANDS" 55,
 L2.zic K 55 [(.int 0 250),(.int 1 251),(.int 2 252),(.int 3 253),(.int 4 254),(.int 5 255),(.int 0 256),(.int 1 257)],
 PySem.W.nsIn K mainGlobals "MOST_LINES"== some (some (.int 2 259)),
 PySem.W.nsIn K mainGlobals "MOST_DEEDS"== some (some (.int 8 261)),
 PySem.W.nsIn K mainGlobals "LAST_HAND"== some (some (.int 3 263)),
 PySem.W.nsIn K mainGlobals "LAST_NUMBER"== some (some (.int 99 265)),
 PySem.W.nsIn K mainGlobals "GREATEST_BY"== some (some (.int 1000 267)),
 PySem.W.nsIn K mainGlobals "GREATEST"== some (some (.int 1000000000 269)),
 PySem.W.nsIn K mainGlobals "ASKED_0"== some (some (.int 4 529)),
 PySem.W.nsIn K mainGlobals "ASKED_1"== some (some (.int 5 531)),
 PySem.W.nsIn K mainGlobals "NEW_0"== some (some (.int 6 533)),
 PySem.W.nsIn K mainGlobals "NEW_1"== some (some (.int 7 535)),
 nI K "WHOLES" 256,
 L2.zic K 256 [(.int 1 537),(.int 2 538),(.int 3 539),(.int 4 540)],
 PySem.W.nsIn K mainGlobals "MOST_FRAMES"== some (some (.int 20 832)),
 L2.zgd K 192 zbl "ValueError.__new__",
 PySem.W.excIn K 192 zbl "ValueError.__new__",
 PySem.W.findIn K (.ref 192) "__getattribute__"== some (some (.builtin "BaseException.__getattribute__")),
 PySem.W.findIn K (.ref 192) "__getattr__"== some none,
 PySem.W.findIn K (.ref 192) "__class__"== some (some (.builtin "object.__class__")),
 PySem.W.mroIn K 192 (.type "object") == some true,
 PySem.W.mroIn K 192 (.type "BaseException") == some true,
 L2.zgd K 205 (.ref 192::zbl) "ValueError.__new__",
 PySem.W.excIn K 205 zbl "ValueError.__new__",
 PySem.W.findIn K (.ref 205) "__getattribute__"== some (some (.builtin "BaseException.__getattribute__")),
 PySem.W.findIn K (.ref 205) "__getattr__"== some none,
 PySem.W.findIn K (.ref 205) "__class__"== some (some (.builtin "object.__class__")),
 PySem.W.mroIn K 205 (.type "object") == some true,
 PySem.W.mroIn K 205 (.type "BaseException") == some true,
 L2.zgd K 217 (.ref 192::zbl) "ValueError.__new__",
 PySem.W.excIn K 217 zbl "ValueError.__new__",
 PySem.W.findIn K (.ref 217) "__getattribute__"== some (some (.builtin "BaseException.__getattribute__")),
 PySem.W.findIn K (.ref 217) "__getattr__"== some none,
 PySem.W.findIn K (.ref 217) "__class__"== some (some (.builtin "object.__class__")),
 PySem.W.mroIn K 217 (.type "object") == some true,
 PySem.W.mroIn K 217 (.type "BaseException") == some true,
 L2.zgd K 229 (.ref 192::zbl) "ValueError.__new__",
 PySem.W.excIn K 229 zbl "ValueError.__new__",
 PySem.W.findIn K (.ref 229) "__getattribute__"== some (some (.builtin "BaseException.__getattribute__")),
 PySem.W.findIn K (.ref 229) "__getattr__"== some none,
 PySem.W.findIn K (.ref 229) "__class__"== some (some (.builtin "object.__class__")),
 PySem.W.mroIn K 229 (.type "object") == some true,
 PySem.W.mroIn K 229 (.type "BaseException") == some true,
 L2.zgd K 241 (.ref 192::zbl) "ValueError.__new__",
 PySem.W.excIn K 241 zbl "ValueError.__new__",
 PySem.W.findIn K (.ref 241) "__getattribute__"== some (some (.builtin "BaseException.__getattribute__")),
 PySem.W.findIn K (.ref 241) "__getattr__"== some none,
 PySem.W.findIn K (.ref 241) "__class__"== some (some (.builtin "object.__class__")),
 PySem.W.mroIn K 241 (.type "object") == some true,
 PySem.W.mroIn K 241 (.type "BaseException") == some true,
 L2.zgd K 253 (.ref 192::zbl) "ValueError.__new__",
 PySem.W.excIn K 253 zbl "ValueError.__new__",
 PySem.W.findIn K (.ref 253) "__getattribute__"== some (some (.builtin "BaseException.__getattribute__")),
 PySem.W.findIn K (.ref 253) "__getattr__"== some none,
 PySem.W.findIn K (.ref 253) "__class__"== some (some (.builtin "object.__class__")),
 PySem.W.mroIn K 253 (.type "object") == some true,
 PySem.W.mroIn K 253 (.type "BaseException") == some true,
 PySem.W.plainGet K 70 Str.empty,
 PySem.W.hasDictIn K 70,
 PySem.W.plainOver K 70,
 PySem.W.findIn K (.ref 70) "__setattr__"== some (some (.builtin "object.__setattr__")),
 PySem.W.makesIn K 70,
 PySem.W.keepIn K (.ref 70),
 PySem.W.findIn K (.ref 70) "needs"== some none,
 PySem.W.findIn K (.ref 70) "leaves"== some none,
 PySem.W.findIn K (.ref 70) "deeds"== some none,
 PySem.W.findIn K (.ref 70) "notes"== some none,
 PySem.W.plainGet K 455 Str.empty,
 PySem.W.hasDictIn K 455,
 PySem.W.plainOver K 455,
 PySem.W.findIn K (.ref 455) "__setattr__"== some (some (.builtin "object.__setattr__")),
 PySem.W.makesIn K 455,
 PySem.W.keepIn K (.ref 455),
 PySem.W.findIn K (.ref 455) "laid"== some none,
 PySem.W.findIn K (.ref 455) "vouched"== some none,
 PySem.W.plainGet K 495 Str.empty,
 PySem.W.hasDictIn K 495,
 PySem.W.plainOver K 495,
 PySem.W.findIn K (.ref 495) "__setattr__"== some (some (.builtin "object.__setattr__")),
 PySem.W.makesIn K 495,
 PySem.W.keepIn K (.ref 495),
 PySem.W.findIn K (.ref 495) "number"== some none,
 PySem.W.findIn K (.ref 495) "place"== some none,
 PySem.W.findIn K (.ref 495) "hands"== some none,
 PySem.W.findIn K (.ref 495) "asked"== some none,
 PySem.W.plainGet K 628 Str.empty,
 PySem.W.hasDictIn K 628,
 PySem.W.plainOver K 628,
 PySem.W.findIn K (.ref 628) "__setattr__"== some (some (.builtin "object.__setattr__")),
 PySem.W.makesIn K 628,
 PySem.W.keepIn K (.ref 628),
 PySem.W.findIn K (.ref 628) "known"== some none,
 PySem.W.findIn K (.ref 628) "inputs_left"== some none,
 PySem.W.findIn K (.ref 628) "stack"== some none,
 PySem.W.findIn K (.ref 628) "steps_done"== some none,
 PySem.W.findIn K (.ref 628) "ending"== some none,
 PySem.W.specialIn K (.builtin "object.__class__") "__get__"== some (some (.builtin "getset_descriptor.__get__")),
 PySem.W.takesIn K (.builtin "object.__class__") == some true]
def zBoo (K:Fg):List Bool:=zBo1 K++zBo2 K
def zSee (K:Fg):List (Option L2.Sig):=[L2.zaI K 79,L2.zaI K 84,L2.zaI K 67,L2.zaI K 28,L2.zaI K 35,L2.zaI K 40,L2.zaI K 45,L2.zaI K 52,L2.zaI K 91,L2.zaI K 96,L2.zaI K 177,L2.zaI K 170,L2.zaI K 130,L2.zaI K 125,L2.zaI K 110,L2.zaI K 163,L2.zaI K 156,L2.zaI K 151,L2.zaI K 144,L2.zaI K 137,L2.zaI K 115,L2.zaI K 120,L2.zaI K 103,L2.zaI K 182,L2.zaI K 320,L2.zaI K 310,L2.zaI K 315,L2.zaI K 327,L2.zaI K 270,L2.zaI K 305,L2.zaI K 284,L2.zaI K 291,L2.zaI K 298,L2.zaI K 277,L2.zaI K 263,L2.zaI K 332,L2.zaI K 344,L2.zaI K 339,L2.zaI K 358,L2.zaI K 445,L2.zaI K 438,L2.zaI K 452,L2.zaI K 466,L2.zaI K 365,L2.zaI K 379,L2.zaI K 386,L2.zaI K 471,L2.zaI K 424,L2.zaI K 431,L2.zaI K 393,L2.zaI K 398,L2.zaI K 405,L2.zaI K 412,L2.zaI K 417,L2.zaI K 485,L2.zaI K 492,L2.zaI K 618,L2.zaI K 590,L2.zaI K 639,L2.zaI K 625,L2.zaI K 611,L2.zaI K 604,L2.zaI K 597,L2.zaI K 583,L2.zaI K 576,L2.zaI K 646,L2.zaI K 513,L2.zaI K 548,L2.zaI K 555,L2.zaI K 562,L2.zaI K 569,L2.zaI K 541,L2.zaI K 520,L2.zaI K 527,L2.zaI K 653,L2.zaI K 665,L2.zaI K 686,L2.zaI K 672,L2.zaI K 679,L2.zaI K 693,L2.zaI K 700,L2.zaI K 707]
def zSig:List (Option L2.Sig):=[gS "copied_lines" "copied_lines" zcl,
 gS "copied_deed" "copied_deed" zcC,
 gS "__init__" "Craft.__init__" zbB,
 gS "worth" "worth" zkr,
 gS "holds" "holds" zks,
 gS "bare" "bare" zlb,
 gS "summed" "summed" zgz,
 gS "turned" "turned" zix,
 gS "copied_craft" "copied_craft" zdg,
 gS "called_by" "called_by" zdJ,
 gS "between" "between" zgP,
 gS "small_enough" "small_enough" zdh,
 gS "line_right" "line_right" zco,
 gS "lines_right" "lines_right" zcF,
 gS "oath_right" "oath_right" zea,
 gS "hand_right" "hand_right" zed,
 gS "two_hands_right" "two_hands_right" zbM,
 gS "call_right" "call_right" zec,
 gS "range_right" "range_right" zdK,
 gS "deed_right" "deed_right" zeb,
 gS "deeds_right" "deeds_right" zcD,
 gS "notes_right" "notes_right" zcE,
 gS "right" "right" zkt,
 gS "due_at" "due_at" zff,
 gS "eight_with" "eight_with" zc4,
 gS "each_from" "each_from" zdQ,
 gS "all_turned" "all_turned" zc3,
 gS "constant" "constant" zfH,
 gS "first_duties" "first_duties" zdi,
 gS "call_duties" "call_duties" zdP,
 gS "part_duties" "part_duties" zdM,
 gS "draw_duties" "draw_duties" zdN,
 gS "turn_duties" "turn_duties" zdO,
 gS "deed_duties" "deed_duties" zdL,
 gS "duties" "duties" ziy,
 gS "shows" "shows" zeT,
 gS "noughts_and_ones" "noughts_and_ones" zbo,
 gS "sought" "sought" ziz,
 gS "__init__" "Hall.__init__" zcL,
 gS "release" "Hall.release" zdj,
 gS "called_at" "Hall.called_at" zcu,
 gS "release_callers" "Hall.release_callers" zbE,
 gS "same_oath" "same_oath" zeV,
 gS "lay" "Hall.lay" zfI,
 gS "standing" "Hall.standing" zcM,
 gS "crafts" "Hall.crafts" zdR,
 gS "all_shown" "all_shown" zdS,
 gS "must_stand" "Hall.must_stand" zcg,
 gS "duties_at" "Hall.duties_at" zct,
 gS "vouch" "Hall.vouch" zee,
 gS "seek" "Hall.seek" zcN,
 gS "held" "Hall.held" zeU,
 gS "reach" "Hall.reach" zef,
 gS "sworn" "Hall.sworn" zc5,
 gS "__init__" "Frame.__init__" zcv,
 gS "numbers" "Frame.numbers" zcO,
 gS "craft_of" "Run.craft_of" zdl,
 gS "is_behind_last_deed" "Run.is_behind_last_deed" zbr,
 gS "first_unmet" "first_unmet" zdU,
 gS "meets" "Run.meets" zeZ,
 gS "take" "Run.take" zfN,
 gS "leave" "Run.leave" zeY,
 gS "meet_notes" "Run.meet_notes" zcw,
 gS "come_to" "Run.come_to" zdT,
 gS "begin" "Run.begin" zeX,
 gS "asked_numbers" "asked_numbers" zcP,
 gS "__init__" "Run.__init__" zdk,
 gS "put" "Run.put" zgQ,
 gS "draw" "Run.draw" zfK,
 gS "hold" "Run.hold" zfL,
 gS "call" "Run.call" zfM,
 gS "step" "Run.step" zfJ,
 gS "go" "Run.go" ziA,
 gS "steps" "Run.steps" zeW,
 gS "_law_cell_at" "_law_cell_at" ze0,
 gS "_law_bare" "_law_bare" zgA,
 gS "_law_craft_by" "_law_craft_by" zeg,
 gS "_law_which" "_law_which" zgR,
 gS "_law_refused" "_law_refused" ze1,
 gS "_law_bad_laid" "_law_bad_laid" zeh,
 gS "_law_stays" "_law_stays" zgS,
 gS "law" "law" zku]
def HK:PySem.W.Hook:=L2.eHook (List.range 708) (λK=>((zBoo K).all id,zSee K)) (true,zSig)
set_option maxRecDepth 1000000 in
set_option maxHeartbeats 0 in
theorem said0:OpenLaw.wellSaid PySem.Challenge.rw_swornhall_k20_held_by_other_rows=true:=by
 rw[PySem.W.Fast.te9446332074065402090]
 kernel_rfl
set_option maxRecDepth 1000000 in
set_option maxHeartbeats 0 in
theorem _root_.PySem.Challenge.hd_swornhall_k20_held_by_other_rows (q:∀ (d:DefRec) (kwd:List (Str × PySem.Expr)),defOf My.Qv PySem.Challenge.rw_swornhall_k20_held_by_other_rows.row.name=some (d,kwd)->WalkO My.Qv [] (XL My.Qv []) (Hook.says My.HK) PySem.Challenge.rw_swornhall_k20_held_by_other_rows.row.toRowW d kwd λf vs=>PySem.call f vs):PySem.Challenge.rw_swornhall_k20_held_by_other_rows.Holds:=by
 refine holds_law My.said0 λsaid=>?_
 have h:=q _ _ rfl
 refine (λ(_:type_of% h)=>?m) ?hc
 rotate_left
 exact h
 o_head My.HK
 case hw=>w_witness2
end
end My
namespace L2
open PySem PySem.Spec PyProof.Rows

abbrev Key:=Sum Int Str
def zjl:Key->Value->Bool
 | .inl k,v=>Value.isInt k v
 | .inr x,v=>Value.isStrOf x v
def keyH (w:World):Key->Int
 | .inl k=>hashInt k
 | .inr x=>hashStr w x
theorem zbg:∀ {k:Key}{v:Value},zjl k v=true->(∃ i t,k=Sum.inl i/\v=Value.int i t)\/(∃ x t,k=Sum.inr x/\v=Value.str x t)
 | .inl i,v,h=>by
  obtain⟨t,e⟩:=Value.isInt_shape (k:=i) (v:=v) h
  exact .inl ⟨i,t,rfl,e⟩
 | .inr x,v,h=>by
  obtain⟨t,e⟩:=Value.isStrOf_shape (x:=x) (v:=v) h
  exact .inr ⟨x,t,rfl,e⟩
theorem zmx (i:Int)(t:Tok):zjl (.inl i) (.int i t)=true:=by simp[zjl,Value.isInt]
theorem zmy (x:Str)(t:Tok):zjl (.inr x) (.str x t)=true:=by simp[zjl,Value.isStrOf]
theorem zqX (a b:Int):decide ((Sum.inl a:Key)=Sum.inl b)=(a == b):=by
 by_cases e:a=b
 ·subst e;simp
 ·have h:¬ (Sum.inl a:Key)=Sum.inl b:=λq=>e (Sum.inl.inj q)
  rw[decide_eq_false h]
  exact (beq_eq_false_iff_ne.mpr e).symm
theorem zqY (a b:Str):decide ((Sum.inr a:Key)=Sum.inr b)=decide (a=b):=by
 by_cases e:a=b
 ·subst e;simp
 ·have h:¬ (Sum.inr a:Key)=Sum.inr b:=λq=>e (Sum.inr.inj q)
  rw[decide_eq_false h,decide_eq_false e]
theorem zqZ (a:Int)(b:Str):decide ((Sum.inl a:Key)=Sum.inr b)=false:=decide_eq_false (λq=>nomatch q)
theorem zq0 (a:Str)(b:Int):decide ((Sum.inr a:Key)=Sum.inl b)=false:=decide_eq_false (λq=>nomatch q)
def zbh (prog:Program)(w:World):PySem.KeyKind prog w Key where
 is:=zjl
 hash:=keyH w
 inj:=λv a b ha hb=>by
  rcases zbg ha with ⟨i,t,rfl,rfl⟩ | ⟨x,t,rfl,rfl⟩
  ·rcases zbg hb with ⟨j,u,rfl,e⟩ | ⟨y,u,rfl,e⟩
   ·injection e with e1 _;rw[e1]
   ·exact nomatch e
  ·rcases zbg hb with ⟨j,u,rfl,e⟩ | ⟨y,u,rfl,e⟩
   ·exact nomatch e
   ·injection e with e1 _;rw[e1]
 byValue:=λk v h=>by
  rcases zbg h with ⟨i,t,rfl,rfl⟩ | ⟨x,t,rfl,rfl⟩ <;> rfl
 pyHash:=λhv h=>by
  rcases zbg hv with ⟨i,t,rfl,rfl⟩ | ⟨x,t,rfl,rfl⟩
  ·exact wpAny_pyHash_int h
  ·exact wpAny_pyHash_str h
 eqBool:=λhu hv h=>by
  rcases zbg hu with ⟨i,t,rfl,rfl⟩ | ⟨x,t,rfl,rfl⟩
  ·rcases zbg hv with ⟨j,u,rfl,rfl⟩ | ⟨y,u,rfl,rfl⟩
   ·rw[zqX] at h;exact wpAny_eqBool_int h
   ·rw[zqZ] at h;exact SeqAt.EqAt.int_str i t y u _ _ _ _ h
  ·rcases zbg hv with ⟨j,u,rfl,rfl⟩ | ⟨y,u,rfl,rfl⟩
   ·rw[zq0] at h;exact SeqAt.EqAt.str_int x t j u _ _ _ _ h
   ·rw[zqY] at h;exact wpAny_eqBool_str h
 «strs»:=λk x t v h=>by
  rcases zbg h with ⟨i,u,rfl,e⟩ | ⟨y,u,rfl,e⟩
  ·exact nomatch e
  ·injection e with e1 _
   subst e1
   cases v <;> rfl
theorem zkv (prog:Program)(w:World)(i:Int)(t:Tok):(zbh prog w).is (.inl i) (.int i t)=true:=zmx i t
theorem zkw (prog:Program)(w:World)(x:Str)(t:Tok):(zbh prog w).is (.inr x) (.str x t)=true:=zmy x t

inductive V where
 | non | bl (b:Bool) | int (i:Int) | str (x:Str) | byt (b:Array UInt8) | flt (b:UInt64) | ref (a:Addr) | ty (n:String)
 deriving DecidableEq
def RelV:V->Value->Prop
 | .non,u=>u=Value.none
 | .bl b,u=>u=Value.bool b
 | .int i,u=>∃ t,u=Value.int i t
 | .str x,u=>∃ t,u=Value.str x t
 | .byt b,u=>∃ t,u=Value.bytes b t
 | .flt b,u=>∃ t,u=Value.float b t
 | .ref a,u=>u=Value.ref a
 | .ty n,u=>u=Value.type n
abbrev Vals:List V->List Value->Prop:=Paired RelV
variable {xs:List V}{us:List Value}
theorem Vals.length(r:Vals xs us):xs.length=us.length:=Paired.length r
theorem Vals.get:∀ {xs:List V}{us:List Value}{i:Nat}{x:V},Vals xs us->xs[i]?=some x->∃ u,us[i]?=some u/\RelV x u
 | _,_,_,_,.nil,e=>by simp at e
 | _,_,0,_,.cons r _,e=>by simp at e;subst e;exact⟨_,rfl,r⟩
 | _,_,i+1,x,.cons _ t,e=>by
  obtain⟨u,h1,h2⟩:=Vals.get (i:=i) (x:=x) t (by simpa using e)
  exact⟨u,by simpa using h1,h2⟩
variable {u:Value}
theorem Vals.set{x:V}(r:RelV x u):∀ {xs:List V}{us:List Value}(i:Nat),Vals xs us->Vals (xs.set i x) (us.set i u)
 | _,_,_,.nil=>.nil
 | _,_,0,.cons _ t=>.cons r t
 | _,_,i+1,.cons q t=>.cons q (Vals.set r i t)
theorem Vals.append:∀ {xs ys:List V}{us ws:List Value},Vals xs us->Vals ys ws->Vals (xs++ys) (us++ws)
 | _,_,_,_,.nil,s=>s
 | _,_,_,_,.cons r t,s=>.cons r (Vals.append t s)
theorem Vals.take:∀ {xs:List V}{us:List Value}(n:Nat),Vals xs us->Vals (xs.take n) (us.take n)
 | _,_,0,_=>.nil
 | _,_,_+1,.nil=>.nil
 | _,_,n+1,.cons r t=>.cons r (Vals.take n t)
theorem Vals.drop:∀ {xs:List V}{us:List Value}(n:Nat),Vals xs us->Vals (xs.drop n) (us.drop n)
 | _,_,0,r=>r
 | _,_,_+1,.nil=>.nil
 | _,_,n+1,.cons _ t=>Vals.drop n t
theorem Vals.none_of:∀ {xs:List V}{us:List Value}{i:Nat},Vals xs us->xs[i]?=none->us[i]?=none:=λ{xs us i} r e=>by
 have h1:=r.length
 have h2:xs.length<=i:=List.getElem?_eq_none_iff.mp e
 exact List.getElem?_eq_none_iff.mpr (by omega)
def RelO:Option V->Option Value->Prop
 | some v,some u=>RelV v u
 | none,none=>True
 | _,_=>False
def KV {κ:Type} : List (κ × V)->List (κ × Value)->Prop:=Paired λ(p:κ × V) (q:κ × Value)=>p.1=q.1/\RelV p.2 q.2
def kV:Key->V
 | .inl i=>.int i
 | .inr x=>.str x
inductive HO where
 /-- a list -/
 | lst (xs:List V)
 /-- a tuple (never changes) -/
 | tup (xs:List V)
 /-- a dict whose keys are ints and texts;one whose keys are tuples of ints and texts (the empty one is both) -/
 | dK (kvs:List (Key × V)) | dT (kvs:List (List Key × V))
 /-- a set of ints: its members,its size -/
 | set (S:Int->Bool) (n:Nat)
 /-- an instance of the class at C,its dict at dx,its attributes -/
 | ins (C dx:Addr) (fs:List (Str × V))
 /-- the dict of the instance at x -/
 | own (x:Addr)
 /-- the dict of an exception -/
 | xd (fs:List (Str × V))
 /-- a bound method,f of x -/
 | met (f x:Addr)
 /-- a range object lo,lo+1,.. below hi -/
 | rng (lo hi:Int)
 /-- a thing that is known to the object (the script;a dict while a loop walks it): read,never written while it is so -/
 | frz (o:Obj) (u:HO)
 /-- a code object's table -/
 | tbl (ps:Array Value)
 /-- any other thing,by what is true of its one object (a def of one's own: SetO a S n:=HO.ext λh=>..) -/
 | ext (φ:Heap->Prop)
abbrev Hp:=Addr->Option HO
def upd (H:Hp)(a:Addr)(o:HO):Hp:=λb=>if b=a then some o else H b
variable {H:Hp}{a:Addr}{o:HO}
theorem zac: upd H a o a=some o:=by unfold upd;rw[if_pos rfl]
variable {b:Addr}
theorem zai(h:b≠a):upd H a o b=H b:=by unfold upd;rw[if_neg h]
theorem zn4{u:HO}(h:H a=some o)(h':H b=some u)(d:o≠u):a≠b:=by
 intro e;subst e;rw[h] at h';exact d (Option.some.inj h')
theorem zao(h:H a=some o)(h':H b=none):a≠b:=by
 intro e;subst e;rw[h] at h';cases h'
section
variable (P:Program)(w:World)
def zbU (H:Hp)(h:Heap)(a:Addr):HO->Prop
 | .lst xs=>xs.length<=sizeLine/\∃ (its:List Value) (n:Nat),Vals xs its/\h.get? a=some {cls:=.type "list",data:=.seq its.toArray n}
 | .tup xs=>xs.length<=sizeLine/\∃ its:List Value,Vals xs its/\IsTup h a its.toArray
 | .dK kvs=>kvs.length<=sizeLine/\(a == sysModules)=false/\∃ vs,KV kvs vs/\h.DictOf (zbh P w) a vs
 | .dT kvs=>kvs.length<=sizeLine/\(a == sysModules)=false/\∃ xs:List (List Key × Addr × Value),
   Paired (λ(p:List Key × V) (q:List Key × Addr × Value)=>p.1=q.1/\H q.2.1=some (.tup (p.1.map kV))/\RelV p.2 q.2.2) kvs xs/\
   ∃ o es ep,h.get? a=some o/\o.ExactDict/\o.data=.dict es ep/\es.toList=xs.map (entryOfKey (tupleKind (zbh P w)))/\(xs.map (·.1)).Nodup
 | .set S n=>h.SetOf (intKind P w) a S n
 | .ins C dx fs=>H dx=some (.own a)/\fs.length<=1000/\dx≠a/\h.get? a=some (PySem.W.instObj C dx)/\
   ∃ mA,h.Ns1 dx mA/\(∀ f,RelO (fs.lookup f) (mA f))/\PySem.Within mA (fs.map (·.1))
 | .own _=>∃ o,h.get? a=some o
 | .xd fs=>∃ mA,h.Ns1 a mA/\∀ f,RelO (fs.lookup f) (mA f)
 | .rng lo hi=>∃ t u v,h.get? a=some {cls:=.type "range",data:=.fields #[.int lo t,.int hi u,.int 1 v]}
 | .frz o u=>h.get? a=some o/\zbU H h a u
 | .tbl ps=>h.get? a=some {cls:=.none,data:=.fields ps}
 | .met f x=>h.get? a=some (PySem.W.methodObj (.ref f) (.ref x))
 | .ext φ=>φ h/\(∃ o,h.get? a=some o)/\∀ h1 h2:Heap,φ h1->(∀ o,h1.get? a=some o->h2.get? a=some o)->φ h2
def HOk (H:Hp)(h:Heap):Prop:=∀ a o,H a=some o->zbU P w H h a o
end

variable {α:Type}{P:Program}{w:World}{H':Hp}{h':Heap}
section
variable {h:Heap}
theorem zbU.lt (x:zbU P w H h a o):a<h.objs.size:=by
 cases o with
 | lst xs=>obtain⟨_,_,_,_,e⟩:=x;exact Heap.lt_size e
 | tup xs=>obtain⟨_,_,_,p⟩:=x;exact p.lt
 | dK kvs=>obtain⟨_,_,_,_,o,_,_,e,_⟩:=x;exact Heap.lt_size e
 | dT kvs=>obtain⟨_,_,_,_,o,_,_,e,_⟩:=x;exact Heap.lt_size e
 | set S n=>obtain⟨o,_,_,_,e,_⟩:=x;exact Heap.lt_size e
 | ins C dx fs=>obtain⟨_,_,_,e,_⟩:=x;exact Heap.lt_size e
 | own y=>obtain⟨_,e⟩:=x;exact Heap.lt_size e
 | xd fs=>obtain⟨_,⟨_,_,_,e,_⟩,_⟩:=x;exact Heap.lt_size e
 | rng lo hi=>obtain⟨_,_,_,e⟩:=x;exact Heap.lt_size e
 | frz ob u=>obtain⟨e,_⟩:=x;exact Heap.lt_size e
 | tbl ps=>exact Heap.lt_size (show h.get? a=some _ from x)
 | met f y=>exact Heap.lt_size (show h.get? a=some _ from x)
 | ext φ=>obtain⟨_,⟨_,e⟩,_⟩:=x;exact Heap.lt_size e
theorem Paired.mapP{β:Type}{F G:α->β->Prop}: ∀ {l₁:List α}{l₂:List β},Paired F l₁ l₂->(∀ a b,F a b->G a b)->Paired G l₁ l₂
 | _,_,.nil,_=>.nil
 | _,_,.cons r t,f=>.cons (f _ _ r) (Paired.mapP t f)
theorem zbU.stay (x:zbU P w H h a o)(k:∀ b u,(b=a\/H b=some (.own a))->h.get? b=some u->h'.get? b=some u)
  (ho:∀ b,H b=some (.own a)->H' b=some (.own a)) (ht:∀ b xs,H b=some (.tup xs)->H' b=some (.tup xs)):zbU P w H' h' a o:=by
 induction o with
 | lst xs=>obtain⟨z,its,n,r,e⟩:=x;exact⟨z,its,n,r,k _ _ (.inl rfl) e⟩
 | tup xs=>obtain⟨z,its,r,ob,e,c⟩:=x;exact⟨z,its,r,ob,k _ _ (.inl rfl) e,c⟩
 | dK kvs=>obtain⟨z,y,vs,r,ob,es,ep,e,c⟩:=x;exact⟨z,y,vs,r,ob,es,ep,k _ _ (.inl rfl) e,c⟩
 | dT kvs=>
  obtain⟨z,y,xs,r,ob,es,ep,e,c⟩:=x
  exact⟨z,y,xs,Paired.mapP r λp q z=>⟨z.1,ht _ _ z.2.1,z.2.2⟩,ob,es,ep,k _ _ (.inl rfl) e,c⟩
 | set S n=>obtain⟨ob,es,ep,t,e,c⟩:=x;exact⟨ob,es,ep,t,k _ _ (.inl rfl) e,c⟩
 | ins C dx fs=>
  obtain⟨d,z,ne,e,mA,⟨od,es,ep,e2,c⟩,r⟩:=x
  exact⟨ho _ d,z,ne,k _ _ (.inl rfl) e,mA,⟨od,es,ep,k _ _ (.inr d) e2,c⟩,r⟩
 | own y=>obtain⟨ob,e⟩:=x;exact⟨ob,k _ _ (.inl rfl) e⟩
 | xd fs=>obtain⟨mA,⟨od,es,ep,e,c⟩,r⟩:=x;exact⟨mA,⟨od,es,ep,k _ _ (.inl rfl) e,c⟩,r⟩
 | rng lo hi=>obtain⟨t,u,v,e⟩:=x;exact⟨t,u,v,k _ _ (.inl rfl) e⟩
 | frz ob u ih=>obtain⟨e,q⟩:=x;exact⟨k _ _ (.inl rfl) e,ih q⟩
 | tbl ps=>
  have e:h.get? a=some {cls:=.none,data:=.fields ps}:=x
  show h'.get? a=some {cls:=.none,data:=.fields ps}
  exact k a _ (.inl rfl) e
 | met f y=>
  have e:h.get? a=some (PySem.W.methodObj (.ref f) (.ref y)):=x
  show h'.get? a=some (PySem.W.methodObj (.ref f) (.ref y))
  exact k a _ (.inl rfl) e
 | ext φ=>obtain⟨p,⟨o,e⟩,st⟩:=x;exact⟨st _ _ p λo q=>k _ _ (.inl rfl) q,⟨o,k _ _ (.inl rfl) e⟩,st⟩
theorem HOk.lt (x:HOk P w H h)(e:H a=some o):a<h.objs.size:=(x a o e).lt
theorem HOk.fresh (x:HOk P w H h)(e:h.objs.size<=a):H a=none:=by
 cases q:H a with
 | none=>rfl
 | some u=>exact absurd (Nat.lt_of_lt_of_le (x.lt q) e) (Nat.lt_irrefl _)
theorem HOk.kept (x:HOk P w H h)(k:∀ b u,h.get? b=some u->h'.get? b=some u):HOk P w H h':=λa o e=>
 (x a o e).stay (λb u _ q=>k b u q) (λ_ q=>q) λ_ _ q=>q
theorem HOk.laid (x:HOk P w H h)(k:∀ b u,h.get? b=some u->h'.get? b=some u)(hp:h.objs.size<=a)(new:zbU P w (upd H a o) h' a o):HOk P w (upd H a o) h':=λb u e=>by
 have hn:=x.fresh hp
 by_cases hb:b=a
 ·subst hb;rw[zac] at e;cases e;exact new
 ·rw[zai hb] at e
  exact (x b u e).stay (λc v _ q=>k c v q) (λc q=>by rw[zai (zao q hn)];exact q) λc xs q=>by rw[zai (zao q hn)];exact q
end

def Rd (H:Hp)(a:Addr)(u:HO):Prop:=H a=some u\/∃ o,H a=some (.frz o u)
theorem Rd.ok{h:Heap}{u:HO}(r:Rd H a u)(x:HOk P w H h):zbU P w H h a u:=by
 rcases r with r | ⟨o,r⟩
 ·exact x a u r
 ·obtain⟨_,q⟩:=x a _ r
  exact q
def Mut:Option HO->Prop
 | some (.lst _)=>True
 | some (.dK _)=>True
 | some (.dT _)=>True
 | some (.set _ _)=>True
 | some (.ins _ _ _)=>True
 | some (.ext _)=>True
 | _=>False
section
variable {h:Heap}{x e:Addr}{o':HO}
theorem HOk.write (ok:HOk P w H h)(mu:Mut (H x))(he:e=x\/H e=some (.own x))(k:∀ b u,b≠e->h.get? b=some u->h'.get? b=some u)(heo:∃ u,h'.get? e=some u)
  (new:zbU P w (upd H x o') h' x o'):HOk P w (upd H x o') h':=λb u q=>by
 have nown:∀ c y,H c=some (.own y)->c≠x:=λc y r z=>by subst z;rw[r] at mu;exact mu
 have ntup:∀ c xs,H c=some (.tup xs)->c≠x:=λc xs r z=>by subst z;rw[r] at mu;exact mu
 by_cases hb:b=x
 ·subst hb;rw[zac] at q;cases q;exact new
 ·rw[zai hb] at q
  by_cases hbe:b=e
  ·have q':H b=some (.own x):=by
    rcases he with z | z
    ·exact absurd (hbe.trans z) hb
    ·rw[hbe];exact z
   rw[q] at q';cases q'
   obtain⟨v,hv⟩:=heo
   exact⟨v,by rw[hbe];exact hv⟩
  ·refine (ok b u q).stay (λc v hc r=>k c v ?_ r) (λc r=>by rw[zai (nown c b r)];exact r) λc xs r=>by rw[zai (ntup c xs r)];exact r
   rcases hc with rfl | hc
   ·exact hbe
   ·rintro rfl
    rcases he with z | z
    ·exact nown c b hc z
    ·rw[hc] at z;cases z;exact hb rfl
end

structure Un (fs ex:List Addr)(H H':Hp)(h h':Heap):Prop where
 keep:∀ b o,h.get? b=some o->H b=none->b∉fs->b∉ex->h'.get? b=some o
 slot:∀ b o,h.get? b=some o->H b=none->b∈fs->b∉ex->∃ sl,h'.get? b=some {o with slots:=sl}
 free:∀ b o,h.get? b=some o->H b=none->b∉ex->H' b=none
 there:∀ b o,h.get? b=some o->b∉ex->∃ o',h'.get? b=some o'
 tups:∀ b xs,H b=some (.tup xs)->H' b=some (.tup xs)
 frzs:∀ b o u,H b=some (.frz o u)->H' b=some (.frz o u)
 tbls:∀ b ps,H b=some (.tbl ps)->∃ more,H' b=some (.tbl (ps++more))
section
variable {fs fs' ex ex':List Addr}{H1 H2:Hp}{h h1 h2:Heap}{x e:Addr}
theorem Un.any(u:Un fs ex H H1 h h1){ob:Obj}(q:h.get? b=some ob)(n:H b=none)(hx:b∉ex):∃ sl,h1.get? b=some {ob with slots:=sl}:=by
 by_cases hb:b∈fs
 ·exact u.slot b ob q n hb hx
 ·exact⟨ob.slots,u.keep b ob q n hb hx⟩
theorem Un.kept (k:∀ b u,h.get? b=some u->h'.get? b=some u):Un fs ex H H h h':=
 ⟨λb ob q _ _ _=>k b ob q,λb ob q _ _ _=>⟨ob.slots,k b ob q⟩,λ_ _ _ n _=>n,λb ob q _=>⟨ob,k b ob q⟩,λ_ _ q=>q,λ_ _ _ q=>q,λ_ ps q=>⟨#[],by rw[q];simp⟩⟩
theorem Un.refl:Un fs ex H H h h:=Un.kept λ_ _ q=>q
theorem Un.laid (k:∀ b u,h.get? b=some u->h'.get? b=some u)(hp:h.objs.size<=a)(hn:H a=none):Un fs ex H (upd H a o) h h' where
 keep:=λb u q _ _ _=>k b u q
 slot:=λb u q _ _ _=>⟨u.slots,k b u q⟩
 free:=λb u q n _=>by rw[zai (Nat.ne_of_lt (Nat.lt_of_lt_of_le (Heap.lt_size q) hp))];exact n
 there:=λb u q _=>⟨u,k b u q⟩
 tups:=λb xs q=>by rw[zai (zao q hn)];exact q
 frzs:=λb u xs q=>by rw[zai (zao q hn)];exact q
 tbls:=λb ps q=>⟨#[],by rw[zai (zao q hn),q];simp⟩
theorem Un.write (mu:Mut (H x))(he:e=x\/H e=some (.own x))(k:∀ b u,b≠e->h.get? b=some u->h'.get? b=some u)(heo:∃ u,h'.get? e=some u):Un fs ex H (upd H x o) h h':=by
 have hx:∀ b,H b=none->b≠x:=λb n z=>by subst z;rw[n] at mu;exact mu
 have hb:∀ b,H b=none->b≠e:=λb n z=>by
  subst z
  rcases he with r | r
  ·exact hx b n r
  ·rw[n] at r;cases r
 have hm:∀ b u,H b=some u->¬ Mut (some u)->b≠x:=λb u q nm z=>by subst z;rw[q] at mu;exact nm mu
 refine⟨λb u q n _ _=>k b u (hb b n) q,λb u q n _ _=>⟨u.slots,k b u (hb b n) q⟩,λb u q n _=>by rw[zai (hx b n)];exact n,λb u q _=>?_,
  λb xs q=>by rw[zai (hm b _ q λz=>z)];exact q,λb u xs q=>by rw[zai (hm b _ q λz=>z)];exact q,λb ps q=>⟨#[],by rw[zai (hm b _ q λz=>z),q];simp⟩⟩
 by_cases hbe:b=e
 ·subst hbe;exact heo
 ·exact⟨u,k b u hbe q⟩
end

def trk (h:Heap)(H:Hp):List Addr:=(List.range h.objs.size).filter λa=>(H a).isSome
def hidT (h:Heap)(H:Hp):Heap:=PySem.W.hideAll h (trk h H)
theorem zmz (h:Heap)(H:Hp):(hidT h H).objs.size=h.objs.size:=PySem.W.hideAll_size _ _
theorem zn5{h:Heap}{o:Obj}(e:h.get? b=some o)(n:H b=none):(hidT h H).get? b=some o:=
 PySem.W.hideAll_get _ e λhm=>by
  have q:(H b).isSome=true:=(List.mem_filter.mp hm).2
  rw[n] at q;simp at q
theorem zpN{h:Heap}{o:Obj}(e:(hidT h H).get? b=some o):h.get? b=some o/\H b=none:=by
 have e':h.get? b=some o:=PySem.W.of_hideAll (trk h H) e
 refine⟨e',?_⟩
 cases q:H b with
 | none=>rfl
 | some x=>
  have hm:b∈trk h H:=List.mem_filter.mpr ⟨List.mem_range.mpr (Heap.lt_size e'),by simp[q]⟩
  have z:(hidT h H).get? b=none:=PySem.W.hideAll_none (trk h H) hm
  rw[z] at e;cases e

structure Mod (K:Fg)(mg:Str->Option Value)(base:Heap):Prop where
 kin:K.In base
 glob:base.Ns mainGlobals mg
 blt:∃ mb,base.Ns builtinsNs mb/\∀ x:Str,x≠ "__name__" ->mb x=bootBuiltins x
 nolimit:base.NoLimit
structure Cx where
 prog:Program
 w:World
 K:Fg
 mg:Str->Option Value
 base:Heap
 A:Around
 N:List Str
 s₀:Shared
 H₀:Hp
 env:Env
 outer:List Env
 stack:List Env
 ex:List Addr
 fn:Str->Bool
 calm:Bool
 pn:List (Addr × Obj)
 xe:Value->Shared->Prop
def frs (l:List Env):List Addr:=l.filterMap (·.frame)
abbrev Cx.fs (X:Cx):List Addr:=frs X.outer
def Vis (sc:Scope)(x:Str):Prop:=sc.names.lookup x=some .local\/sc.names.lookup x=some .cell\/sc.names.lookup x=some .free
def Loc (sc:Scope)(x:Str):Prop:=sc.names.lookup x=some .local\/sc.names.lookup x=some .cell
def Look (env:Env)(h:Heap)(m:Str->Option Value)(x:Str)(u:Value):Prop:=
 (env.kindOf x=some .local/\m x=some u)\/((env.kindOf x=some .cell\/env.kindOf x=some .free)/\∃ c,env.cells.lookup x=some c/\h.IsCell c (some u))
structure Cx.Ok (X:Cx):Prop where
 mod:Mod X.K X.mg X.base
 kind:X.env.scope.kind=.function
 glob:X.env.globals=mainGlobals
 blt:X.env.builtins=builtinsNs
 above:X.s₀.heap.objs.size<=X.env.locals
 inj:∀ x y c,X.env.cells.lookup x=some c->X.env.cells.lookup y=some c->x=y
 has:∀ x,(X.env.kindOf x=some .cell\/X.env.kindOf x=some .free)->∃ c,X.env.cells.lookup x=some c
 cab:∀ x c,X.fn x=true->X.env.cells.lookup x=some c->X.s₀.heap.objs.size<=c
 hd:X.calm=true->X.A.handled=none
 frames:X.A.frames=some X.stack
 stk:X.stack=X.outer\/(X.stack=X.env::X.outer/\X.env.frame=some X.env.locals)
 exf:∀ b∈X.ex,b≠X.env.locals/\∀ x c,X.env.cells.lookup x=some c->c≠b
 bs:∀ b o,X.base.get? b=some o->X.s₀.heap.get? b=some o/\X.H₀ b=none
 bsz:X.base.objs.size<=X.s₀.heap.objs.size
 noex:∀ b o,X.base.get? b=some o->b∉X.ex
 exfs:∀ b∈X.ex,b∉X.fs
 funs:X.s₀.heap.FunFrames X.base X.outer
 frf:∀ b∈X.fs,X.H₀ b=none
structure Inv (X:Cx)(pins:List (Addr × Obj))(σ:List (Option V))(H:Hp)(s:Shared):Prop where
 ok:X.Ok
 os:s.os=X.s₀.os
 bare:AllBare s.gens
 base:Un X.fs X.ex X.H₀ H X.s₀.heap s.heap
 loc:∃ m,s.heap.Ns X.env.locals m/\∀ (i:Nat) (x:Str) (v:V),X.N[i]?=some x->σ[i]?=some (some v)->Vis X.env.scope x->∃ u,RelV v u/\Look X.env s.heap m x u
 cell:∀ x c,X.env.cells.lookup x=some c->∃ v,s.heap.IsCell c v
 free:H X.env.locals=none
 freeC:∀ x c,X.env.cells.lookup x=some c->H c=none
 pin:∀ p∈X.pn++pins,s.heap.get? p.1=some p.2/\H p.1=none/\p.1≠X.env.locals/\p.1∉X.fs/\∀ v,p.2.data≠.cell v
 hok:HOk X.prog X.w H s.heap
 len:σ.length=X.N.length
variable {x:Str}{g':Array GenState}{t' i j:Nat}{d':Drawn}{ch:List Addr}{it:Addr}{N:List Str}{M:Model}{A:Around}{E:Value->Shared->Prop}{v:V}{s' s:Shared}{X:Cx}{pins:List (Addr × Obj)}
section
variable {σ:List (Option V)}

theorem Cx.Ok.nofr(ok:X.Ok){o:Obj}(e:X.base.get? b=some o):b∉X.fs:=λhb=>by
 have:=(ok.funs.mem hb).1
 rw[e] at this;cases this
theorem Inv.bs (I:Inv X pins σ H s):∀ b o,X.base.get? b=some o->s.heap.get? b=some o/\H b=none:=λb o e=>
 ⟨I.base.keep b o (I.ok.bs b o e).1 (I.ok.bs b o e).2 (I.ok.nofr e) (I.ok.noex b o e),I.base.free b o (I.ok.bs b o e).1 (I.ok.bs b o e).2 (I.ok.noex b o e)⟩
theorem Inv.bk (I:Inv X pins σ H s):∀ b o,X.base.get? b=some o->s.heap.get? b=some o:=λb o e=>(I.bs b o e).1
theorem Inv.mod (I:Inv X pins σ H s):Mod X.K X.mg X.base:=I.ok.mod
theorem Inv.kIn (I:Inv X pins σ H s):X.K.In s.heap:=I.ok.mod.kin.keeps I.bk
theorem Inv.lt (I:Inv X pins σ H s):X.env.locals<s.heap.objs.size:=let ⟨_,hn,_⟩:=I.loc;hn.lt
theorem Inv.sz (I:Inv X pins σ H s):X.s₀.heap.objs.size<=s.heap.objs.size:=Nat.le_trans I.ok.above (Nat.le_of_lt I.lt)
theorem Inv.nofs(I:Inv X pins σ H s)(h:s.heap.objs.size<=a):a∉X.fs:=λhb=>by
 obtain⟨_,o,ho,_⟩:=I.ok.funs.mem hb
 exact absurd (Nat.lt_of_lt_of_le (Heap.lt_size ho) (Nat.le_trans I.sz h)) (Nat.lt_irrefl _)
theorem Inv.cne (I:Inv X pins σ H s):∀ x c,X.env.cells.lookup x=some c->c≠X.env.locals:=λx c e z=>by
 obtain⟨v,o,ho,hd⟩:=I.cell x c e
 obtain⟨m,⟨o',es,ep,ho',hd',_⟩,_⟩:=I.loc
 rw[z,ho'] at ho;cases ho;rw[hd'] at hd;cases hd
theorem Inv.funs (I:Inv X pins σ H s):s.heap.FunFrames X.base X.outer:=by
 have all:∀ (l:List Env),(∀ b∈frs l,b∈X.fs)->X.s₀.heap.FunFrames X.base l->s.heap.FunFrames X.base l:=by
  intro l
  induction l with
  | nil=>intro _ _;trivial
  | cons env r ih=>
   intro hs hl
   obtain⟨hk,⟨L,o,hf,hn,ho,hd⟩,hr⟩:=hl
   have hL:L∈X.fs:=hs L (by unfold frs;rw[List.filterMap_cons,hf];exact List.mem_cons_self)
   obtain⟨sl,e⟩:=I.base.slot L o ho (I.ok.frf L hL) hL λz=>I.ok.exfs L z hL
   exact⟨hk,⟨L,_,hf,hn,e,hd⟩,ih (λb hb=>hs b (by unfold frs;rw[List.filterMap_cons,hf];exact List.mem_cons_of_mem _ hb)) hr⟩
 exact all X.outer (λ_ hb=>hb) I.ok.funs
theorem Inv.stack (I:Inv X pins σ H s):s.heap.FunFrames X.base X.stack:=by
 rcases I.ok.stk with e | ⟨e,hf⟩
 ·rw[e];exact I.funs
 ·rw[e]
  obtain⟨m,hn,_⟩:=I.loc
  refine .cons (by rw[I.ok.kind];decide) hf hn ?_ I.funs
  exact Heap.get?_none_of_le (Nat.le_trans I.ok.bsz I.ok.above)
theorem Inv.stkSub (I:Inv X pins σ H s):∀ b∈frs X.stack,b∈X.env.locals::X.fs:=λb hb=>by
 rcases I.ok.stk with e | ⟨e,hf⟩
 ·rw[e] at hb;exact List.mem_cons_of_mem _ hb
 ·rw[e] at hb
  unfold frs at hb
  rw[List.filterMap_cons,hf] at hb
  exact hb
theorem Inv.stkFree (I:Inv X pins σ H s):∀ b∈frs X.stack,H b=none:=λb hb=>by
 rcases List.mem_cons.mp (I.stkSub b hb) with e | hb
 ·rw[e];exact I.free
 ·obtain⟨_,o,ho,_⟩:=I.ok.funs.mem hb
  exact I.base.free b o ho (I.ok.frf b hb) λz=>I.ok.exfs b z hb
theorem Inv.step(I:Inv X pins σ H s)(hch:∀ b∈ch,(b∈X.ex\/X.s₀.heap.objs.size<=b)/\b≠X.env.locals/\(∀ x c,X.env.cells.lookup x=some c->c≠b)/\∀ p∈X.pn++pins,p.1≠b)(keep:∀ b o,b≠X.env.locals->b∉X.fs->b∉ch->s.heap.get? b=some o->H b=none->h'.get? b=some o)(slot:∀ b o,b≠X.env.locals->b∈X.fs->b∉ch->s.heap.get? b=some o->H b=none->∃ sl,h'.get? b=some {o with slots:=sl})(free:∀ b o,b∉ch->s.heap.get? b=some o->H b=none->H' b=none)(there:∀ b o,b∉ch->s.heap.get? b=some o->∃ o',h'.get? b=some o')(tups:∀ b xs,H b=some (.tup xs)->H' b=some (.tup xs))(frzs:∀ b o u,H b=some (.frz o u)->H' b=some (.frz o u))(tbls:∀ b ps,H b=some (.tbl ps)->∃ more,H' b=some (.tbl (ps++more)))(ns:∀ m,s.heap.Ns X.env.locals m->h'.Ns X.env.locals m)(hok:HOk X.prog X.w H' h')(hg:AllBare g'):
  Inv X pins σ H' {s with heap:=h',gens:=g',drawn:=d',toks:=t'}:=by
 have neL:∀ b o,X.s₀.heap.get? b=some o->b≠X.env.locals:=λb o e=>Nat.ne_of_lt (Nat.lt_of_lt_of_le (Heap.lt_size e) I.ok.above)
 have neC:∀ b o,X.s₀.heap.get? b=some o->b∉X.ex->b∉ch:=λb o e hx hb=>by
  rcases (hch b hb).1 with z | z
  ·exact hx z
  ·exact absurd (Nat.lt_of_lt_of_le (Heap.lt_size e) z) (Nat.lt_irrefl _)
 have cellK:∀ x c,X.env.cells.lookup x=some c->∀ v,s.heap.IsCell c v->h'.IsCell c v:=λx c e v ⟨o,ho,hd⟩=>by
  have nch:c∉ch:=λz=>(hch c z).2.2.1 x c e rfl
  by_cases hc:c∈X.fs
  ·obtain⟨sl,q⟩:=slot c o (I.cne x c e) hc nch ho (I.freeC x c e)
   exact⟨_,q,hd⟩
  ·exact⟨o,keep c o (I.cne x c e) hc nch ho (I.freeC x c e),hd⟩
 refine⟨I.ok,I.os,hg,⟨λb o e n hb hx=>?_,λb o e n hb hx=>?_,λb o e n hx=>?_,λb o e hx=>?_,λb xs e=>tups b xs (I.base.tups b xs e),λb o xs e=>frzs b o xs (I.base.frzs b o xs e),λb ps e=>?_⟩,?_,λx c e=>?_,?_,λx c e=>?_,λp hp=>?_,hok,I.len⟩
 ·exact keep b o (neL b o e) hb (neC b o e hx) (I.base.keep b o e n hb hx) (I.base.free b o e n hx)
 ·obtain⟨sl,e1⟩:=I.base.slot b o e n hb hx
  obtain⟨sl',e2⟩:=slot b _ (neL b o e) hb (neC b o e hx) e1 (I.base.free b o e n hx)
  exact⟨sl',e2⟩
 ·obtain⟨o',e1⟩:=I.base.there b o e hx
  exact free b o' (neC b o e hx) e1 (I.base.free b o e n hx)
 ·obtain⟨o',e1⟩:=I.base.there b o e hx
  exact there b o' (neC b o e hx) e1
 ·obtain⟨m1,e1⟩:=I.base.tbls b ps e
  obtain⟨m2,e2⟩:=tbls b _ e1
  exact⟨m1++m2,by rw[e2,Array.append_assoc]⟩
 ·obtain⟨m,hn,hl⟩:=I.loc
  refine⟨m,ns m hn,λi x v e1 e2 e3=>?_⟩
  obtain⟨u,r,l⟩:=hl i x v e1 e2 e3
  refine⟨u,r,?_⟩
  rcases l with l | ⟨k,c,e,z⟩
  ·exact .inl l
  ·exact .inr ⟨k,c,e,cellK x c e _ z⟩
 ·obtain⟨v,z⟩:=I.cell x c e
  exact⟨v,cellK x c e v z⟩
 ·obtain⟨m,⟨o,_,_,ho,_⟩,_⟩:=I.loc
  exact free _ o (λz=>(hch _ z).2.1 rfl) ho I.free
 ·obtain⟨v,o,ho,hd⟩:=I.cell x c e
  exact free c o (λz=>(hch c z).2.2.1 x c e rfl) ho (I.freeC x c e)
 ·obtain⟨e,n,ne,nf,d⟩:=I.pin p hp
  have nch:p.1∉ch:=λz=>(hch p.1 z).2.2.2 p hp rfl
  exact⟨keep p.1 p.2 ne nf nch e n,free p.1 p.2 nch e n,ne,nf,d⟩
theorem Inv.un(I:Inv X pins σ H s)(u:Un X.fs [] H H' s.heap h')(hok:HOk X.prog X.w H' h'):Inv X pins σ H' {s with heap:=h',toks:=t'}:=by
 obtain⟨m,⟨o,es,ep,ho,r⟩,_⟩:=id I.loc
 obtain⟨sl,hL⟩:=u.any ho I.free (by simp)
 exact I.step (g':=s.gens) (d':=s.drawn) (ch:=[]) (λ_ z=>nomatch z) (λb o _ hb _ e n=>u.keep b o e n hb (by simp)) (λb o _ hb _ e n=>u.slot b o e n hb (by simp)) (λb o _ e n=>u.free b o e n (by simp)) (λb o _ e=>u.there b o e (by simp)) u.tups u.frzs u.tbls (λm' hm=>by
  obtain⟨o',es',ep',ho',r'⟩:=hm
  rw[ho] at ho';cases ho'
  exact⟨_,es',ep',hL,r'⟩) hok I.bare
theorem Inv.call(I:Inv X pins σ H s)(u:Un (frs X.stack) ch H H' s.heap h')(hok:HOk X.prog X.w H' h')(hg:AllBare g')(hch:∀ b∈ch,(b∈X.ex\/X.s₀.heap.objs.size<=b)/\b≠X.env.locals/\(∀ x c,X.env.cells.lookup x=some c->c≠b)/\∀ p∈X.pn++pins,p.1≠b):
  Inv X pins σ H' {s with heap:=h',gens:=g',drawn:=d',toks:=t'}:=by
 obtain⟨m,⟨o,es,ep,ho,r⟩,_⟩:=id I.loc
 obtain⟨sl,hL⟩:=u.any ho I.free λz=>(hch _ z).2.1 rfl
 exact I.step (ch:=ch) hch (λb o hL hb hc e n=>u.keep b o e n (λz=>(List.mem_cons.mp (I.stkSub b z)).elim hL hb) hc) (λb o _ _ hc e n=>u.any e n hc) (λb o hc e n=>u.free b o e n hc) (λb o hc e=>u.there b o e hc) u.tups u.frzs u.tbls (λm' hm=>by
  obtain⟨o',es',ep',ho',r'⟩:=hm
  rw[ho] at ho';cases ho'
  exact⟨_,es',ep',hL,r'⟩) hok hg
theorem Inv.turned(I:Inv X pins σ H s)(k:∀ b o,b≠it->s.heap.get? b=some o->h'.get? b=some o)(hn:H it=none)(hL:it≠X.env.locals)(h1:it∈X.ex\/X.s₀.heap.objs.size<=it)(h2:∀ x c,X.env.cells.lookup x=some c->c≠it)(h3:∀ p∈X.pn++pins,p.1≠it):Inv X pins σ H {s with heap:=h',toks:=t'}:=by
 have nit:∀ b u,H b=some u->b≠it:=λb u e z=>by rw[z,hn] at e;cases e
 refine I.step (g':=s.gens) (d':=s.drawn) (ch:=[it]) (λb hb=>?_) (λb o _ _ hc e _=>k b o (λz=>hc (by simp[z])) e) (λb o _ _ hc e _=>⟨o.slots,k b o (λz=>hc (by simp[z])) e⟩) (λ_ _ _ _ n=>n)
  (λb o hc e=>⟨o,k b o (λz=>hc (by simp[z])) e⟩) (λ_ _ e=>e) (λ_ _ _ e=>e) (λb ps e=>⟨#[],by rw[e];simp⟩) (λm hm=>?_) (λb u e=>?_) I.bare
 ·have e:b=it:=by simpa using hb
  subst e
  exact⟨h1,hL,h2,h3⟩
 ·obtain⟨o,es,ep,ho,r⟩:=hm
  exact⟨o,es,ep,k _ o (Ne.symm hL) ho,r⟩
 ·refine (I.hok b u e).stay (λc v hc q=>k c v ?_ q) (λ_ q=>q) λ_ _ q=>q
  rcases hc with z | z
  ·rw[z];exact nit b u e
  ·exact nit c _ z
theorem Inv.tok (I:Inv X pins σ H s)(t:Nat):Inv X pins σ H {s with toks:=t}:=I.un (h':=s.heap) (t':=t) Un.refl I.hok
theorem Inv.kept(I:Inv X pins σ H s)(k:∀ b u,s.heap.get? b=some u->h'.get? b=some u):Inv X pins σ H {s with heap:=h',toks:=t'}:=I.un (Un.kept k) (I.hok.kept k)
theorem Inv.laid(I:Inv X pins σ H s)(k:∀ b u,s.heap.get? b=some u->h'.get? b=some u)(hp:s.heap.objs.size<=a)(new:zbU X.prog X.w (upd H a o) h' a o):
  Inv X pins σ (upd H a o) {s with heap:=h',toks:=t'}:=I.un (Un.laid k hp (I.hok.fresh hp)) (I.hok.laid k hp new)
theorem Inv.write{x e:Addr}(I:Inv X pins σ H s)(mu:Mut (H x))(he:e=x\/H e=some (.own x))(k:∀ b u,b≠e->s.heap.get? b=some u->h'.get? b=some u)(heo:∃ u,h'.get? e=some u)(new:zbU X.prog X.w (upd H x o) h' x o):Inv X pins σ (upd H x o) {s with heap:=h',toks:=t'}:=I.un (Un.write mu he k heo) (I.hok.write mu he k heo new)
theorem Inv.pins_of {pins':List (Addr × Obj)}(I:Inv X pins σ H s)(h:∀ p∈pins',s.heap.get? p.1=some p.2/\H p.1=none/\p.1≠X.env.locals/\p.1∉X.fs/\∀ v,p.2.data≠.cell v):Inv X pins' σ H s:=
 ⟨I.ok,I.os,I.bare,I.base,I.loc,I.cell,I.free,I.freeC,λp hp=>(zma.mp hp).elim (λz=>I.pin p (List.mem_append_left _ z)) (h p),I.hok,I.len⟩
theorem ziB(hN:N.Nodup)(a:N[i]?=some x)(b:N[j]?=some x):i=j:=by
 obtain⟨h1,e1⟩:=zge.mp a
 obtain⟨h2,e2⟩:=zge.mp b
 exact (List.getElem_inj hN).mp (e1.trans e2.symm)
variable {Q:Unit->Shared->Prop}
theorem zjm(I:Inv X pins σ H s)(hN:X.N.Nodup)(hi:X.N[i]?=some x)(hx:Loc X.env.scope x)(r:RelV v u)(h:∀ s',Inv X pins (σ.set i (some v)) H s'->(∃ a,Heap.SameBut a s.heap s'.heap/\(a=X.env.locals\/X.env.cells.lookup x=some a))->Q () s')(hf:X.fn x=true\/X.env.scope.names.lookup x=some .local:=by first | exact .inl rfl | exact .inr rfl | assumption):wpAny M A (storeName X.env x u) Q E s:=by
 obtain⟨m,hn,hl⟩:=id I.loc
 have hcls:(X.env.scope.kind == .class || (X.env.scope.kind == .module && X.env.locals != X.env.globals))=false:=by rw[I.ok.kind];rfl
 have hiσ:i<σ.length:=by rw[I.len];exact (zge.mp hi).1
 have cne:=I.cne
 have tracked:∀ {a:Addr}{h':Heap},(∃ o,s.heap.get? a=some o/\H a=none)->Heap.SameBut a s.heap h'->HOk X.prog X.w H h':=λ{a h'} ha hs b ob e=>by
  obtain⟨_,_,hfree⟩:=ha
  refine (I.hok b ob e).stay (λc w' hc q=>(hs.2 c ?_).trans q) (λ_ q=>q) λ_ _ q=>q
  rintro rfl
  rcases hc with rfl | hc
  ·rw[hfree] at e;cases e
  ·rw[hfree] at hc;cases hc
 rcases hx with hk | hk
 ·refine wpAny_storeName_local hk hn (λh' hn' hs=>?_) hcls
  obtain⟨oL,_,_,hoL,_⟩:=id hn
  refine h _ ⟨I.ok,I.os,I.bare,⟨λb o e n hb hx=>?_,λb o e n hb hx=>?_,I.base.free,λb o e hx=>?_,I.base.tups,I.base.frzs,I.base.tbls⟩,⟨_,hn',λj y v' e1 e2 e3=>?_⟩,λy c e=>?_,I.free,I.freeC,λp hp=>?_,tracked ⟨oL,hoL,I.free⟩ hs,by simpa using I.len⟩ ⟨_,hs,.inl rfl⟩
  ·exact (hs.2 b (Nat.ne_of_lt (Nat.lt_of_lt_of_le (Heap.lt_size e) I.ok.above))).trans (I.base.keep b o e n hb hx)
  ·obtain⟨sl,e1⟩:=I.base.slot b o e n hb hx
   exact⟨sl,(hs.2 b (Nat.ne_of_lt (Nat.lt_of_lt_of_le (Heap.lt_size e) I.ok.above))).trans e1⟩
  ·obtain⟨o',e1⟩:=I.base.there b o e hx
   exact⟨o',(hs.2 b (Nat.ne_of_lt (Nat.lt_of_lt_of_le (Heap.lt_size e) I.ok.above))).trans e1⟩
  ·by_cases hj:j=i
   ·subst hj
    rw[hi] at e1;cases e1
    rw[List.getElem?_set_self hiσ] at e2
    cases e2
    exact⟨u,r,.inl ⟨hk,by simp⟩⟩
   ·rw[List.getElem?_set_ne (Ne.symm hj)] at e2
    obtain⟨u',r',q⟩:=hl j y v' e1 e2 e3
    refine⟨u',r',?_⟩
    rcases q with ⟨k,e⟩ | ⟨k,c,e,z⟩
    ·refine .inl ⟨k,?_⟩
     have:y≠x:=λe=>hj (ziB hN e1 (e ▸ hi))
     simp[this,e]
    ·exact .inr ⟨k,c,e,z.sameBut hs (cne y c e)⟩
  ·obtain⟨w',z⟩:=I.cell y c e
   exact⟨w',z.sameBut hs (cne y c e)⟩
  ·obtain⟨e,n,ne,nf,d⟩:=I.pin p hp
   exact⟨(hs.2 p.1 ne).trans e,n,ne,nf,d⟩
 ·have hfn:X.fn x=true:=by
   rcases hf with z | z
   ·exact z
   ·rw[z] at hk;cases hk
  obtain⟨c,hc⟩:=I.ok.has x (.inl hk)
  obtain⟨w',z⟩:=I.cell x c hc
  refine wpAny_storeName_cell I.ok.kind hk hc z (λh' hc' hs=>?_)
  obtain⟨oc,hoc,hocd⟩:=id z
  refine h {s with heap:=h'} ⟨I.ok,I.os,I.bare,⟨λb o e n hb hx=>?_,λb o e n hb hx=>?_,I.base.free,λb o e hx=>?_,I.base.tups,I.base.frzs,I.base.tbls⟩,⟨m,hn.sameBut hs (Ne.symm (cne x c hc)),λj y v' e1 e2 e3=>?_⟩,λy c' e=>?_,I.free,I.freeC,λp hp=>?_,tracked ⟨oc,hoc,I.freeC x c hc⟩ hs,by simpa using I.len⟩ ⟨c,hs,.inr hc⟩
  ·exact (hs.2 b (Nat.ne_of_lt (Nat.lt_of_lt_of_le (Heap.lt_size e) (I.ok.cab x c hfn hc)))).trans (I.base.keep b o e n hb hx)
  ·obtain⟨sl,e1⟩:=I.base.slot b o e n hb hx
   exact⟨sl,(hs.2 b (Nat.ne_of_lt (Nat.lt_of_lt_of_le (Heap.lt_size e) (I.ok.cab x c hfn hc)))).trans e1⟩
  ·obtain⟨o',e1⟩:=I.base.there b o e hx
   exact⟨o',(hs.2 b (Nat.ne_of_lt (Nat.lt_of_lt_of_le (Heap.lt_size e) (I.ok.cab x c hfn hc)))).trans e1⟩
  ·by_cases hj:j=i
   ·subst hj
    rw[hi] at e1;cases e1
    rw[List.getElem?_set_self hiσ] at e2
    cases e2
    exact⟨u,r,.inr ⟨.inl hk,c,hc,hc'⟩⟩
   ·rw[List.getElem?_set_ne (Ne.symm hj)] at e2
    obtain⟨u',r',q⟩:=hl j y v' e1 e2 e3
    refine⟨u',r',?_⟩
    rcases q with q | ⟨k,c',e,z'⟩
    ·exact .inl q
    ·refine .inr ⟨k,c',e,z'.sameBut hs ?_⟩
     rintro rfl
     exact hj (ziB hN e1 (I.ok.inj _ _ _ e hc ▸ hi))
  ·by_cases hcc:c'=c
   ·subst hcc;exact⟨_,hc'⟩
   ·obtain⟨w2,z2⟩:=I.cell y c' e
    exact⟨w2,z2.sameBut hs hcc⟩
  ·obtain⟨e,n,ne,nf,d⟩:=I.pin p hp
   refine⟨(hs.2 p.1 ?_).trans e,n,ne,nf,d⟩
   intro q
   rw[q,hoc] at e
   have q':oc=p.2:=Option.some.inj e
   exact d w' (by rw[<-q'];exact hocd)
theorem zgB(I:Inv X pins σ H s)(hN:X.N.Nodup)(hi:X.N[i]?=some x)(hx:Loc X.env.scope x)(r:RelV v u)(h:∀ s',Inv X pins (σ.set i (some v)) H s'->Q () s')(hf:X.fn x=true\/X.env.scope.names.lookup x=some .local:=by first | exact .inl rfl | exact .inr rfl | assumption):wpAny M A (storeName X.env x u) Q E s:=
 zjm I hN hi hx r (λs' I' _=>h s' I') hf
theorem Inv.call'(I:Inv X pins σ H s)(ho:s'.os=s.os)(u:Un (frs X.stack) ch H H' s.heap s'.heap)(hok:HOk X.prog X.w H' s'.heap)(hg:AllBare s'.gens)(hch:∀ b∈ch,(b∈X.ex\/X.s₀.heap.objs.size<=b)/\b≠X.env.locals/\(∀ x c,X.env.cells.lookup x=some c->c≠b)/\∀ p∈X.pn++pins,p.1≠b):Inv X pins σ H' s':=by
 obtain⟨h',g',d',t',o'⟩:=s'
 have e:o'=s.os:=ho
 subst e
 exact I.call (g':=g') (t':=t') (d':=d') u hok hg hch
end

abbrev XK:=Value->Option Addr->Hp->Prop
abbrev St:=List (Option V)
abbrev VK:=V->Hp->Prop
abbrev TE:=St->Hp->VK->Prop
abbrev TT:=St->Hp->(Bool->Hp->Prop)->Prop
abbrev TA:=St->Hp->(List V->Hp->Prop)->Prop
structure Ends where
 nx:St->Hp->Prop
 rt:VK
 bk:St->Hp->Prop:=λ_ _=>False
 ct:St->Hp->Prop:=λ_ _=>False
abbrev TS:=Ends->St->Hp->Prop
def EP (X:Cx)(pins:List (Addr × Obj))(σ:St)(Q:VK)(u:Value)(s':Shared):Prop:=∃ v H',Inv X pins σ H' s'/\RelV v u/\Q v H'
def TP (X:Cx)(pins:List (Addr × Obj))(σ:St)(Q:Bool->Hp->Prop)(b:Bool)(s':Shared):Prop:=∃ H',Inv X pins σ H' s'/\Q b H'
def AP (X:Cx)(pins:List (Addr × Obj))(σ:St)(Q:List V->Hp->Prop)(us:List Value)(s':Shared):Prop:=∃ vs H',Inv X pins σ H' s'/\Vals vs us/\Q vs H'
def SP (X:Cx)(pins:List (Addr × Obj))(D:Ends)(f:Flow)(s':Shared):Prop:=
 match f with
 | .next=>∃ σ' H',Inv X pins σ' H' s'/\D.nx σ' H'
 | .brk=>∃ σ' H',Inv X pins σ' H' s'/\D.bk σ' H'
 | .cont=>∃ σ' H',Inv X pins σ' H' s'/\D.ct σ' H'
 | .ret u=>∃ v σ' H',Inv X pins σ' H' s'/\RelV v u/\D.rt v H'
def PE (X:Cx)(e:Expr)(t:TE):Prop:=
 ∀ (pins:List (Addr × Obj)) (s:Shared) (σ:St) (H:Hp) (Q:VK),Inv X pins σ H s->t σ H Q->wpAny (model X.prog X.w) X.A (eval e X.env) (EP X pins σ Q) X.xe s
def PT (X:Cx)(e:Expr)(t:TT):Prop:=
 ∀ (pins:List (Addr × Obj)) (s:Shared) (σ:St) (H:Hp) (Q:Bool->Hp->Prop),Inv X pins σ H s->t σ H Q->wpAny (model X.prog X.w) X.A (isTrue e X.env (eval e X.env)) (TP X pins σ Q) X.xe s
def PW (X:Cx)(e:Expr)(t:TT):Prop:=
 ∀ (whole:Sem Value) (pins:List (Addr × Obj)) (s:Shared) (σ:St) (H:Hp) (Q:Bool->Hp->Prop),Inv X pins σ H s->t σ H Q->wpAny (model X.prog X.w) X.A (isTrue e X.env whole) (TP X pins σ Q) X.xe s
variable {e:Expr}
theorem PW.pt{t:TT}(h:PW X e t):PT X e t:=h _
def PA (X:Cx)(es:List Expr)(t:TA):Prop:=
 ∀ (pos:Pos) (pins:List (Addr × Obj)) (s:Shared) (σ:St) (H:Hp) (Q:List V->Hp->Prop),Inv X pins σ H s->t σ H Q->wpAny (model X.prog X.w) X.A (spliced (backTo pos (starEach es X.env))) (AP X pins σ Q) X.xe s
def PS (X:Cx)(st:Stmt)(t:TS):Prop:=
 ∀ (pins:List (Addr × Obj)) (s:Shared) (σ:St) (H:Hp) (D:Ends),Inv X pins σ H s->t D σ H->wpAny (model X.prog X.w) X.A (exec st X.env) (SP X pins D) X.xe s
def PSs (X:Cx)(st:List Stmt)(t:TS):Prop:=
 ∀ (pins:List (Addr × Obj)) (s:Shared) (σ:St) (H:Hp) (D:Ends),Inv X pins σ H s->t D σ H->wpAny (model X.prog X.w) X.A (execs st X.env) (SP X pins D) X.xe s
theorem thn{t:Sem α}{Q Q':α->Shared->Prop}(h:wpAny M A t Q E s)(hQ:∀ a s,Q a s->Q' a s):wpAny M A t Q' E s:=wpAny_mono h hQ λ_ _ x=>x
variable {Q:Value->Shared->Prop}{ta tb:TE}{σ:St}{R:V->V->Hp->Prop}{pos:Pos}{op:CmpOp}{c:Expr}
section

theorem bin{a b:Expr}(ha:PE X a ta)(hb:PE X b tb)(I:Inv X pins σ H s)(h:ta σ H λx H1=>tb σ H1 λy H2=>R x y H2){Q:α->Shared->Prop}{f:Value->Value->Sem α}(hf:∀ v u s2 x y H2,Inv X pins σ H2 s2->RelV x v->RelV y u->R x y H2->wpAny (model X.prog X.w) X.A (f v u) Q X.xe s2):
  wpAny (model X.prog X.w) X.A (eval a X.env) (λv s₁=>wpAny (model X.prog X.w) X.A (eval b X.env) (λu s₂=>wpAny (model X.prog X.w) X.A (f v u) Q X.xe s₂) X.xe s₁) X.xe s:=by
 refine thn (ha pins s σ H _ I h) λv s1 ⟨x,H1,I1,r1,q1⟩=>?_
 refine thn (hb pins s1 σ H1 _ I1 q1) λu s2 ⟨y,H2,I2,r2,q2⟩=>?_
 exact hf v u s2 x y H2 I2 r1 r2 q2
def tVar (i:Nat):TE:=λσ H Q=>∃ v,σ[i]?=some (some v)/\Q v H
def tC (v:V):TE:=λ_ H Q=>Q v H
theorem zq1(hN:X.N[i]?=some x)(hv:Vis X.env.scope x)(hd:(x == ("__debug__" : Str))=false:=by decide)(hcd:(x == ("__classdict__" : Str))=false:=by decide):PE X (.Name x pos) (tVar i):=by
 intro pins s σ H Q I h
 obtain⟨v,e,h⟩:=h
 obtain⟨m,hn,hl⟩:=I.loc
 obtain⟨u,r,l⟩:=hl i x v hN e hv
 have fin:EP X pins σ Q u s:=⟨v,H,I,r,h⟩
 rcases l with ⟨hk,hm⟩ | ⟨hk,c,hc,hcell⟩
 ·exact wpAny_Name (wpAny_loadName_local I.ok.kind hk hn hm fin) hd
 ·rcases hk with hk | hk
  ·exact wpAny_Name (wpAny_loadName_cell I.ok.kind hk hc hcell fin) hd
  ·exact wpAny_Name (wpAny_loadName_free I.ok.kind hk hc hcell fin hcd) hd
theorem zad {i j pos} : PE X (.Constant (.int i) j pos) (tC (.int i)):=λ_ _ _ H _ I h=>wpAny_Constant_int ⟨.int i,H,I.tok _,⟨_,rfl⟩,h⟩
theorem zcx {b j pos} : PE X (.Constant (.bool b) j pos) (tC (.bl b)):=λ_ _ _ H _ I h=>Constant_bool ⟨.bl b,H,I,rfl,h⟩
theorem zcQ {j pos} : PE X (.Constant .none j pos) (tC .non):=λ_ _ _ H _ I h=>Constant_none ⟨.non,H,I,rfl,h⟩
theorem zbi {x j pos} : PE X (.Constant (.str x) j pos) (tC (.str x)):=λ_ _ _ H _ I h=>Calls.Constant_str ⟨.str x,H,I.tok _,⟨_,rfl⟩,h⟩
def Gl (X:Cx)(x:Str):Prop:=X.env.kindOf x=some .globalImplicit
theorem ze2(I:Inv X pins σ H s)(hg:Gl X x)(hm:X.mg x=some u)(h:Q u s)(hd:(x == ("__debug__" : Str))=false:=by decide):wpAny (model X.prog X.w) X.A (eval (.Name x pos) X.env) Q E s:=
 Calls.Name_function_global I.ok.kind hg (Calls.loadGlobal_global (by rw[I.ok.glob];exact I.mod.glob.keeps I.bk) hm h) hd
theorem zid(I:Inv X pins σ H s)(hg:Gl X x)(hm:X.mg x=none)(hv:bootBuiltins x=some u)(h:Q u s)(hn:x≠ "__name__":=by decide)(hd:(x == ("__debug__" : Str))=false:=by decide):wpAny (model X.prog X.w) X.A (eval (.Name x pos) X.env) Q E s:=by
 obtain⟨mb,h1,h2⟩:=I.mod.blt
 exact Calls.Name_function_global I.ok.kind hg (Calls.loadGlobal_builtin (by rw[I.ok.glob];exact I.mod.glob.keeps I.bk) hm (by rw[I.ok.blt];exact h1.keeps I.bk) ((h2 x hn).trans hv) h) hd
theorem zmA(hg:Gl X x)(hm:X.mg x=some u)(r:RelV v u)(hd:(x == ("__debug__" : Str))=false:=by decide):PE X (.Name x pos) (tC v):=
 λ_ _ _ H _ I h=>ze2 I hg hm ⟨v,H,I,r,h⟩ hd
theorem zmB(hg:Gl X x)(hm:X.mg x=none)(hv:bootBuiltins x=some u)(r:RelV v u)(hn:x≠ "__name__":=by decide)(hd:(x == ("__debug__" : Str))=false:=by decide):PE X (.Name x pos) (tC v):=
 λ_ _ _ H _ I h=>zid I hg hm hv ⟨v,H,I,r,h⟩ hn hd
variable {a b:Expr}
def PC (X:Cx)(op:CmpOp)(a b:Expr)(t:TE):Prop:=
 ∀ (pins:List (Addr × Obj)) (s:Shared) (σ:St) (H:Hp) (Q:VK),Inv X pins σ H s->t σ H Q->
  wpAny (model X.prog X.w) X.A (eval a X.env) (λv s₁=>wpAny (model X.prog X.w) X.A (eval b X.env) (λu s₂=>wpAny (model X.prog X.w) X.A (compareOp op v u) (EP X pins σ Q) X.xe s₂) X.xe s₁) X.xe s
def tB (t:TE):TT:=λσ H Q=>t σ H λx H1=>∃ c,x=.bl c/\Q c H1
theorem zq2{t:TE}(h:PC X op a b t)(h1:behindInMarks op b=false:=by first | exact nobehind _ (by decide) (by decide) | rfl):PE X (.Compare a [op] [b] pos) t:=λpins s σ H Q I hw=>wpAny_Compare1 (h pins s σ H Q I hw) h1
theorem zgT{t:TE}(h:PC X op a b t)(h1:behindInMarks op b=false:=by first | exact nobehind _ (by decide) (by decide) | rfl):PT X (.Compare a [op] [b] pos) (tB t):=by
 intro pins s σ H Q I hw
 refine wpAny_isTrue_Compare1 (thn (h pins s σ H _ I hw) λv s1 h1=>thn h1 λu s2 h2=>thn h2 λc s3 ⟨x,H1,I1,r1,q1⟩=>?_) h1
 obtain⟨d,rfl,q⟩:=q1
 cases r1
 exact wpAny_truthy_bool ⟨H1,I1,q⟩
theorem zcp{t:TE}(h:PE X e t)(he:∀ whole,isTrue e X.env whole=(do let v <-whole;standAt e.pos;holding [v] (truthy v)):=by intro _;rfl):PT X e (tB t):=by
 intro pins s σ H Q I hw
 refine isTrue_plain (thn (h pins s σ H _ I hw) λv s1 ⟨x,H1,I1,r1,q1⟩=>?_) (he _)
 obtain⟨d,rfl,q⟩:=q1
 cases r1
 exact wpAny_truthy_bool ⟨H1,I1,q⟩
variable {tA tB':TT}{rest:List Expr}
def tAnd (t u:TT):TT:=λσ H Q=>t σ H λc H1=>if c=true then u σ H1 Q else Q false H1
def tOr (t u:TT):TT:=λσ H Q=>t σ H λc H1=>if c=true then Q true H1 else u σ H1 Q
def tNot (t:TT):TT:=λσ H Q=>t σ H λc H1=>Q (!c) H1
theorem zkx (ha:PT X a tA):PW X (.BoolOp .And [a] pos) tA:=by
 intro wh pins s σ H Q I h
 refine isTrue_and (thn (ha pins s σ H Q I h) λc s1 e=>?_)
 cases c with
 | true=>exact isTrue_and_nil e
 | false=>exact e
theorem zfg (ha:PT X a tA):PW X (.BoolOp .Or [a] pos) tA:=by
 intro wh pins s σ H Q I h
 refine isTrue_or (thn (ha pins s σ H Q I h) λc s1 e=>?_)
 cases c with
 | false=>exact isTrue_or_nil e
 | true=>exact e
theorem zmC (ha:PT X a tA)(hb:PW X (.BoolOp .And (b::rest) pos) tB'):PW X (.BoolOp .And (a::b::rest) pos) (tAnd tA tB'):=by
 intro wh pins s σ H Q I h
 refine isTrue_and (thn (ha pins s σ H _ I h) λc s1 ⟨H1,I1,q1⟩=>?_)
 cases c with
 | true=>exact hb wh pins s1 σ H1 Q I1 q1
 | false=>exact⟨H1,I1,q1⟩
theorem zgq (ha:PT X a tA)(hb:PW X (.BoolOp .Or (b::rest) pos) tB'):PW X (.BoolOp .Or (a::b::rest) pos) (tOr tA tB'):=by
 intro wh pins s σ H Q I h
 refine isTrue_or (thn (ha pins s σ H _ I h) λc s1 ⟨H1,I1,q1⟩=>?_)
 cases c with
 | true=>exact⟨H1,I1,q1⟩
 | false=>exact hb wh pins s1 σ H1 Q I1 q1
theorem zgf (ha:PT X a tA):PT X (.UnaryOp .Not a pos) (tNot tA):=by
 intro pins s σ H Q I h
 exact isTrue_not (ha pins s σ H (λc H1=>Q (!c) H1) I h)
def zq3 (ta tb:TE):TE:=λσ H Q=>ta σ H λx H1=>∃ c,x=.bl c/\if c=true then tb σ H1 Q else Q (.bl false) H1
theorem zb2 {op}{t:TE}(h:PE X a t):PE X (.BoolOp op [a] pos) t:=λpins s σ H Q I hw=>BoolOp_one (h pins s σ H Q I hw)
theorem zbF (ha:PE X a ta)(hb:PE X (.BoolOp .And (b::rest) pos) tb):PE X (.BoolOp .And (a::b::rest) pos) (zq3 ta tb):=by
 intro pins s σ H Q I h
 refine BoolOp_and (thn (ha pins s σ H _ I h) λv s1 ⟨x,H1,I1,r1,q1⟩=>?_)
 obtain⟨c,rfl,q1⟩:=q1
 cases r1
 refine wpAny_truthy_bool ?_
 cases c with
 | true=>exact hb pins s1 σ H1 Q I1 q1
 | false=>exact⟨.bl false,H1,I1,rfl,q1⟩
def tIf (t:TT)(ta tb:TE):TE:=λσ H Q=>t σ H λc H1=>if c=true then ta σ H1 Q else tb σ H1 Q
theorem ziC(hc:PT X c tA)(ha:PE X a ta)(hb:PE X b tb):PE X (.IfExp c a b pos) (tIf tA ta tb):=by
 intro pins s σ H Q I h
 refine wpAny_IfExp (thn (hc pins s σ H _ I h) λd s1 ⟨H1,I1,q1⟩=>?_)
 cases d with
 | true=>exact ha pins s1 σ H1 Q I1 q1
 | false=>exact hb pins s1 σ H1 Q I1 q1
end

def SqL (K:Fg)(H:Hp)(a:Addr)(xs:List V):Prop:=
 Rd H a (.lst xs)\/
  ∃ (o:Obj) (its:Array Value) (n:Nat),K.lookup a=some o/\o.cls=.type "list" /\o.dict=none/\o.data=.seq its n/\its.size<=sizeLine/\Vals xs its.toList
def SqT (K:Fg)(H:Hp)(a:Addr)(xs:List V):Prop:=
 Rd H a (.tup xs)\/
  ∃ (o:Obj) (its:Array Value) (n:Nat),K.lookup a=some o/\o.cls=.type "tuple" /\o.data=.seq its n/\its.size<=sizeLine/\Vals xs its.toList
def absV:Value->Option V
 | .none=>some .non
 | .bool b=>some (.bl b)
 | .int i _=>some (.int i)
 | .str x _=>some (.str x)
 | .bytes b _=>some (.byt b)
 | .float b _=>some (.flt b)
 | .ref a=>some (.ref a)
 | .type n=>some (.ty n)
 | _=>none
theorem RelV.abs{x:V}(r:RelV x u):absV u=some x:=by
 cases x with
 | non=>cases r;rfl
 | bl _=>cases r;rfl
 | int _=>obtain⟨t,rfl⟩:=r;rfl
 | str _=>obtain⟨t,rfl⟩:=r;rfl
 | byt _=>obtain⟨t,rfl⟩:=r;rfl
 | flt _=>obtain⟨t,rfl⟩:=r;rfl
 | ref _=>cases r;rfl
 | ty _=>cases r;rfl
variable {y:V}
theorem RelV.inj{x:V}(r:RelV x u)(q:RelV y u):x=y:=Option.some.inj (r.abs.symm.trans q.abs)
theorem Vals.inj:∀ {xs ys:List V}{us:List Value},Vals xs us->Vals ys us->xs=ys
 | _,_,_,.nil,.nil=>rfl
 | _,_,_,.cons r t,.cons r' t'=>by rw[r.inj r',Vals.inj t t']
variable {K:Fg}
section
variable {ys:List V}
theorem SqL.of(h:H a=some (.lst xs)):SqL K H a xs:=.inl (.inl h)
theorem SqT.of(h:H a=some (.tup xs)):SqT K H a xs:=.inl (.inl h)
theorem Inv.list (I:Inv X pins σ H s)(h:SqL X.K H a xs):∃ its:List Value,Vals xs its/\PlainL s.heap a its.toArray/\xs.length<=sizeLine:=by
 rcases h with h | ⟨o,its,n,hk,hc,hd,hs,hz,r⟩
 ·obtain⟨z,its,n,r,e⟩:=h.ok I.hok
  exact⟨its,r,⟨_,n,e,rfl,rfl,rfl⟩,z⟩
 ·refine⟨its.toList,r,⟨o,n,I.kIn a o hk,hc,hd,by simpa using hs⟩,?_⟩
  have e:=r.length
  simp only[Array.length_toList] at e
  omega
theorem Inv.tuple (I:Inv X pins σ H s)(h:SqT X.K H a xs):∃ its:List Value,Vals xs its/\IsTup s.heap a its.toArray/\xs.length<=sizeLine:=by
 rcases h with h | ⟨o,its,n,hk,hc,hs,hz,r⟩
 ·obtain⟨z,its,r,p⟩:=h.ok I.hok
  exact⟨its,r,p,z⟩
 ·refine⟨its.toList,r,⟨o,I.kIn a o hk,hc,n,by simpa using hs⟩,?_⟩
  have e:=r.length
  simp only[Array.length_toList] at e
  omega
theorem Inv.list_inj (I:Inv X pins σ H s)(h:SqL X.K H a xs)(h':SqL X.K H a ys):xs=ys:=by
 obtain⟨its,r,⟨o,n,e,_,_,d⟩,_⟩:=I.list h
 obtain⟨its',r',⟨o',n',e',_,_,d'⟩,_⟩:=I.list h'
 rw[e] at e';cases e'
 rw[d] at d'
 injection d' with d1 _
 have:its=its':=by simpa using congrArg Array.toList d1
 subst this
 exact r.inj r'
theorem Inv.tuple_inj (I:Inv X pins σ H s)(h:SqT X.K H a xs)(h':SqT X.K H a ys):xs=ys:=by
 obtain⟨its,r,⟨o,e,_,n,d⟩,_⟩:=I.tuple h
 obtain⟨its',r',⟨o',e',_,n',d'⟩,_⟩:=I.tuple h'
 rw[e] at e';cases e'
 rw[d] at d'
 injection d' with d1 _
 have:its=its':=by simpa using congrArg Array.toList d1
 subst this
 exact r.inj r'
end

abbrev Cx.wish (X:Cx)(E:Value->Shared->Prop):Cx:={X with xe:=E}
abbrev Cx.nox (X:Cx):Cx:=X.wish λ_ _=>False
theorem Cx.Ok.wish(ok:X.Ok)(E:Value->Shared->Prop):(X.wish E).Ok:=
 ⟨ok.mod,ok.kind,ok.glob,ok.blt,ok.above,ok.inj,ok.has,ok.cab,ok.hd,ok.frames,ok.stk,ok.exf,ok.bs,ok.bsz,ok.noex,ok.exfs,ok.funs,ok.frf⟩
theorem Cx.Ok.unwish(ok:(X.wish E).Ok):X.Ok:=
 ⟨ok.mod,ok.kind,ok.glob,ok.blt,ok.above,ok.inj,ok.has,ok.cab,ok.hd,ok.frames,ok.stk,ok.exf,ok.bs,ok.bsz,ok.noex,ok.exfs,ok.funs,ok.frf⟩
section
theorem Inv.wish (I:Inv X pins σ H s)(E:Value->Shared->Prop):Inv (X.wish E) pins σ H s:=⟨I.ok.wish E,I.os,I.bare,I.base,I.loc,I.cell,I.free,I.freeC,I.pin,I.hok,I.len⟩
theorem Inv.unwish (I:Inv (X.wish E) pins σ H s):Inv X pins σ H s:=⟨I.ok.unwish,I.os,I.bare,I.base,I.loc,I.cell,I.free,I.freeC,I.pin,I.hok,I.len⟩
theorem SP.unwish{D:Ends}{f:Flow}(h:SP (X.wish E) pins D f s'):SP X pins D f s':=by
 cases f with
 | next=>obtain⟨σ',H',I,q⟩:=h;exact⟨σ',H',I.unwish,q⟩
 | brk=>obtain⟨σ',H',I,q⟩:=h;exact⟨σ',H',I.unwish,q⟩
 | cont=>obtain⟨σ',H',I,q⟩:=h;exact⟨σ',H',I.unwish,q⟩
 | ret u=>obtain⟨v,σ',H',I,r,q⟩:=h;exact⟨v,σ',H',I.unwish,r,q⟩
theorem PSs.nox {st:List Stmt}{t:TS}(h:PSs X.nox st t):PSs X st t:=λpins s σ H D I hw=>
 wpAny_mono (h pins s σ H D (I.wish _) hw) (λ_ _ q=>q.unwish) λ_ _ z=>False.elim z
end

variable {tc:TT}{te:TE}
section
variable {st:Stmt}{rest:List Stmt}{t u:TS}
def zpO:TS:=λD σ H=>D.nx σ H
def tSeq (t u:TS):TS:=λD σ H=>t {D with nx:=u D} σ H
theorem zaA:PSs X [] zpO:=λ_ _ σ H _ I h=>wpAny_execs_nil ⟨σ,H,I,h⟩
theorem zaf (h1:PS X st t)(h2:PSs X rest u):PSs X (st::rest) (tSeq t u):=by
 intro pins s σ H D I h
 refine wpAny_execs_cons (thn (h1 pins s σ H {D with nx:=u D} I h) λf s1 q=>?_)
 cases f with
 | next=>
  obtain⟨σ',H',I',q⟩:=q
  exact h2 pins s1 σ' H' D I' q
 | ret v=>exact q
 | brk=>exact q
 | cont=>exact q
theorem zag (h1:PS X st t):PSs X [st] t:=by
 intro pins s σ H D I h
 refine wpAny_execs_cons (thn (h1 pins s σ H D I h) λf s1 q=>?_)
 cases f with
 | next=>exact wpAny_execs_nil q
 | ret v=>exact q
 | brk=>exact q
 | cont=>exact q
theorem Inv.quiet(I:Inv X pins σ H s):interactive X.env=false:=by simp[interactive,I.ok.kind]
def zmD (te:TE):TS:=λD σ H=>te σ H λ_ H1=>D.nx σ H1
theorem za1 (he:PE X e te)(hs:swapsWith e none pos.line X.env=pure false:=by rfl):PS X (.Expr e pos) (zmD te):=by
 intro pins s σ H D I h
 exact wpAny_Expr_any (thn (he pins s σ H _ I h) λv s1 ⟨x,H1,I1,r1,q1⟩=>⟨σ,H1,I1,q1⟩) I.quiet hs
def tRet (te:TE):TS:=λD σ H=>te σ H D.rt
theorem zan (he:PE X e te):PS X (.Return (some e) pos) (tRet te):=by
 intro pins s σ H D I h
 exact wpAny_Return_some (thn (he pins s σ H _ I h) λv s1 ⟨x,H1,I1,r1,q1⟩=>⟨x,σ,H1,I1,r1,q1⟩)
def tRetN:TS:=λD _ H=>D.rt .non H
theorem zmE:PS X (.Return none pos) tRetN:=λ_ _ σ H _ I h=>wpAny_Return_none ⟨.non,σ,H,I,rfl,h⟩
def tIfS (c:TT)(t u:TS):TS:=λD σ H=>c σ H λb H1=>if b=true then t D σ H1 else u D σ H1
theorem za4{a b:List Stmt}(hc:PT X c tc)(ha:PSs X a t)(hb:PSs X b u):PS X (.If c a b pos) (tIfS tc t u):=by
 intro pins s σ H D I h
 refine wpAny_If (thn (hc pins s σ H _ I h) λd s1 ⟨H1,I1,q1⟩=>?_)
 cases d with
 | true=>exact ha pins s1 σ H1 D I1 q1
 | false=>exact hb pins s1 σ H1 D I1 q1
def zq4:TS:=λ_ _ _=>False
end

abbrev TG:=V->St->Hp->(St->Hp->Prop)->Prop
abbrev TGs:=List V->St->Hp->(St->Hp->Prop)->Prop
def PG (X:Cx)(target:Expr)(t:TG):Prop:=
 ∀ (pins:List (Addr × Obj)) (s:Shared) (σ:St) (H:Hp) (v:V) (u:Value) (Q:St->Hp->Prop),Inv X pins σ H s->RelV v u->t v σ H Q->
  wpAny (model X.prog X.w) X.A (assign target X.env u) (λ_ s'=>∃ σ' H',Inv X pins σ' H' s'/\Q σ' H') X.xe s
def PGs (X:Cx)(ts:List Expr)(t:TGs):Prop:=
 ∀ (pins:List (Addr × Obj)) (s:Shared) (σ:St) (H:Hp) (vs:List V) (us:List Value) (Q:St->Hp->Prop),Inv X pins σ H s->Vals vs us->t vs σ H Q->
  wpAny (model X.prog X.w) X.A (assignInOrder ((assignEach ts X.env).map (·.2)) us) (λ_ s'=>∃ σ' H',Inv X pins σ' H' s'/\Q σ' H') X.xe s
abbrev TSet:=V->V->V->Hp->(Hp->Prop)->Prop
def PSet (X:Cx)(t:TSet):Prop:=
 ∀ (pins:List (Addr × Obj)) (s:Shared) (σ:St) (H:Hp) (o i v:V) (ov iv u:Value) (Q:Hp->Prop),Inv X pins σ H s->RelV o ov->RelV i iv->RelV v u->t o i v H Q->
  wpAny (model X.prog X.w) X.A (setItem ov iv u) (λ_ s'=>∃ H',Inv X pins σ H' s'/\Q H') X.xe s
variable {es:List Expr}{n:Nat}{tg:Expr}{g:TG}{pos':Pos}
section
def zn6 (i:Nat):TG:=λv σ H Q=>Q (σ.set i (some v)) H
theorem zaD(hN:X.N.Nodup)(hi:X.N[i]?=some x:=by rfl)(hx:Loc X.env.scope x:=by first | exact Or.inl rfl | exact Or.inr rfl)(hf:X.fn x=true\/X.env.scope.names.lookup x=some .local:=by first | exact .inl rfl | exact .inr rfl | assumption):PG X (.Name x pos) (zn6 i):=by
 intro pins s σ H v u Q I r h
 exact wpAny_assign_Name (zgB I hN hi hx r (λs' I'=>⟨_,H,I',h⟩) hf)
def gNil:TGs:=λvs σ H Q=>vs=[]/\Q σ H
inductive ConsI (vs:List V)(P:V->List V->Prop):Prop
 | mk (v:V) (r:List V) (e:vs=v::r) (q:P v r):ConsI vs P
def gCons (t:TG)(u:TGs):TGs:=λvs σ H Q=>ConsI vs λv r=>t v σ H λσ' H'=>u r σ' H' Q
theorem zgU:PGs X [] gNil:=by
 intro pins s σ H vs us Q I r h
 obtain⟨e,h⟩:=h
 subst e
 cases r
 exact assignInOrder_nil ⟨σ,H,I,h⟩
theorem zcm{t:TG}{u:TGs}(h1:PG X e t)(h2:PGs X es u)(hs:(assignEach (e::es) X.env).map (·.2)=assign e X.env::(assignEach es X.env).map (·.2):=by rfl):PGs X (e::es) (gCons t u):=by
 intro pins s σ H vs us Q I r h
 obtain⟨v,vr,e1,h⟩:=h
 subst e1
 cases r with
 | cons r rr=>
  rw[hs]
  refine assignInOrder_cons (thn (h1 pins s σ H _ _ _ I r h) λ_ s1 ⟨σ1,H1,I1,q1⟩=>?_)
  exact h2 pins s1 σ1 H1 _ _ Q I1 rr q1
inductive TupI (K:Fg)(n:Nat)(v:V)(H:Hp)(P:List V->Prop):Prop
 | mk (a:Addr) (xs:List V) (e:v=.ref a) (h:SqT K H a xs) (l:xs.length=n) (q:P xs):TupI K n v H P
def gTup (K:Fg)(n:Nat)(t:TGs):TG:=λv σ H Q=>TupI K n v H λxs=>t xs σ H Q
theorem zq5{k:Nat}{t:TGs}(hc:X.calm=true)(h:PGs X es t)(hn:(assignEach es X.env).length=n:=by rfl)(hst:(assignEach es X.env).findIdx? (·.1)=none:=by rfl):PG X (.Tuple es k pos) (gTup X.K n t):=by
 intro pins s σ H v u Q I r hw
 obtain⟨a,xs,e1,hq,hl,hw⟩:=hw
 subst e1
 cases r
 obtain⟨its,rv,ht,hz⟩:=I.tuple hq
 refine assign_Tuple_tuple (I.ok.hd hc) ht (by simp[hn,<-hl,rv.length]) hst λh' hx=>?_
 have I1:Inv X pins σ H {s with heap:=h'}:=I.kept (t':=s.toks) λb o e=>hx b o (Nat.ne_of_lt (Heap.lt_size e)) e
 exact h pins _ σ H xs _ Q I1 (by simpa using rv) hw
def gSub (to ti:TE)(t:TSet):TG:=λv σ H Q=>to σ H λo H1=>ti σ H1 λi H2=>t o i v H2 λH3=>Q σ H3
theorem zlc {o i:Expr}{to ti:TE}{t:TSet}(ho:PE X o to)(hi:PE X i ti)(hs:PSet X t)
  (ha:∀ v,assign (.Subscript o i pos) X.env v=(do
   let ov <-holding [v] (eval o X.env)
   let iv <-holding [v,ov] (eval i X.env)
   standAt pos
   holding [v,ov,iv] (setItem ov iv v)
   release [v,ov,iv] []):=by intro _;rfl):PG X (.Subscript o i pos) (gSub to ti t):=by
 intro pins s σ H v u Q I r h
 rw[ha]
 refine wpAny_bind (wpAny_holding (thn (ho pins s σ H _ I h) λov s1 ⟨x,H1,I1,r1,q1⟩=>?_))
 refine wpAny_bind (wpAny_holding (thn (hi pins s1 σ H1 _ I1 q1) λiv s2 ⟨y,H2,I2,r2,q2⟩=>?_))
 refine wpAny_bind (wpAny_standAt (wpAny_bind (wpAny_holding (thn (hs pins s2 σ H2 x y v ov iv u _ I2 r1 r2 r q2) λ_ s3 ⟨H3,I3,q3⟩=>?_))))
 exact wpAny_release ⟨σ,H3,I3,q3⟩
def tAsg (te:TE)(g:TG):TS:=λD σ H=>te σ H λx H1=>g x σ H1 D.nx
theorem zld(he:PE X e te)(hg:PG X tg g)(hs:swapsWithSole [tg] e pos.line X.env=pure false:=by rfl)(hw:swappedStores [tg] e X.env=pure none:=by rfl)(h1:(assignEach [tg] X.env).map (·.2)=[assign tg X.env]:=by rfl):PS X (.Assign [tg] e pos) (tAsg te g):=by
 intro pins s σ H D I h
 refine wpAny_Assign_stores (thn (he pins s σ H _ I h) λv s1 ⟨x,H1,I1,r1,q1⟩=>?_) hs hw
 rw[h1]
 exact thn (hg pins s1 σ H1 x v _ I1 r1 q1) λ_ s2 q=>q
theorem zas(hN:X.N.Nodup)(he:PE X e te)(hi:X.N[i]?=some x:=by rfl)(hx:Loc X.env.scope x:=by first | exact Or.inl rfl | exact Or.inr rfl)(hs:swapsWith e (some (.Name x pos')) pos.line X.env=pure false:=by rfl)(hf:X.fn x=true\/X.env.scope.names.lookup x=some .local:=by first | exact .inl rfl | exact .inr rfl | assumption):
  PS X (.Assign [.Name x pos'] e pos) (tAsg te (zn6 i)):=by
 intro pins s σ H D I h
 refine wpAny_Assign_Name (thn (he pins s σ H _ I h) λv s1 ⟨y,H1,I1,r1,q1⟩=>?_) hs
 exact zgB I1 hN hi hx r1 (λs2 I2=>⟨_,H1,I2,q1⟩) hf
end

variable {body:List Stmt}
section
def zq6 (c:TT)(tb:TS):TS:=λD σ H=>∃ W:Nat->St->Hp->Prop,(∃ m,W m σ H)/\∀ m σ H,W m σ H->
 c σ H λb H1=>if b=true then ∃ N:St->Hp->Prop,(∀ σ' H',N σ' H'->∃ m',m'<m/\W m' σ' H')/\tb {D with nx:=N,ct:=N,bk:=D.nx} σ H1 else D.nx σ H1
theorem ziD{tb:TS}(hp:PassesOwn (model X.prog X.w) X.A X.env X.xe)(hc:PT X c tc)(hb:PSs X body tb):PS X (.While c body [] pos) (zq6 tc tb):=by
 intro pins s σ H D I h
 obtain⟨W,⟨m0,w0⟩,turn⟩:=h
 refine wpAny_While (codeAny_whileLoop (λn s'=>∃ σ' H',Inv X pins σ' H' s'/\W n σ' H') ?_ m0 ⟨σ,H,I,w0⟩)
 rintro n s1 ⟨σ1,H1,I1,w1⟩
 refine wpAny_passesOwn hp (thn (hc pins s1 σ1 H1 _ I1 (turn n σ1 H1 w1)) λb s2 ⟨H2,I2,q2⟩=>?_)
 cases b with
 | true=>
  obtain⟨N,hN,q2⟩:=q2
  rw[if_pos rfl]
  refine wpAny_passesOwn hp (thn (hb pins s2 σ1 H2 _ I2 q2) λf s3 q3=>?_)
  cases f with
  | next=>
   obtain⟨σ3,H3,I3,n3⟩:=q3
   obtain⟨m',hm,w3⟩:=hN σ3 H3 n3
   exact⟨m',hm,σ3,H3,I3,w3⟩
  | cont=>
   obtain⟨σ3,H3,I3,n3⟩:=q3
   obtain⟨m',hm,w3⟩:=hN σ3 H3 n3
   exact⟨m',hm,σ3,H3,I3,w3⟩
  | brk=>exact q3
  | ret v=>exact q3
 | false=>
  rw[if_neg Bool.false_ne_true]
  exact wpAny_execs_nil ⟨σ1,H2,I2,q2⟩
end

structure It where
 go:Nat->Hp->Prop
 yld:Nat->Hp->V->Hp->Prop
 stop:Nat->Hp->Prop
def FpOk (X:Cx)(pins:List (Addr × Obj))(H:Hp)(b:Addr):Prop:=
 H b=none/\b≠X.env.locals/\b∉X.fs/\(b∈X.ex\/X.s₀.heap.objs.size<=b)/\(∀ x c,X.env.cells.lookup x=some c->c≠b)/\∀ p∈X.pn++pins,p.1≠b
theorem Inv.fpOk(I:Inv X pins σ H s)(hb:s.heap.objs.size<=b)(hn:H' b=none):FpOk X pins H' b:=by
 refine⟨hn,Nat.ne_of_gt (Nat.lt_of_lt_of_le I.lt hb),I.nofs hb,.inr (Nat.le_trans I.sz hb),λx c e z=>?_,λp hp z=>?_⟩
 ·obtain⟨v,q⟩:=I.cell x c e
  exact absurd (Nat.lt_of_lt_of_le q.lt (by rw[z];exact hb)) (Nat.lt_irrefl _)
 ·exact absurd (Nat.lt_of_lt_of_le (Heap.lt_size (I.pin p hp).1) (by rw[z];exact hb)) (Nat.lt_irrefl _)
structure Turn (P:Program)(w:World)(K:Fg)(tg:Expr)(J:It)(fp:List Addr)(it:Addr)(tn:Nat->Heap->Prop):Prop where
 mem:it∈fp
 obj:∀ i h,tn i h->∀ b∈fp,∃ o,h.get? b=some o/\∀ v,o.data≠.cell v
 keep:∀ i h h',tn i h->(∀ b∈fp,∀ o,h.get? b=some o->h'.get? b=some o)->tn i h'
 item:∀ (X:Cx),X.prog=P->X.w=w->X.K=K->X.calm=true->∀ (i:Nat) (pins:List (Addr × Obj)) (s:Shared) (σ:St) (H:Hp) (E:Value->Shared->Prop),Inv X pins σ H s->(∀ b∈fp,FpOk X pins H b)->tn i s.heap->J.go i H->
  wpAny (model P w) X.A (pyNext (.ref it)) (λr s1=>∃ u,r=some u/\
   wpAny (model P w) X.A (letOwnedTupleGo tg (.ref it) u) (λ_ s2=>∃ x H',Inv X pins σ H' s2/\RelV x u/\J.yld i H x H'/\tn (i+1) s2.heap/\∀ b∈fp,H' b=none) E s1) E s
 done:∀ (X:Cx),X.prog=P->X.w=w->X.K=K->X.calm=true->∀ (i:Nat) (pins:List (Addr × Obj)) (s:Shared) (σ:St) (H:Hp) (E:Value->Shared->Prop),Inv X pins σ H s->(∀ b∈fp,FpOk X pins H b)->tn i s.heap->J.stop i H->
  wpAny (model P w) X.A (pyNext (.ref it)) (λr s1=>r=none/\Inv X pins σ H s1) E s
 self:∀ (A:Around) (i:Nat) (s:Shared) (Q:Value->Shared->Prop) (E:Value->Shared->Prop),tn i s.heap->Q (.ref it) s->wpAny (model P w) A (pyIter (.ref it)) Q E s
abbrev TI:=St->Hp->(It->Hp->Prop)->Prop
def PIE (X:Cx)(pins:List (Addr × Obj))(σ:St)(tg:Expr)(R:It->Hp->Prop)(itv:Value)(s2:Shared):Prop:=
 ∃ (it:Addr) (fp:List Addr) (tn:Nat->Heap->Prop) (J:It) (H':Hp),itv=.ref it/\Inv X pins σ H' s2/\Turn X.prog X.w X.K tg J fp it tn/\tn 0 s2.heap/\(∀ b∈fp,FpOk X pins H' b)/\R J H'
def PI (X:Cx)(tg iter:Expr)(wi:TI):Prop:=
 ∀ (pins:List (Addr × Obj)) (s:Shared) (σ:St) (H:Hp) (R:It->Hp->Prop),Inv X pins σ H s->wi σ H R->
  wpAny (model X.prog X.w) X.A (eval iter X.env) (λv s1=>wpAny (model X.prog X.w) X.A (pyIter v) (PIE X pins σ tg R) X.xe s1) X.xe s
theorem zpP{o:Obj}{n:String}{vs:Array Value}{Q:Unit->Shared->Prop}(ho:s.heap.get? it=some o)(hc:o.cls=.type n)(hd:o.data=.fields vs)(hn:["enumerate","zip","dict_itemiterator","dict_reverseitemiterator","odict_iterator","itertools.zip_longest","itertools.pairwise"].contains n=false)(hQ:Q () s):wpAny M A (letOwnedTupleGo tg (.ref it) u) Q E s:=by
  unfold letOwnedTupleGo
  cases tg <;> first
    | exact wpAny_pure hQ
    | (cases u <;> first
        | exact wpAny_pure hQ
        | (refine wpAny_bind (wpAny_load ho ?_)
           rw[hc,hd]
           show wpAny M A (if (["enumerate","zip","dict_itemiterator","dict_reverseitemiterator","odict_iterator","itertools.zip_longest","itertools.pairwise"].contains n && vs[0]? == some (rawInt _))=true then _ else _) Q E s
           rw[if_neg (by intro h;rw[hn,Bool.false_and] at h;cases h)]
           exact wpAny_pure hQ))
def Itl (K:Fg)(a:Addr):It:=
 ⟨λi H=>∃ xs x,SqL K H a xs/\xs[i]?=some x,λi H x H'=>H'=H/\∀ xs,SqL K H a xs->xs[i]?=some x,λi H=>∃ xs,SqL K H a xs/\xs.length<=i⟩
def Itt (K:Fg)(a:Addr):It:=
 ⟨λi H=>∃ xs x,SqT K H a xs/\xs[i]?=some x,λi H x H'=>H'=H/\∀ xs,SqT K H a xs->xs[i]?=some x,λi H=>∃ xs,SqT K H a xs/\xs.length<=i⟩
def Itr (lo:Int)(n:Nat):It:=⟨λi _=>i<n,λi H x H'=>H'=H/\x=.int (lo+i),λi _=>n<=i⟩
theorem zmF(a it:Addr):Turn P w K tg (Itl K a) [it] it (λi h=>h.IsListIter it a i) where
 mem:=by simp
 obj:=λi h st b hb=>by
  have e:b=it:=by simpa using hb
  subst e
  obtain⟨o,e,c,d⟩:=st
  exact⟨o,e,λv z=>by rw[d] at z;cases z⟩
 keep:=λi h h' st k=>st.at λo e=>k it (by simp) o e
 item:=by
  intro X hP hw hK hc i pins s σ H E I hf st hg
  subst hP hw hK
  obtain⟨xs,x,hq,hx⟩:=hg
  obtain⟨its,rv,p,hz⟩:=I.list hq
  obtain⟨u,hu,ru⟩:=rv.get hx
  obtain⟨f0,f1,f2,f3,f4,f5⟩:=hf it (by simp)
  refine wpAny_pyNext_list_item st p.isList (x:=u) (by simpa using hu) λh' st' sb=>?_
  have I1:Inv X pins σ H {s with heap:=h'}:=I.turned (t':=s.toks) (λb o hb e=>(sb.2 b hb).trans e) f0 f1 f3 f4 f5
  obtain⟨o,e,c,d⟩:=id st'
  exact⟨u,rfl,zpP (s:={s with heap:=h'}) e c d (by decide) ⟨x,H,I1,ru,⟨rfl,λys hy=>by rw[I.list_inj hy hq];exact hx⟩,st',λb hb=>(hf b hb).1⟩⟩
 done:=by
  intro X hP hw hK hc i pins s σ H E I hf st hg
  subst hP hw hK
  obtain⟨xs,hq,hx⟩:=hg
  obtain⟨its,rv,p,hz⟩:=I.list hq
  obtain⟨f0,f1,f2,f3,f4,f5⟩:=hf it (by simp)
  have hl:=rv.length
  exact wpAny_pyNext_list_end (I.ok.hd hc) st p.isList (by simp;omega) λh' eb=>⟨rfl,I.turned (t':=s.toks) (λb o hb e=>eb b o hb e) f0 f1 f3 f4 f5⟩
 self:=λ_ _ _ _ _ st h=>wpAny_pyIter_listiter st h
theorem zlO(a it:Addr):Turn P w K tg (Itt K a) [it] it (λi h=>h.IsTupleIter it a i) where
 mem:=by simp
 obj:=λi h st b hb=>by
  have e:b=it:=by simpa using hb
  subst e
  obtain⟨o,e,c,d⟩:=st
  exact⟨o,e,λv z=>by rw[d] at z;cases z⟩
 keep:=λi h h' st k=>st.at λo e=>k it (by simp) o e
 item:=by
  intro X hP hw hK hc i pins s σ H E I hf st hg
  subst hP hw hK
  obtain⟨xs,x,hq,hx⟩:=hg
  obtain⟨its,rv,p,hz⟩:=I.tuple hq
  obtain⟨u,hu,ru⟩:=rv.get hx
  obtain⟨f0,f1,f2,f3,f4,f5⟩:=hf it (by simp)
  refine wpAny_pyNext_tuple_item st (show s.heap.IsTuple a its.toArray from p) (x:=u) (by simpa using hu) λh' st' sb=>?_
  have I1:Inv X pins σ H {s with heap:=h'}:=I.turned (t':=s.toks) (λb o hb e=>(sb.2 b hb).trans e) f0 f1 f3 f4 f5
  obtain⟨o,e,c,d⟩:=id st'
  exact⟨u,rfl,zpP (s:={s with heap:=h'}) e c d (by decide) ⟨x,H,I1,ru,⟨rfl,λys hy=>by rw[I.tuple_inj hy hq];exact hx⟩,st',λb hb=>(hf b hb).1⟩⟩
 done:=by
  intro X hP hw hK hc i pins s σ H E I hf st hg
  subst hP hw hK
  obtain⟨xs,hq,hx⟩:=hg
  obtain⟨its,rv,p,hz⟩:=I.tuple hq
  obtain⟨f0,f1,f2,f3,f4,f5⟩:=hf it (by simp)
  have hl:=rv.length
  exact wpAny_pyNext_tuple_end (I.ok.hd hc) st (show s.heap.IsTuple a its.toArray from p) (by simp;omega) λh' eb=>⟨rfl,I.turned (t':=s.toks) (λb o hb e=>eb b o hb e) f0 f1 f3 f4 f5⟩
 self:=λ_ _ _ _ _ st h=>wpAny_pyIter_tupleiter st h
theorem zlP(it:Addr)(lo:Int)(n:Nat):Turn P w K tg (Itr lo n) [it] it (λi h=>IsRangeIter h it (lo+(i:Nat) * 1) ((n:Int) - (i:Nat)) 1) where
 mem:=by simp
 obj:=λi h st b hb=>by
  have e:b=it:=by simpa using hb
  subst e
  exact⟨_,st,λv z=>by
   have z':Data.fields _=Data.cell v:=z
   cases z'⟩
 keep:=λi h h' st k=>k it (by simp) _ st
 item:=by
  intro X hP hw hK hc i pins s σ H E I hf st hg
  subst hP hw hK
  obtain⟨f0,f1,f2,f3,f4,f5⟩:=hf it (by simp)
  have W:=Walks.range (prog:=X.prog) (w:=X.w) (I.ok.hd hc) it lo 1 n
  refine W.item i s _ _ hg st λv h' tk hv st' kk=>?_
  obtain⟨t,rfl⟩:=hv
  have I1:Inv X pins σ H {s with heap:=h',toks:=tk}:=I.turned (λb o hb e=>kk b o (by simpa using hb) e) f0 f1 f3 f4 f5
  refine⟨_,rfl,zpP (s:={s with heap:=h',toks:=tk}) (n:="range_iterator") st' rfl rfl (by decide) ⟨.int (lo+i),H,I1,⟨t,?_⟩,⟨rfl,rfl⟩,st',λb hb=>(hf b hb).1⟩⟩
  rw[Int.mul_one]
 done:=by
  intro X hP hw hK hc i pins s σ H E I hf st hg
  subst hP hw hK
  obtain⟨f0,f1,f2,f3,f4,f5⟩:=hf it (by simp)
  exact wpAny_pyNext_range_end (I.ok.hd hc) st (by have:n<=i:=hg;omega) λh' eb=>⟨rfl,I.turned (t':=s.toks) (λb o hb e=>eb b o hb e) f0 f1 f3 f4 f5⟩
 self:=λ_ _ _ _ _ st h=>wpAny_pyIter_rangeiter st h
variable {l:Expr}{tl:TE}{lo:Int}{p:Pos}{fp:List Addr}
section
def zpQ (K:Fg)(tl:TE):TI:=λσ H R=>tl σ H λx H1=>∃ a,x=.ref a/\(∃ xs,SqL K H1 a xs)/\R (Itl K a) H1
def iTup (K:Fg)(tl:TE):TI:=λσ H R=>tl σ H λx H1=>∃ a,x=.ref a/\(∃ xs,SqT K H1 a xs)/\R (Itt K a) H1
theorem zpR(hl:PE X l tl):PI X tg l (zpQ X.K tl):=by
 intro pins s σ H R I h
 refine thn (hl pins s σ H _ I h) λv s1 ⟨x,H1,I1,r1,q1⟩=>?_
 obtain⟨a,e,⟨xs,hq⟩,q⟩:=q1
 subst e
 cases r1
 obtain⟨its,rv,p,hz⟩:=I1.list hq
 refine wpAny_pyIter_list p.isList ?_
 refine⟨s1.heap.objs.size,[s1.heap.objs.size],_,_,H1,rfl,I1.kept (t':=s1.toks) λb o e=>Heap.get?_push_of_some _ e,zmF a _,⟨_,Heap.get?_push_size _ rfl,rfl,rfl⟩,λb hb=>?_,q⟩
 have e:b=s1.heap.objs.size:=by simpa using hb
 subst e
 exact I1.fpOk (Nat.le_refl _) (I1.hok.fresh (Nat.le_refl _))
theorem zq7(hl:PE X l tl):PI X tg l (iTup X.K tl):=by
 intro pins s σ H R I h
 refine thn (hl pins s σ H _ I h) λv s1 ⟨x,H1,I1,r1,q1⟩=>?_
 obtain⟨a,e,⟨xs,hq⟩,q⟩:=q1
 subst e
 cases r1
 obtain⟨its,rv,p,hz⟩:=I1.tuple hq
 refine wpAny_pyIter_tuple (show s1.heap.IsTuple a its.toArray from p) ?_
 refine⟨s1.heap.objs.size,[s1.heap.objs.size],_,_,H1,rfl,I1.kept (t':=s1.toks) λb o e=>Heap.get?_push_of_some _ e,zlO a _,⟨_,Heap.get?_push_size _ rfl,rfl,rfl⟩,λb hb=>?_,q⟩
 have e:b=s1.heap.objs.size:=by simpa using hb
 subst e
 exact I1.fpOk (Nat.le_refl _) (I1.hok.fresh (Nat.le_refl _))
theorem zn7{R:It->Hp->Prop}{hi:Int}{t u v:Tok}{tk:Nat}(I:Inv X pins σ H s)(h1:-(2 ^ 62)<=lo)(h2:lo<2 ^ 62)(h3:-(2 ^ 62)<=hi)(h4:hi<2 ^ 62)(q:R (Itr lo (hi - lo).toNat) H):wpAny (model X.prog X.w) X.A (pyIter (.ref s.heap.objs.size)) (PIE X pins σ tg R) E {s with heap:=s.heap.push {cls:=.type "range",data:=.fields #[.int lo t,.int hi u,.int 1 v]},toks:=tk}:=by
 refine wpAny_pyIter_range (IsRange.new ..) (small_one h1 h2 h3 h4) ?_
 have I1:Inv X pins σ H {s with heap:=s.heap.push {cls:=.type "range",data:=.fields #[.int lo t,.int hi u,.int 1 v]},toks:=tk}:=I.kept λb o e=>Heap.get?_push_of_some _ e
 refine⟨(s.heap.push {cls:=.type "range",data:=.fields #[.int lo t,.int hi u,.int 1 v]}).objs.size,[(s.heap.push {cls:=.type "range",data:=.fields #[.int lo t,.int hi u,.int 1 v]}).objs.size],_,_,H,rfl,
  I1.kept (t':=tk) λb o e=>Heap.get?_push_of_some _ e,zlP _ lo (hi - lo).toNat,?_,λb hb=>?_,q⟩
 ·have e1:lo+((0:Nat):Int) * 1=lo:=by simp
  have e2:(((hi - lo).toNat:Nat):Int) - ((0:Nat):Int)=Builtin.Range.rangeSize lo hi 1:=by rw[rangeSize_one];split <;> omega
  show IsRangeIter _ _ (lo+((0:Nat):Int) * 1) ((((hi - lo).toNat:Nat):Int) - ((0:Nat):Int)) 1
  rw[e1,e2]
  exact Heap.get?_push_size _ rfl
 ·have e:b=(s.heap.push {cls:=.type "range",data:=.fields #[.int lo t,.int hi u,.int 1 v]}).objs.size:=by simpa using hb
  subst e
  exact I1.fpOk (Nat.le_refl _) (I1.hok.fresh (Nat.le_refl _))
def zq8 (ta:TA):TI:=λσ H R=>ta σ H λvs H1=>∃ j:Int,vs=[.int j]/\-(2 ^ 62)<=j/\j<2 ^ 62/\R (Itr 0 j.toNat) H1
theorem zei{a:Expr}{ta:TA}(hg:Gl X "range")(hm:X.mg "range"=none)(ha:PA X [a] ta)(hs:starEach [a] X.env=[(false,eval a X.env)]:=by rfl):PI X tg (.Call (.Name "range" p) [a] [] pos) (zq8 ta):=by
 intro pins s σ H R I h
 refine Call_ (zid I hg hm boot_range (PyProof.Rows.callWith_type1 (thn (ha pos pins s σ H _ I h) λus s1 ⟨vs,H1,I1,r1,q1⟩=>?_) hs rfl))
 obtain⟨j,e,q1,q2,q⟩:=q1
 subst e
 cases r1 with
 | cons r rr=>
  cases rr
  obtain⟨t,rfl⟩:=r
  exact call_range_1 (zn7 I1 (by omega) (by omega) q1 q2 (by simpa using q))
def tFor (wi:TI)(g:TG)(tb:TS):TS:=λD σ H=>wi σ H λJ H1=>∃ W:Nat->Nat->St->Hp->Prop,(∃ m,W 0 m σ H1)/\∀ i m σ H,W i m σ H->
 (J.stop i H/\D.nx σ H)\/(J.go i H/\∃ N:St->Hp->Prop,(∀ σ' H',N σ' H'->∃ m',m'<m/\W (i+1) m' σ' H')/\∀ x H',J.yld i H x H'->g x σ H' λσ2 H2=>tb {D with nx:=N,ct:=N,bk:=D.nx} σ2 H2)
def zjn (fp:List Addr)(h:Heap):List (Addr × Obj):=fp.filterMap λb=>(h.get? b).map λo=>(b,o)
theorem zeD{h:Heap}{o:Obj}(hb:b∈fp)(e:h.get? b=some o):(b,o)∈zjn fp h:=List.mem_filterMap.mpr ⟨b,hb,by rw[e];rfl⟩
theorem zmG{h:Heap}{p:Addr × Obj}(hp:p∈zjn fp h):p.1∈fp/\h.get? p.1=some p.2:=by
 obtain⟨b,hb,e⟩:=List.mem_filterMap.mp hp
 cases q:h.get? b with
 | none=>rw[q] at e;cases e
 | some o=>
  rw[q] at e
  have e':(b,o)=p:=Option.some.inj e
  subst e'
  exact⟨hb,q⟩
theorem Inv.pinned(I:Inv X pins σ H s)(hf:∀ b∈fp,FpOk X pins H b)(ho:∀ b∈fp,∃ o,s.heap.get? b=some o/\∀ v,o.data≠.cell v):Inv X (pins++zjn fp s.heap) σ H s:=
 I.pins_of λp hp=>(zma.mp hp).elim (λz=>I.pin p (List.mem_append_right _ z)) λz=>by
  obtain⟨hb,e⟩:=zmG z
  obtain⟨f0,f1,f2,_⟩:=hf p.1 hb
  obtain⟨o,e',d⟩:=ho p.1 hb
  rw[e] at e';cases e'
  exact⟨e,f0,f1,f2,d⟩
theorem Inv.unpinned{pl:List (Addr × Obj)}(I:Inv X (pins++pl) σ H s):Inv X pins σ H s:=I.pins_of λp hp=>I.pin p (List.mem_append_right _ (List.mem_append_left _ hp))
theorem zej{iter:Expr}{wi:TI}{tb:TS}(hp:PassesOwn (model X.prog X.w) X.A X.env X.xe)(hc:X.calm=true)(hi:PI X tg iter wi)(hg:PG X tg g)(hb:PSs X body tb)(hs:∀ x,foldedSetIterable iter X.env x=pure x:=by intro _;rfl):PS X (.For tg iter body [] pos) (tFor wi g tb):=by
 intro pins s σ H D I h
 refine wpAny_For (thn (hi pins s σ H _ I h) λv s1 h1=>thn h1 λitv s2 h2=>?_) hs
 obtain⟨it,fp,tn,J,H2,e,I2,T,st2,f2,W,⟨m0,w0⟩,turn⟩:=h2
 subst e
 -- what stays true of the iterator's objects through the loop
 have stat:∀ {H':Hp},(∀ b∈fp,H' b=none)->∀ b∈fp,FpOk X pins H' b:=λhn b hb=>⟨hn b hb,(f2 b hb).2⟩
 refine codeAny_forLoop_any (λn s'=>∃ i σ' H',Inv X pins σ' H' s'/\tn i s'.heap/\(∀ b∈fp,H' b=none)/\W i n σ' H') ?_ m0 ⟨0,σ,H2,I2,st2,λb hb=>(f2 b hb).1,w0⟩
 rintro n s3 ⟨i,σ3,H3,I3,st3,fr3,w3⟩
 rcases turn i n σ3 H3 w3 with ⟨stop,qn⟩ | ⟨go,N,hN,step⟩
 ·refine wpAny_passesOwn hp (thn (T.done X rfl rfl rfl hc i pins s3 σ3 H3 X.xe I3 (stat fr3) st3 stop) λr s4 ⟨hr,I4⟩=>?_)
  subst hr
  exact wpAny_execs_nil ⟨σ3,H3,I4,qn⟩
 ·refine wpAny_passesOwn hp (thn (T.item X rfl rfl rfl hc i pins s3 σ3 H3 X.xe I3 (stat fr3) st3 go) λr s4 ⟨u,hr,h4⟩=>?_)
  subst hr
  refine wpAny_passesOwn hp (thn h4 λ_ s5 ⟨x,H5,I5,r5,y5,st5,fr5⟩=>?_)
  have I5':=I5.pinned (stat fr5) (T.obj _ _ st5)
  refine wpAny_passesOwn hp (thn (hg _ s5 σ3 H5 x u _ I5' r5 (step x H5 y5)) λ_ s6 ⟨σ6,H6,I6,q6⟩=>?_)
  refine wpAny_passesOwn hp (thn (hb _ s6 σ6 H6 _ I6 q6) λf s7 q7=>?_)
  have again:∀ {σ7:St}{H7:Hp},Inv X (pins++zjn fp s5.heap) σ7 H7 s7->N σ7 H7->∃ m,m<n/\∃ i σ' H',Inv X pins σ' H' s7/\tn i s7.heap/\(∀ b∈fp,H' b=none)/\W i m σ' H':=λ{σ7 H7} I7 n7=>by
   obtain⟨m',hm,w7⟩:=hN σ7 H7 n7
   refine⟨m',hm,i+1,σ7,H7,I7.unpinned,T.keep _ _ _ st5 λb hb o e=>(I7.pin (b,o) (List.mem_append_right _ (List.mem_append_right _ (zeD hb e)))).1,λb hb=>?_,w7⟩
   obtain⟨o,e,d⟩:=T.obj _ _ st5 b hb
   exact (I7.pin (b,o) (List.mem_append_right _ (List.mem_append_right _ (zeD hb e)))).2.1
  cases f with
  | next=>obtain⟨σ7,H7,I7,n7⟩:=q7;exact again I7 n7
  | cont=>obtain⟨σ7,H7,I7,n7⟩:=q7;exact again I7 n7
  | brk=>obtain⟨σ7,H7,I7,q7⟩:=q7;exact⟨σ7,H7,I7.unpinned,q7⟩
  | ret v=>obtain⟨x7,σ7,H7,I7,r7,q7⟩:=q7;exact⟨x7,σ7,H7,I7.unpinned,r7,q7⟩
end

theorem zn8{tb:TS}{D:Ends}(Pv:Nat->St->Hp->Prop)(h0:Pv 0 σ H)(hl:∀ i σ H,i<=xs.length->Pv i σ H->SqL K H a xs)(hs:∀ i x σ H,xs[i]?=some x->Pv i σ H->g x σ H λσ2 H2=>tb {D with nx:=Pv (i+1),ct:=Pv (i+1),bk:=D.nx} σ2 H2)(hd:∀ σ H,Pv xs.length σ H->D.nx σ H):
  ∃ W:Nat->Nat->St->Hp->Prop,(∃ m,W 0 m σ H)/\∀ i m σ H,W i m σ H->
   ((Itl K a).stop i H/\D.nx σ H)\/((Itl K a).go i H/\∃ N:St->Hp->Prop,(∀ σ' H',N σ' H'->∃ m',m'<m/\W (i+1) m' σ' H')/\∀ x H',(Itl K a).yld i H x H'->g x σ H' λσ2 H2=>tb {D with nx:=N,ct:=N,bk:=D.nx} σ2 H2):=by
 refine⟨λi m σ H=>m=xs.length - i/\i<=xs.length/\Pv i σ H,⟨xs.length,by simp,Nat.zero_le _,h0⟩,?_⟩
 rintro i m σ H ⟨rfl,hi,p⟩
 have q:=hl i σ H hi p
 by_cases hlt:i<xs.length
 ·refine .inr ⟨⟨xs,xs[i],q,by simp[hlt]⟩,Pv (i+1),λσ' H' p'=>⟨xs.length - (i+1),by omega,rfl,hlt,p'⟩,λx H' y=>?_⟩
  obtain⟨e,y⟩:=y
  subst e
  exact hs i x σ _ (y xs q) p
 ·have e:i=xs.length:=by omega
  subst e
  exact .inl ⟨⟨xs,q,Nat.le_refl _⟩,hd σ H p⟩
theorem zmH{tb:TS}{D:Ends}(Pv:Nat->St->Hp->Prop)(h0:Pv 0 σ H)(hs:∀ i σ H,i<n->Pv i σ H->g (.int (lo+i)) σ H λσ2 H2=>tb {D with nx:=Pv (i+1),ct:=Pv (i+1),bk:=D.nx} σ2 H2)(hd:∀ σ H,Pv n σ H->D.nx σ H):
  ∃ W:Nat->Nat->St->Hp->Prop,(∃ m,W 0 m σ H)/\∀ i m σ H,W i m σ H->
   ((Itr lo n).stop i H/\D.nx σ H)\/((Itr lo n).go i H/\∃ N:St->Hp->Prop,(∀ σ' H',N σ' H'->∃ m',m'<m/\W (i+1) m' σ' H')/\∀ x H',(Itr lo n).yld i H x H'->g x σ H' λσ2 H2=>tb {D with nx:=N,ct:=N,bk:=D.nx} σ2 H2):=by
 refine⟨λi m σ H=>m=n - i/\i<=n/\Pv i σ H,⟨n,by simp,Nat.zero_le _,h0⟩,?_⟩
 rintro i m σ H ⟨rfl,hi,p⟩
 by_cases hlt:i<n
 ·refine .inr ⟨hlt,Pv (i+1),λσ' H' p'=>⟨n - (i+1),by omega,rfl,hlt,p'⟩,λx H' y=>?_⟩
  obtain⟨e,y⟩:=y
  subst e y
  exact hs i σ _ hlt p
 ·have e:i=n:=by omega
  subst e
  exact .inl ⟨Nat.le_refl _,hd σ H p⟩

abbrev R2:=V->V->Hp->VK->Prop
def OpR (X:Cx)(f:Value->Value->Sem Value)(r:R2):Prop:=
 ∀ (pins:List (Addr × Obj)) (s:Shared) (σ:St) (H:Hp) (x y:V) (v u:Value) (Q:VK),Inv X pins σ H s->RelV x v->RelV y u->r x y H Q->
  wpAny (model X.prog X.w) X.A (f v u) (EP X pins σ Q) X.xe s
def UnR (X:Cx)(f:Value->Sem Value)(r:V->Hp->VK->Prop):Prop:=
 ∀ (pins:List (Addr × Obj)) (s:Shared) (σ:St) (H:Hp) (x:V) (v:Value) (Q:VK),Inv X pins σ H s->RelV x v->r x H Q->
  wpAny (model X.prog X.w) X.A (f v) (EP X pins σ Q) X.xe s
def zb3 (X:Cx)(f:Value)(r:List V->Hp->VK->Prop):Prop:=
 ∀ (pins:List (Addr × Obj)) (s:Shared) (σ:St) (H:Hp) (xs:List V) (us:List Value) (Q:VK),Inv X pins σ H s->Vals xs us->r xs H Q->
  wpAny (model X.prog X.w) X.A (call f us) (EP X pins σ Q) X.xe s
def TruR (X:Cx)(r:V->Hp->(Bool->Hp->Prop)->Prop):Prop:=
 ∀ (pins:List (Addr × Obj)) (s:Shared) (σ:St) (H:Hp) (x:V) (v:Value) (Q:Bool->Hp->Prop),Inv X pins σ H s->RelV x v->r x H Q->
  wpAny (model X.prog X.w) X.A (truthy v) (TP X pins σ Q) X.xe s
def tOp (r:R2)(ta tb:TE):TE:=λσ H Q=>ta σ H λx H1=>tb σ H1 λy H2=>r x y H2 Q
def tUn (r:V->Hp->VK->Prop)(ta:TE):TE:=λσ H Q=>ta σ H λx H1=>r x H1 Q
def rI (C:Int->Int->Prop)(g:Int->Int->V):R2:=λx y H Q=>∃ i j,x=.int i/\y=.int j/\C i j/\Q (g i j) H
def rI0 (g:Int->Int->V):R2:=λx y H Q=>∃ i j,x=.int i/\y=.int j/\Q (g i j) H
def rU (g:Int->V):V->Hp->VK->Prop:=λx H Q=>∃ i,x=.int i/\Q (g i) H
variable {r:R2}
section
variable {a b:Expr}{tc:TE}

variable {f:Value->Value->Sem Value}
theorem binT(ha:PE X a ta)(hb:PE X b tb)(I:Inv X pins σ H s)(h:ta σ H λx H1=>tb σ H1 λy H2=>R x y H2)(hf:∀ v u s2 x y H2,Inv X pins σ H2 s2->RelV x v->RelV y u->R x y H2->wpAny (model X.prog X.w) X.A (f v u) Q X.xe s2):
  wpAny (model X.prog X.w) X.A (eval a X.env) (λv s₁=>wpAny (model X.prog X.w) X.A (eval b X.env) (λu s₂=>wpAny (model X.prog X.w) X.A (f v u) Q X.xe s₂) X.xe s₁) X.xe s:=by
 refine thn (ha pins s σ H _ I h) λv s1 ⟨x,H1,I1,r1,q1⟩=>?_
 refine thn (hb pins s1 σ H1 _ I1 q1) λu s2 ⟨y,H2,I2,r2,q2⟩=>?_
 exact hf v u s2 x y H2 I2 r1 r2 q2
theorem zaQ{op:Operator}(ho:OpR X (binaryOp op) r)(ha:PE X a ta)(hb:PE X b tb):PE X (.BinOp a op b pos) (tOp r ta tb):=by
 intro pins s σ H Q I h
 exact wpAny_BinOp (binT ha hb I h λv u s2 x y H2 I2 rx ry q=>ho pins s2 σ H2 x y v u Q I2 rx ry q)
theorem zcR {op:UnaryOp}{r:V->Hp->VK->Prop}(ho:UnR X (unaryOp op) r)(ha:PE X a ta):PE X (.UnaryOp op a pos) (tUn r ta):=by
 intro pins s σ H Q I h
 exact UnaryOp_ (thn (ha pins s σ H _ I h) λv s1 ⟨x,H1,I1,r1,q1⟩=>ho pins s1 σ H1 x v Q I1 r1 q1)
variable {g:Int->Int->Int}
theorem opI{C:Int->Int->Prop}(rule:∀ (i j:Int) (t u:Tok) (s:Shared) (Q:Value->Shared->Prop) (E:Value->Shared->Prop),C i j->Q (.int (g i j) s.toks) {s with toks:=s.toks+1}->wpAny (model X.prog X.w) X.A (f (.int i t) (.int j u)) Q E s):
  OpR X f (rI C λi j=>.int (g i j)):=by
 intro pins s σ H x y v u Q I rx ry h
 obtain⟨i,j,rfl,rfl,hc,q⟩:=h
 obtain⟨t,rfl⟩:=rx
 obtain⟨t',rfl⟩:=ry
 exact rule i j t t' s _ _ hc ⟨.int (g i j),H,I.tok _,⟨_,rfl⟩,q⟩
theorem opI0(rule:∀ (i j:Int) (t u:Tok) (s:Shared) (Q:Value->Shared->Prop) (E:Value->Shared->Prop),Q (.int (g i j) s.toks) {s with toks:=s.toks+1}->wpAny (model X.prog X.w) X.A (f (.int i t) (.int j u)) Q E s):
  OpR X f (rI0 λi j=>.int (g i j)):=by
 intro pins s σ H x y v u Q I rx ry h
 obtain⟨i,j,rfl,rfl,q⟩:=h
 obtain⟨t,rfl⟩:=rx
 obtain⟨t',rfl⟩:=ry
 exact rule i j t t' s _ _ ⟨.int (g i j),H,I.tok _,⟨_,rfl⟩,q⟩
theorem opB0{g:Int->Int->Bool}(rule:∀ (i j:Int) (t u:Tok) (s:Shared) (Q:Value->Shared->Prop) (E:Value->Shared->Prop),Q (.bool (g i j)) s->wpAny (model X.prog X.w) X.A (f (.int i t) (.int j u)) Q E s):
  OpR X f (rI0 λi j=>.bl (g i j)):=by
 intro pins s σ H x y v u Q I rx ry h
 obtain⟨i,j,rfl,rfl,q⟩:=h
 obtain⟨t,rfl⟩:=rx
 obtain⟨t',rfl⟩:=ry
 exact rule i j t t' s _ _ ⟨.bl (g i j),H,I,rfl,q⟩
def CDiv (i j:Int):Prop:=0<j/\j<1073741824
def CPow (i j:Int):Prop:=0<=j/\j<=1000000/\i.natAbs<2 ^ 64
def CMul (i j:Int):Prop:=(-(2 ^ 64)<i/\i<2 ^ 64)\/(-(2 ^ 64)<j/\j<2 ^ 64)
theorem CMul.ok {i j:Int}(h:CMul i j):IntMulOk i j:=by
 rcases h with ⟨h1,h2⟩ | ⟨h1,h2⟩
 ·exact .of_left (intBits_le_64 h1 h2)
 ·exact .of_right (intBits_le_64 h1 h2)
theorem zq9:OpR X (binaryOp .Add) (rI0 λi j=>.int (i+j)):=opI0 λ_ _ _ _ _ _ _ q=>add_int q
theorem zjo:OpR X (binaryOp .Sub) (rI0 λi j=>.int (i - j)):=opI0 λ_ _ _ _ _ _ _ q=>sub_int q
theorem zra:OpR X (binaryOp .Mult) (rI CMul λi j=>.int (i * j)):=opI λ_ _ _ _ _ _ _ hc q=>mul_int q hc.ok
theorem ziE:OpR X (binaryOp .FloorDiv) (rI CDiv λi j=>.int (i / j)):=opI λi j _ _ _ _ _ hc q=>by
 have h1:(0:Int)<j:=hc.1
 have h2:j<1073741824:=hc.2
 exact floordiv_int (by omega) (by rw[Int.fdiv_eq_ediv_of_nonneg i (by omega)];exact q) (.inl (PyProof.noPylong_small (by omega)))
theorem zek:OpR X (binaryOp .Mod) (rI (λ_ j=>0<j) λi j=>.int (i % j)):=opI λi j _ _ _ _ _ hc q=>by
 have h1:(0:Int)<j:=hc
 exact mod_int' (by omega) (by rw[Int.fmod_eq_emod_of_nonneg i (by omega)];exact q)
theorem zmI:OpR X (binaryOp .Pow) (rI CPow λi j=>.int (i ^ j.toNat)):=opI λ_ _ _ _ _ _ _ hc q=>pow_int_small hc.1 hc.2.1 hc.2.2 q
theorem unI {f:Value->Sem Value}{g:Int->Int}
  (rule:∀ (i:Int) (t:Tok) (s:Shared) (Q:Value->Shared->Prop) (E:Value->Shared->Prop),Q (.int (g i) s.toks) {s with toks:=s.toks+1}->wpAny (model X.prog X.w) X.A (f (.int i t)) Q E s) :
  UnR X f (rU λi=>.int (g i)):=by
 intro pins s σ H x v Q I rx h
 obtain⟨i,rfl,q⟩:=h
 obtain⟨t,rfl⟩:=rx
 exact rule i t s _ _ ⟨.int (g i),H,I.tok _,⟨_,rfl⟩,q⟩
theorem zbJ:UnR X (unaryOp .USub) (rU λi=>.int (-i)):=unI λ_ _ _ _ _ q=>neg_int q
end

def scal:V->V->Bool
 | .non,.non=>true | .non,.int _=>true | .int _,.non=>true | .non,.bl _=>true | .bl _,.non=>true | .non,.str _=>true | .str _,.non=>true
 | .int _,.int _=>true | .bl _,.bl _=>true | .str _,.str _=>true | .byt _,.byt _=>true
 | .int _,.str _=>true | .str _,.int _=>true | .bl _,.str _=>true | .str _,.bl _=>true
 | _,_=>false
def rEq:R2:=λx y H Q=>scal x y=true/\Q (.bl (decide (x=y))) H
def rNe:R2:=λx y H Q=>scal x y=true/\Q (.bl (!decide (x=y))) H
theorem zmJ {i j:Int} : decide (V.int i=V.int j)=(i == j):=by
 rw[Bool.eq_iff_iff]
 simp
theorem zpe {i j:Bool} : decide (V.bl i=V.bl j)=(i == j):=by
 rw[Bool.eq_iff_iff]
 simp
theorem zmK {i j:Str} : decide (V.str i=V.str j)=(i == j):=by
 rw[Bool.eq_iff_iff]
 simp
theorem zmL {i j:Array UInt8} : decide (V.byt i=V.byt j)=(i.toList == j.toList):=by
 rw[Bool.eq_iff_iff]
 cases i
 cases j
 simp
variable {r':R2}{op':CmpOp}
section
variable {a b:Expr}{tc:TE}
theorem zbc{Q:VK}{k k':Bool}(I:Inv X pins σ H s)(q:Q (.bl k) H)(e:k=k'):EP X pins σ Q (.bool k') s:=by
 subst e
 exact⟨.bl k,H,I,rfl,q⟩
theorem op_eq:OpR X (compareOp .Eq) rEq:=by
 intro pins s σ H x y v u Q I rx ry h
 obtain⟨hs,q⟩:=h
 cases x with
 | non=>
  cases rx
  cases y with
  | non=>cases ry;exact PySem.EqNone.eq_none_none (zbc I q (by simp))
  | bl j=>cases ry;exact PySem.EqNone.eq_none_bool (zbc I q (by simp))
  | int j=>obtain⟨t',rfl⟩:=ry;exact PySem.EqNone.eq_none_int (zbc I q (by simp))
  | str j=>obtain⟨t',rfl⟩:=ry;exact PySem.EqNone.eq_none_str (zbc I q (by simp))
  | _=>exact absurd (show false=true from hs) Bool.false_ne_true
 | bl i=>
  cases rx
  cases y with
  | non=>cases ry;exact PySem.EqNone.eq_bool_none (zbc I q (by simp))
  | bl j=>cases ry;exact eq_bool (zbc I q zpe)
  | str j=>obtain⟨t',rfl⟩:=ry;exact PySem.EqMixed.eq_bool_str (zbc I q (by simp))
  | _=>exact absurd (show false=true from hs) Bool.false_ne_true
 | int i=>
  obtain⟨t,rfl⟩:=rx
  cases y with
  | non=>cases ry;exact PySem.EqNone.eq_int_none (zbc I q (by simp))
  | int j=>obtain⟨t',rfl⟩:=ry;exact eq_int (zbc I q zmJ)
  | str j=>obtain⟨t',rfl⟩:=ry;exact PySem.EqMixed.eq_int_str (zbc I q (by simp))
  | _=>exact absurd (show false=true from hs) Bool.false_ne_true
 | str i=>
  obtain⟨t,rfl⟩:=rx
  cases y with
  | non=>cases ry;exact PySem.EqNone.eq_str_none (zbc I q (by simp))
  | bl j=>cases ry;exact PySem.EqMixed.eq_str_bool (zbc I q (by simp))
  | int j=>obtain⟨t',rfl⟩:=ry;exact PySem.EqMixed.eq_str_int (zbc I q (by simp))
  | str j=>obtain⟨t',rfl⟩:=ry;exact eq_str (zbc I q zmK)
  | _=>exact absurd (show false=true from hs) Bool.false_ne_true
 | byt i=>
  obtain⟨t,rfl⟩:=rx
  cases y with
  | byt j=>obtain⟨t',rfl⟩:=ry;exact PySem.W.eq_bytes (zbc I q zmL)
  | _=>exact absurd (show false=true from hs) Bool.false_ne_true
 | _=>cases y <;> exact absurd (show false=true from hs) Bool.false_ne_true
theorem zrb:OpR X (compareOp .NotEq) rNe:=by
 intro pins s σ H x y v u Q I rx ry h
 obtain⟨hs,q⟩:=h
 cases x with
 | non=>
  cases rx
  cases y with
  | non=>cases ry;exact PySem.EqNone.ne_none_none (zbc I q (by simp))
  | bl j=>cases ry;exact PySem.EqNone.ne_none_bool (zbc I q (by simp))
  | int j=>obtain⟨t',rfl⟩:=ry;exact PySem.EqNone.ne_none_int (zbc I q (by simp))
  | str j=>obtain⟨t',rfl⟩:=ry;exact PySem.EqNone.ne_none_str (zbc I q (by simp))
  | _=>exact absurd (show false=true from hs) Bool.false_ne_true
 | bl i=>
  cases rx
  cases y with
  | non=>cases ry;exact PySem.EqNone.ne_bool_none (zbc I q (by simp))
  | bl j=>cases ry;exact ne_bool (zbc I q (congrArg not zpe))
  | str j=>obtain⟨t',rfl⟩:=ry;exact PySem.EqMixed.ne_bool_str (zbc I q (by simp))
  | _=>exact absurd (show false=true from hs) Bool.false_ne_true
 | int i=>
  obtain⟨t,rfl⟩:=rx
  cases y with
  | non=>cases ry;exact PySem.EqNone.ne_int_none (zbc I q (by simp))
  | int j=>obtain⟨t',rfl⟩:=ry;exact ne_int (zbc I q (congrArg not zmJ))
  | str j=>obtain⟨t',rfl⟩:=ry;exact PySem.EqMixed.ne_int_str (zbc I q (by simp))
  | _=>exact absurd (show false=true from hs) Bool.false_ne_true
 | str i=>
  obtain⟨t,rfl⟩:=rx
  cases y with
  | non=>cases ry;exact PySem.EqNone.ne_str_none (zbc I q (by simp))
  | bl j=>cases ry;exact PySem.EqMixed.ne_str_bool (zbc I q (by simp))
  | int j=>obtain⟨t',rfl⟩:=ry;exact PySem.EqMixed.ne_str_int (zbc I q (by simp))
  | str j=>obtain⟨t',rfl⟩:=ry;exact ne_str (zbc I q (congrArg not zmK))
  | _=>exact absurd (show false=true from hs) Bool.false_ne_true
 | byt i=>
  obtain⟨t,rfl⟩:=rx
  cases y with
  | byt j=>obtain⟨t',rfl⟩:=ry;exact PySem.W.ne_bytes (zbc I q (congrArg not zmL))
  | _=>exact absurd (show false=true from hs) Bool.false_ne_true
 | _=>cases y <;> exact absurd (show false=true from hs) Bool.false_ne_true
theorem zmM:OpR X (compareOp .Lt) (rI0 λi j=>.bl (decide (i<j))):=opB0 λ_ _ _ _ _ _ _ q=>lt_int q
theorem zlQ:OpR X (compareOp .LtE) (rI0 λi j=>.bl (decide (i<=j))):=opB0 λ_ _ _ _ _ _ _ q=>le_int q
theorem zpS:OpR X (compareOp .Gt) (rI0 λi j=>.bl (decide (j<i))):=opB0 λ_ _ _ _ _ _ _ q=>gt_int q
theorem zrc:OpR X (compareOp .GtE) (rI0 λi j=>.bl (decide (j<=i))):=opB0 λ_ _ _ _ _ _ _ q=>ge_int q
theorem zgV:OpR X (compareOp .Is) (λx y H Q=>y=.non/\Q (.bl (decide (x=.non))) H):=by
 intro pins s σ H x y v u Q I rx ry h
 obtain⟨rfl,q⟩:=h
 cases ry
 refine is_none_gen (zbc I q ?_)
 cases x <;> first
  | (cases rx;rfl)
  | (obtain⟨t,rfl⟩:=rx;rfl)
theorem zky:OpR X (compareOp .IsNot) (λx y H Q=>y=.non/\Q (.bl (!decide (x=.non))) H):=by
 intro pins s σ H x y v u Q I rx ry h
 obtain⟨rfl,q⟩:=h
 cases ry
 refine isnot_none_gen (zbc I q ?_)
 cases x <;> first
  | (cases rx;rfl)
  | (obtain⟨t,rfl⟩:=rx;rfl)
theorem OpR.or{f:Value->Value->Sem Value}(h:OpR X f r)(h':OpR X f r'):OpR X f (λx y H Q=>r x y H Q\/r' x y H Q):=by
 intro pins s σ H x y v u Q I rx ry q
 rcases q with q | q
 ·exact h pins s σ H x y v u Q I rx ry q
 ·exact h' pins s σ H x y v u Q I rx ry q
theorem zat(b:Expr)(h:op≠.In:=by decide)(h2:op≠.NotIn:=by decide):behindInMarks op b=false:=by
 have e1:(op == CmpOp.In)=false:=by cases op <;> first | rfl | exact absurd rfl h
 have e2:(op == CmpOp.NotIn)=false:=by cases op <;> first | rfl | exact absurd rfl h2
 cases b <;> simp[behindInMarks,e1,e2]
theorem zbe(ho:OpR X (compareOp op) r)(ha:PE X a ta)(hb:PE X b tb)(hm:behindInMarks op b=false):PE X (.Compare a [op] [b] pos) (tOp r ta tb):=by
 intro pins s σ H Q I h
 exact wpAny_Compare1 (binT ha hb I h λv u s2 x y H2 I2 rx ry q=>ho pins s2 σ H2 x y v u Q I2 rx ry q) hm
def zpT (t:TE):TT:=λσ H Q=>t σ H λx H'=>∃ k,x=.bl k/\Q k H'
theorem zax(ho:OpR X (compareOp op) r)(ha:PE X a ta)(hb:PE X b tb)(hm:behindInMarks op b=false):PT X (.Compare a [op] [b] pos) (zpT (tOp r ta tb)):=by
 intro pins s σ H Q I h
 refine wpAny_isTrue_Compare1 (thn (ha pins s σ H _ I h) λv s1 ⟨x,H1,I1,r1,q1⟩=>thn (hb pins s1 σ H1 _ I1 q1) λu s2 ⟨y,H2,I2,r2,q2⟩=>
  thn (ho pins s2 σ H2 x y v u _ I2 r1 r2 q2) λc s3 ⟨z,H3,I3,r3,k,e,q3⟩=>?_) hm
 subst e
 cases r3
 exact wpAny_truthy_bool ⟨H3,I3,q3⟩
def zmN (r r':R2)(ta tb tc:TE):TE:=λσ H Q=>ta σ H λx H1=>tb σ H1 λy H2=>r x y H2 λz H3=>∃ k,z=.bl k/\
 (if k=true then tc σ H3 λw' H4=>r' y w' H4 Q else Q (.bl false) H3)
theorem zn9(ho:OpR X (compareOp op) r)(ho':OpR X (compareOp op') r')(ha:PE X a ta)(hb:PE X b tb)(hc:PE X c tc)(hm:lastMarks [op,op'] [b,c]=false:=by with_unfolding_all rfl):PE X (.Compare a [op,op'] [b,c] pos) (zmN r r' ta tb tc):=by
 intro pins s σ H Q I h
 refine Compare_chain (thn (ha pins s σ H _ I h) λv s1 ⟨x,H1,I1,r1,q1⟩=>chain_link (thn (hb pins s1 σ H1 _ I1 q1) λu s2 ⟨y,H2,I2,r2,q2⟩=>
  thn (ho pins s2 σ H2 x y v u _ I2 r1 r2 q2) λd s3 ⟨z,H3,I3,r3,k,e,q3⟩=>?_)) hm
 subst e
 cases r3
 refine wpAny_truthy_bool ?_
 cases k with
 | false=>exact ite_ff ⟨.bl false,H3,I3,rfl,q3⟩
 | true=>exact ite_tt (chain_last (thn (hc pins s3 σ H3 _ I3 q3) λw' s4 ⟨z',H4,I4,r4,q4⟩=>ho' pins s4 σ H4 y z' u w' Q I4 r2 r4 q4))
theorem zoa(ho:OpR X (compareOp op) r)(ho':OpR X (compareOp op') r')(ha:PE X a ta)(hb:PE X b tb)(hc:PE X c tc)(hm:lastMarks [op,op'] [b,c]=false:=by with_unfolding_all rfl):PT X (.Compare a [op,op'] [b,c] pos) (zpT (zmN r r' ta tb tc)):=by
 intro pins s σ H Q I h
 refine isTrue_chain (thn (ha pins s σ H _ I h) λv s1 ⟨x,H1,I1,r1,q1⟩=>test_link (thn (hb pins s1 σ H1 _ I1 q1) λu s2 ⟨y,H2,I2,r2,q2⟩=>
  thn (ho pins s2 σ H2 x y v u _ I2 r1 r2 q2) λd s3 ⟨z,H3,I3,r3,k,e,q3⟩=>?_)) hm
 subst e
 cases r3
 refine wpAny_truthy_bool ?_
 cases k with
 | false=>
  obtain⟨k',e',q'⟩:=q3
  cases e'
  exact ite_ff ⟨H3,I3,q'⟩
 | true=>
  refine ite_tt (test_last (thn (hc pins s3 σ H3 _ I3 q3) λw' s4 ⟨z',H4,I4,r4,q4⟩=>thn (ho' pins s4 σ H4 y z' u w' _ I4 r2 r4 q4) λd' s5 ⟨z2,H5,I5,r5,k2,e2,q5⟩=>?_))
  subst e2
  cases r5
  exact wpAny_truthy_bool ⟨H5,I5,q5⟩
def TruV (K:Fg)(x:V)(H:Hp)(k:Bool):Prop:=
 match x with
 | .non=>k=false
 | .bl b=>k=b
 | .int i=>k=(i != 0)
 | .str y=>y.length<=sizeLine/\k=((y.length:Int) != 0)
 | .byt y=>y.size<=sizeLine/\k=((y.size:Int) != 0)
 | .ref p=>(∃ xs,SqL K H p xs/\k=!xs.isEmpty)\/(∃ xs,SqT K H p xs/\k=!xs.isEmpty)\/∃ kvs,H p=some (.dK kvs)/\k=!kvs.isEmpty
 | _=>False
theorem zlR {κ:Type}{kvs:List (κ × V)}{vs:List (κ × Value)}(r:KV kvs vs):(!vs.isEmpty)=!kvs.isEmpty:=by
 cases r <;> rfl
theorem zie{its:List Value}(r:Vals xs its):(!its.toArray.isEmpty)=!xs.isEmpty:=by
 cases r <;> simp
theorem zif:(sizeLine:Nat)<2 ^ 63:=by rw[sizeLine_eq];decide
theorem zrd:TruR X (λx H Q=>∃ k,TruV X.K x H k/\Q k H):=by
 intro pins s σ H x v Q I rx h
 obtain⟨k,e,q⟩:=h
 have hl:=zif
 have hs:sizeLine=16777216:=sizeLine_eq
 cases x with
 | non=>
  cases rx
  have e':k=false:=e
  subst e'
  exact truthy_none ⟨H,I,q⟩
 | bl b=>
  cases rx
  have e':k=b:=e
  subst e'
  exact wpAny_truthy_bool ⟨H,I,q⟩
 | int i=>
  obtain⟨t,rfl⟩:=rx
  have e':k=(i != 0):=e
  subst e'
  exact PySem.P.truthy_int ⟨H,I,q⟩
 | str y=>
  obtain⟨t,rfl⟩:=rx
  obtain⟨hy,e'⟩:y.length<=sizeLine/\k=((y.length:Int) != 0):=e
  subst e'
  exact PySem.P.truthy_str (by omega) ⟨H,I.tok _,q⟩
 | byt y=>
  obtain⟨t,rfl⟩:=rx
  obtain⟨hy,e'⟩:y.size<=sizeLine/\k=((y.size:Int) != 0):=e
  subst e'
  exact PySem.W.truthy_bytes (by omega) ⟨H,I.tok _,q⟩
 | ref p=>
  cases rx
  have e':(∃ xs,SqL X.K H p xs/\k=!xs.isEmpty)\/(∃ xs,SqT X.K H p xs/\k=!xs.isEmpty)\/∃ kvs,H p=some (.dK kvs)/\k=!kvs.isEmpty:=e
  rcases e' with ⟨xs,hx,e'⟩ | ⟨xs,hx,e'⟩ | ⟨kvs,hx,e'⟩
  ·subst e'
   obtain⟨its,r,pl,hz⟩:=I.list hx
   have hlen:=r.length
   exact wpAny_truthy_list pl.isList (by simp only[zst];omega) ⟨H,I.tok _,by rw[zie r];exact q⟩
  ·subst e'
   obtain⟨its,r,pl,hz⟩:=I.tuple hx
   have hlen:=r.length
   exact truthy_tuple pl (by simp only[zst];omega) ⟨H,I.tok _,by rw[zie r];exact q⟩
  ·subst e'
   obtain⟨hz,hS,vs,r,m⟩:kvs.length<=sizeLine/\(p == sysModules)=false/\∃ vs,KV kvs vs/\s.heap.DictOf (zbh X.prog X.w) p vs:=I.hok p _ hx
   have hlen:kvs.length=vs.length:=Paired.length r
   exact wpAny_truthy_dict hS m (by omega) ⟨H,I.tok _,by rw[zlR r];exact q⟩
 | _=>exact (show False from e).elim
theorem zob (ha:PE X a ta)(he:∀ whole,isTrue a X.env whole=(do let v <-whole;standAt a.pos;holding [v] (truthy v))) :
  PT X a (λσ H Q=>ta σ H λx H'=>∃ k,TruV X.K x H' k/\Q k H'):=by
 intro pins s σ H Q I h
 exact isTrue_plain (thn (ha pins s σ H _ I h) λv s1 ⟨x,H1,I1,r1,q1⟩=>zrd pins s1 σ H1 x v Q I1 r1 q1) (he _)
variable {x:V}
theorem zhM(r:Vals [x] us):∃ u,us=[u]/\RelV x u:=by
 cases r with
 | cons r1 r2=>cases r2;exact⟨_,rfl,r1⟩
theorem zoc(r:Vals [x,y] us):∃ u w',us=[u,w']/\RelV x u/\RelV y w':=by
 cases r with
 | cons r1 r2=>
  cases r2 with
  | cons r3 r4=>cases r4;exact⟨_,_,rfl,r1,r3⟩
theorem zmO (hc:X.calm=true):zb3 X (.builtin "min") (λxs H Q=>∃ i j,xs=[.int i,.int j]/\Q (.int (if j<i then j else i)) H):=by
 intro pins s σ H xs us Q I r h
 obtain⟨i,j,rfl,q⟩:=h
 obtain⟨u,w',rfl,⟨t,rfl⟩,⟨t',rfl⟩⟩:=zoc r
 refine min_two_ints (I.ok.hd hc) λh' tk k=>⟨_,H,I.kept k,?_,q⟩
 by_cases hj:j<i
 ·rw[if_pos hj,if_pos hj];exact⟨_,rfl⟩
 ·rw[if_neg hj,if_neg hj];exact⟨_,rfl⟩
theorem zmP:zb3 X (.type "int") (λxs H Q=>(∃ i,xs=[.int i]/\Q (.int i) H)\/∃ k,xs=[.bl k]/\Q (.int (if k then 1 else 0)) H):=by
 intro pins s σ H xs us Q I r h
 rcases h with ⟨i,rfl,q⟩ | ⟨k,rfl,q⟩
 ·obtain⟨u,rfl,t,rfl⟩:=zhM r
  exact call_int_int ⟨.int i,H,I,⟨_,rfl⟩,q⟩
 ·obtain⟨u,rfl,r1⟩:=zhM r
  cases r1
  exact call_int_bool ⟨.int (if k then 1 else 0),H,I.tok _,⟨_,rfl⟩,q⟩
end

structure ObjM (h:Heap)(x dx C:Addr)(mA:Str->Option Value):Prop where
 obj:h.get? x=some (PySem.W.instObj C dx)
 ns:h.Ns1 dx mA
 ne:dx≠x
variable {dx:Addr}{mA:Str->Option Value}
theorem zmQ{h:Heap}(n:h.Ns1 dx mA):∃ od,h.get? dx=some od/\∀ name,PySem.W.lookIn name od=some (mA name):=by
 obtain⟨o,es,ep,ho,hd,hk,_,hm⟩:=n
 refine⟨o,ho,λname=>?_⟩
 have e:=hm name
 unfold nsFind findBy at e
 rw[<-Array.find?_toList] at e
 unfold PySem.W.lookIn
 rw[hd]
 dsimp only
 split
 ·rename_i y q
  rw[q] at e
  exact congrArg some e
 ·rename_i q
  rw[q] at e
  have a:es.toList.any (·.refKey)=false:=by
   rw[List.any_eq_false]
   intro y hy
   obtain⟨z,t,hkey⟩:=hk y (Array.mem_toList_iff.mp hy)
   simp[DictEntry.refKey,hkey]
  have a':¬ es.toList.any (·.refKey)=true:=by rw[a];exact Bool.false_ne_true
  rw[if_neg a']
  exact congrArg some e
variable {C:Addr}
theorem ObjM.look{h:Heap}{x:Addr}(I:ObjM h x dx C mA):∃ od,PySem.W.InstAt h x (PySem.W.instObj C dx) C (some od)/\∀ name,PySem.W.lookIn name od=some (mA name):=
 let ⟨od,ho,hl⟩:=zmQ I.ns
 ⟨od,⟨I.obj,rfl,rfl,ho⟩,hl⟩
variable {f:Addr}{pl:Sem Bool}{kw:List (Str × Value)}{prog:Program}{name:Str}
section
variable {x:Addr}{v:Value}

theorem zpU{expr:Bool}(X:K.In s.heap)(I:ObjM s.heap x dx C mA)(hg:PySem.W.plainGet K C name=true)(hh:PySem.W.hasDictIn K C=true)(ha:PySem.W.findIn K (.ref C) name=some none)(hv:mA name=some v)(hv':PySem.W.handedIn v=true)(h:Q v {s with toks:=s.toks+1}):
  wpAny (model prog w) A (getAttr (.ref x) name expr) Q E s:=by
 obtain⟨od,J,hl⟩:=I.look
 exact PySem.W.get_value X J (PySem.W.plainGet_of hg).1 (PySem.W.findObj_own hh ha rfl (by rw[hl,hv])) hv' h
theorem zod{Q:Value × List Value->Shared->Prop}(X:K.In s.heap)(I:ObjM s.heap x dx C mA)(hg:PySem.W.plainGet K C name=true)(hf:PySem.W.findIn K (.ref C) name=some (some (.ref f)))(ht:PySem.W.isFn K (.ref f)=true)(hv:mA name=none)(h:Q (.ref f,[.ref x]) s):
  wpAny (model prog w) A (getMethod (.ref x) name pl) Q E s:=by
 obtain⟨od,J,hl⟩:=I.look
 exact PySem.W.method_fn X J (PySem.W.plainGet_of hg).1 (PySem.W.plainGet_of hg).2 hf (beq_iff_eq.mp ht) (by show (PySem.W.lookIn name od).map (·.isSome)=some false;rw[hl,hv];rfl) h
theorem zpV {ns:List Str}{Q:Unit->Shared->Prop}(X:K.In s.heap)(I:ObjM s.heap x dx C mA)
  (hs:PySem.W.findIn K (.ref C) "__setattr__"=some (some (.builtin "object.__setattr__"))) (hp:PySem.W.plainOver K C=true) (ht:PySem.W.takerIn K C name=some none) (hh:PySem.W.hasDictIn K C=true)
  (hw:PySem.Within mA ns) (hsz:ns.length<=sizeLine)
  (h:∀ h',ObjM h' x dx C (λy=>if y=name then some v else mA y)->Heap.SameBut dx s.heap h'->Q () {s with heap:=h',toks:=s.toks+2}) :
  wpAny (model prog w) A (setAttr (.ref x) name v) Q E s:=by
 obtain⟨od,J,hl⟩:=I.look
 refine PySem.W.set_plain X J hs (PySem.W.osa_open (s:={s with toks:=s.toks+1}) (r:=none) X J hp ht λb=>?_)
 obtain⟨cd,hc,hd'⟩:=PySem.W.any_some hh
 have hx:s.heap.get? x=some ⟨.ref C,some dx,.plain,#[]⟩:=I.obj
 refine wpAny_bind (wpAny_pure (wpAny_bind (wpAny_bind (wpAny_loadPart hx (wpAny_bind (PySem.W.Looks.here (s:={s with toks:=s.toks+1}) (PySem.W.looks_clsIn X hc) ?_))))))
 rw[hd']
 refine wpAny_pure (a:=some dx) (wpAny_bind (wpAny_pure (wpAny_bind ?_)))
 refine wpAny_nsSet1 (s:={s with toks:=s.toks+1}) I.ns λh' hn2 hs2=>?_
 obtain⟨oD,esD,epD,hoD,hdD,hcD⟩:=hn2.count (PySem.Within.cons name v hw)
 refine wpAny_bind (wpAny_lookBehind hoD (by rw[hdD];exact pastItsLine_dict (Nat.le_trans hcD (by rw[List.length_cons];omega))) ?_)
 exact wpAny_pure (h _ ⟨(hs2.2 _ (Ne.symm I.ne)).trans I.obj,hn2,I.ne⟩ hs2)
theorem zoe{R:Result->Shared->Prop}{vs:List Value}(X:K.In s.heap)(hm:PySem.W.makesIn K C=true)(hi:PySem.W.findIn K (.ref C) "__init__"=some (some (.ref f)))(hf:PySem.W.typeIn K (.ref f)=some (.type "function"))(h:codeAny (model prog w) (A.under (.builtin "type.__call__" ⟨.ref C::vs,kw⟩)) (.call (.ref f) ⟨.ref (s.heap.objs.size+1)::vs,kw⟩) (PySem.W.InitBack (s.heap.objs.size+1) R)
   {s with heap:=(s.heap.push PySem.W.emptyDict).push (PySem.W.instObj C s.heap.objs.size)}):
  codeAny (model prog w) A (.call (.ref C) ⟨vs,kw⟩) R s:=by
 obtain⟨hh,g,d,t,os⟩:=s
 exact PySem.W.make_core (PySem.W.makes_of X hm) (PySem.W.looks_findIn X hi) (λself=>PySem.W.bind_fn X self hf) (.inl rfl) h
end

def putF (f:Str)(v:V):List (Str × V)->List (Str × V)
 | []=>[(f,v)]
 | (g,x)::r=>if g=f then (g,v)::r else (g,x)::putF f v r
theorem zaO (f g:Str)(v:V):∀ fs:List (Str × V),(putF f v fs).lookup g=if g=f then some v else fs.lookup g
 | []=>by
  show List.lookup g [(f,v)]=_
  by_cases h:g=f
  ·have hb:(g == f)=true:=beq_iff_eq.mpr h
   simp only[List.lookup,hb,if_pos h]
  ·have hb:(g == f)=false:=beq_eq_false_iff_ne.mpr h
   simp only[List.lookup,hb,if_neg h]
 | (k,x)::r=>by
  have ih:=zaO f g v r
  rw[show putF f v ((k,x)::r)=(if k=f then (k,v)::r else (k,x)::putF f v r) from rfl]
  by_cases hk:k=f
  ·rw[if_pos hk]
   by_cases h:g=k
   ·have hb:(g == k)=true:=beq_iff_eq.mpr h
    simp only[List.lookup,hb,if_pos (h.trans hk)]
   ·have hb:(g == k)=false:=beq_eq_false_iff_ne.mpr h
    simp only[List.lookup,hb,if_neg (λe:g=f=>h (e.trans hk.symm))]
  ·rw[if_neg hk]
   by_cases h:g=k
   ·have hb:(g == k)=true:=beq_iff_eq.mpr h
    simp only[List.lookup,hb,if_neg (λe:g=f=>hk (h.symm.trans e))]
   ·have hb:(g == k)=false:=beq_eq_false_iff_ne.mpr h
    simp only[List.lookup,hb]
    exact ih
theorem zgW (f:Str)(v:V):∀ fs:List (Str × V),f∈(putF f v fs).map (·.1)/\∀ g,g∈fs.map (·.1)->g∈(putF f v fs).map (·.1)
 | []=>⟨by simp[putF],λg h=>by simp at h⟩
 | (k,x)::r=>by
  obtain⟨i1,i2⟩:=zgW f v r
  rw[show putF f v ((k,x)::r)=(if k=f then (k,v)::r else (k,x)::putF f v r) from rfl]
  by_cases hk:k=f
  ·rw[if_pos hk]
   subst hk
   exact⟨by simp,λg h=>by simpa using h⟩
  ·rw[if_neg hk]
   refine⟨?_,λg h=>?_⟩
   ·rw[zmc]
    exact List.mem_cons_of_mem _ i1
   ·rw[zmc] at h ⊢
    rcases List.mem_cons.mp h with e | e
    ·exact List.mem_cons.mpr (.inl e)
    ·exact List.mem_cons_of_mem _ (i2 g e)
theorem ze3 (f:Str)(v:V):∀ fs:List (Str × V),(putF f v fs).length<=fs.length+1
 | []=>by simp[putF]
 | (k,x)::r=>by
  have ih:=ze3 f v r
  rw[show putF f v ((k,x)::r)=(if k=f then (k,v)::r else (k,x)::putF f v r) from rfl]
  by_cases hk:k=f
  ·rw[if_pos hk,List.length_cons,List.length_cons];omega
  ·rw[if_neg hk,List.length_cons,List.length_cons];omega
theorem RelO.some_of{o:Option Value}(r:RelO (some v) o):∃ u,o=some u/\RelV v u:=by
 cases o with
 | none=>exact (show False from r).elim
 | some u=>exact⟨u,rfl,r⟩
theorem RelO.none_of {o:Option Value}(r:RelO none o):o=none:=by
 cases o with
 | none=>rfl
 | some u=>exact (show False from r).elim
theorem zmR(r:RelV v u):PySem.W.handedIn u=true:=by
 cases v with
 | non=>cases (show u=Value.none from r);rfl
 | bl b=>cases (show u=Value.bool b from r);rfl
 | int i=>obtain⟨t,e⟩:=(show ∃ t,u=Value.int i t from r);cases e;rfl
 | str x=>obtain⟨t,e⟩:=(show ∃ t,u=Value.str x t from r);cases e;rfl
 | byt b=>obtain⟨t,e⟩:=(show ∃ t,u=Value.bytes b t from r);cases e;rfl
 | flt b=>obtain⟨t,e⟩:=(show ∃ t,u=Value.float b t from r);cases e;rfl
 | ref a=>cases (show u=Value.ref a from r);rfl
 | ty n=>cases (show u=Value.type n from r);rfl
section
variable {h:Heap}{fs fs':List (Str × V)}
theorem ziF (hok:HOk P w H h)(e:H a=some (.ins C dx fs)):∃ mA,ObjM h a dx C mA/\(∀ f,RelO (fs.lookup f) (mA f))/\PySem.Within mA (fs.map (·.1))/\fs.length<=1000/\H dx=some (.own a):=by
 obtain⟨d,z,ne,ob,mA,n,r,q⟩:=(show zbU P w H h a (.ins C dx fs) from hok a _ e)
 exact⟨mA,⟨ob,n,ne⟩,r,q,z,d⟩
end

structure Cls (K:Fg)(C:Addr):Prop where
 pg:PySem.W.plainGet K C Str.empty=true
 hd:PySem.W.hasDictIn K C=true
 po:PySem.W.plainOver K C=true
 sa:PySem.W.findIn K (.ref C) "__setattr__"=some (some (.builtin "object.__setattr__"))
theorem Cls.get(c:Cls K C)(f:Str):PySem.W.plainGet K C f=true:=c.pg
def zbW (K:Fg)(C:Addr)(f:Str):Prop:=PySem.W.findIn K (.ref C) f=some none
theorem zbW.taker{f:Str}(n:zbW K C f):PySem.W.takerIn K C f=some none:=by
 unfold PySem.W.takerIn
 rw[show PySem.W.findIn K (.ref C) f=some none from n]
 rfl
structure Meth (K:Fg)(C:Addr)(m:Str)(f:Addr):Prop where
 at_:PySem.W.findIn K (.ref C) m=some (some (.ref f))
 fn:PySem.W.isFn K (.ref f)=true
 kp:PySem.W.keepIn K (.ref f)=true
section
variable {fs:List (Str × V)}{f:Str}

theorem zlS{b:Bool}(I:Inv X pins σ H s)(e:H a=some (.ins C dx fs))(c:Cls X.K C)(n:zbW X.K C f)(l:fs.lookup f=some v)(h:∀ u s',Inv X pins σ H s'->RelV v u->Q u s'):wpAny (model X.prog X.w) A (getAttr (.ref a) f b) Q E s:=by
 obtain⟨mA,O,r,_,_,_⟩:=ziF I.hok e
 obtain⟨u,hu,ru⟩:=RelO.some_of (v:=v) (o:=mA f) (by rw[<-l];exact r f)
 exact zpU I.kIn O (c.get f) c.hd n hu (zmR ru) (h u _ (I.tok _) ru)
theorem zeE{m:Str}{g:Addr}{Q:Value × List Value->Shared->Prop}(I:Inv X pins σ H s)(e:H a=some (.ins C dx fs))(c:Cls X.K C)(k:Meth X.K C m g)(l:fs.lookup m=none)(h:Q (.ref g,[.ref a]) s):wpAny (model X.prog X.w) A (getMethod (.ref a) m pl) Q E s:=by
 obtain⟨mA,O,r,_,_,_⟩:=ziF I.hok e
 have hn:mA m=none:=RelO.none_of (by rw[<-l];exact r m)
 exact zod I.kIn O (c.get m) k.at_ k.fn hn h
theorem zlT{Q:Unit->Shared->Prop}(I:Inv X pins σ H s)(e:H a=some (.ins C dx fs))(c:Cls X.K C)(n:zbW X.K C f)(hl:fs.length<1000)(ry:RelV y u)(h:∀ s',Inv X pins σ (upd H a (.ins C dx (putF f y fs))) s'->Q () s'):wpAny (model X.prog X.w) A (setAttr (.ref a) f u) Q E s:=by
 obtain⟨mA,O,r,wi,_,ho⟩:=ziF I.hok e
 have hz:(fs.map (·.1)).length<=sizeLine:=by rw[zlm,sizeLine_eq];omega
 refine zpV I.kIn O c.sa c.po n.taker c.hd wi hz λh' O' sb=>h _ ?_
 have hd:∃ o,h'.get? dx=some o:=let ⟨o,_,_,e',_⟩:=O'.ns;⟨o,e'⟩
 refine I.write (x:=a) (e:=dx) (by rw[e];exact True.intro) (.inr ho) (λb q hb z=>(sb.2 b hb).trans z) hd ?_
 refine⟨by rw[zai O.ne];exact ho,?_,O.ne,O'.obj,_,O'.ns,λg=>?_,λg hg=>?_⟩
 ·have:=ze3 f y fs;omega
 ·show RelO ((putF f y fs).lookup g) (if g=f then some u else mA g)
  rw[zaO]
  by_cases q:g=f
  ·rw[if_pos q,if_pos q];exact ry
  ·rw[if_neg q,if_neg q];exact r g
 ·by_cases q:g=f
  ·rw[q];exact (zgW f y fs).1
  ·refine (zgW f y fs).2 g (wi g λz=>hg ?_)
   show (if g=f then some u else mA g)=none
   rw[if_neg q];exact z
theorem Inv.made (I:Inv X pins σ H s):Inv X pins σ (upd (upd H s.heap.objs.size (.own (s.heap.objs.size+1))) (s.heap.objs.size+1) (.ins C s.heap.objs.size []))
  {s with heap:=(s.heap.push PySem.W.emptyDict).push (PySem.W.instObj C s.heap.objs.size)}:=by
 have e1:(s.heap.push PySem.W.emptyDict).get? s.heap.objs.size=some PySem.W.emptyDict:=Heap.get?_push_size s.heap rfl
 have e2:((s.heap.push PySem.W.emptyDict).push (PySem.W.instObj C s.heap.objs.size)).get? (s.heap.objs.size+1)=some (PySem.W.instObj C s.heap.objs.size):=by
  have:=Heap.get?_push_size (s.heap.push PySem.W.emptyDict) (o:=PySem.W.instObj C s.heap.objs.size) rfl
  rwa [Heap.size_push] at this
 have e3:(s.heap.push PySem.W.emptyDict).Ns s.heap.objs.size (λ_=>none):=⟨PySem.W.emptyDict,#[],_,e1,rfl,(λe he=>absurd he (by simp)),λ_=>rfl⟩
 have I1:=I.laid (a:=s.heap.objs.size) (o:=.own (s.heap.objs.size+1)) (h':=s.heap.push PySem.W.emptyDict) (t':=s.toks) (λb u q=>Heap.get?_push_of_some _ q) (Nat.le_refl _) ⟨_,e1⟩
 refine I1.laid (a:=s.heap.objs.size+1) (o:=.ins C s.heap.objs.size []) (t':=s.toks) (λb u q=>Heap.get?_push_of_some _ q) (Nat.le_of_eq (Heap.size_push _ _)) ?_
 have ne:s.heap.objs.size≠s.heap.objs.size+1:=Nat.ne_of_lt (Nat.lt_succ_self _)
 refine⟨by rw[zai ne,zac],Nat.zero_le _,ne,e2,λ_=>none,(Heap.Ns1.of_empty e3).at λo q=>Heap.get?_push_of_some _ q,λ_=>True.intro,λy hy=>absurd rfl hy⟩
theorem zpW{env:Env}(hb:attributeBase e f env (eval e env)=eval e env)(h:wpAny (model prog w) A (eval e env) (λo s₁=>wpAny (model prog w) A (getAttr o f true) Q E s₁) E s):wpAny (model prog w) A (eval (.Attribute e f pos) env) Q E s:=
 Attribute_any_ h (by rw[arm_eval_Attribute,hb])
end

inductive FldI (K:Fg)(f:Str)(x:V)(H:Hp)(Q:VK):Prop
 | mk (a C dx:Addr) (fs:List (Str × V)) (v:V) (e:x=.ref a) (ea:H a=some (.ins C dx fs)) (c:Cls K C) (n:zbW K C f) (l:fs.lookup f=some v) (q:Q v H):FldI K f x H Q
inductive FldS (K:Fg)(f:Str)(y x:V)(H:Hp)(P:Hp->Prop):Prop
 | mk (a C dx:Addr) (fs:List (Str × V)) (e:x=.ref a) (ea:H a=some (.ins C dx fs)) (c:Cls K C) (n:zbW K C f) (l:fs.length<1000) (q:P (upd H a (.ins C dx (putF f y fs)))):FldS K f y x H P
def tFld (K:Fg)(ta:TE)(f:Str):TE:=λσ H Q=>ta σ H λx H1=>FldI K f x H1 Q
def sFld (K:Fg)(ta tv:TE)(f:Str):TS:=λD σ H=>tv σ H λy H1=>ta σ H1 λx H2=>FldS K f y x H2 (D.nx σ)
variable {apos:Pos}
section
variable {o value:Expr}{f:Str}{tpos:Pos}{tv:TE}
theorem zre (he:PE X e ta)(hb:attributeBase e f X.env (eval e X.env)=eval e X.env):PE X (.Attribute e f pos) (tFld X.K ta f):=by
 intro pins s σ H Q I h
 refine zpW hb (thn (he pins s σ H _ I h) λu s1 ⟨x,H1,I1,rx,a,C,dx,fs,v,ex,ea,c,n,l,q⟩=>?_)
 subst ex
 obtain rfl:u=Value.ref a:=rx
 exact zlS I1 ea c n l λu' s2 I2 ru=>⟨v,H1,I2,ru,q⟩
theorem zbG (ha:PE X o ta)(hv:PE X value tv)(hs:swapsWith value (some (.Attribute o f pos')) pos.line X.env=pure false):PS X (.Assign [.Attribute o f pos'] value pos) (sFld X.K ta tv f):=by
 intro pins s σ H D I h
 refine plainObj_wpAny_Assign_Attribute (thn (hv pins s σ H _ I h) λu s1 ⟨y,H1,I1,ry,q⟩=>thn (ha pins s1 σ H1 _ I1 q) λov s2 ⟨x,H2,I2,rx,a,C,dx,fs,ex,ea,c,n,l,q2⟩=>?_) hs
 subst ex
 obtain rfl:ov=Value.ref a:=rx
 exact zlT I2 ea c n l ry λs3 I3=>⟨σ,_,I3,q2⟩
theorem zpX{m:Str}{args:List Expr}(he:PE X e te)(I:Inv X pins σ H s)(h:te σ H λx H1=>∃ a C dx fs g,x=.ref a/\H1 a=some (.ins C dx fs)/\Cls X.K C/\Meth X.K C m g/\fs.lookup m=none/\
   ∀ s1,Inv X pins σ H1 s1->wpAny (model X.prog X.w) X.A (callWith pos (.ref g) [.ref a] (backTo pos (starEach args X.env)) (backToKw pos (keywordEach [] X.env))) Q X.xe s1)(ht:eval (.Call (.Attribute e m apos) args [] pos) X.env=(do
   let ov <-eval e X.env
   standAt apos.atName
   let (f,first) <-holding [ov] (getMethod ov m pl)
   callWith pos f first (backTo pos (starEach args X.env)) (backToKw pos (keywordEach [] X.env)))):
  wpAny (model X.prog X.w) X.A (eval (.Call (.Attribute e m apos) args [] pos) X.env) Q X.xe s:=by
 refine PySem.W.methodCall_KW (pl:=pl) (thn (he pins s σ H _ I h) λu s1 ⟨x,H1,I1,rx,a,C,dx,fs,g,ex,ea,c,k,l,q⟩=>?_) ht
 subst ex
 obtain rfl:u=Value.ref a:=rx
 exact zeE I1 ea c k l (q s1 I1)
end

section
variable {c:Value}{b:Bool}
inductive TyOf (K:Fg)(H:Hp):V->Value->Prop where
 | non:TyOf K H .non (.type "NoneType")
 | bl (x:Bool):TyOf K H (.bl x) (.type "bool")
 | int (i:Int):TyOf K H (.int i) (.type "int")
 | str (x:Str):TyOf K H (.str x) (.type "str")
 | flt (x:UInt64):TyOf K H (.flt x) (.type "float")
 | lst {a:Addr}{xs:List V}(e:H a=some (.lst xs)):TyOf K H (.ref a) (.type "list")
 | frz {a:Addr}{o:Obj}{xs:List V}(e:H a=some (.frz o (.lst xs))):TyOf K H (.ref a) (.type "list")
 | tup {a:Addr}{xs:List V}(e:H a=some (.tup xs)):TyOf K H (.ref a) (.type "tuple")
 | dK {a:Addr}{kvs:List (Key × V)}(e:H a=some (.dK kvs)):TyOf K H (.ref a) (.type "dict")
 | dT {a:Addr}{kvs:List (List Key × V)}(e:H a=some (.dT kvs)):TyOf K H (.ref a) (.type "dict")
 | ins {a C dx:Addr}{fs:List (Str × V)}(e:H a=some (.ins C dx fs)) (cl:Cls K C) (ha:PySem.W.findIn K (.ref C) "__class__"=some (some (.builtin "object.__class__")))
   (hn:PySem.W.specialIn K (.builtin "object.__class__") "__get__"=some (some (.builtin "getset_descriptor.__get__"))) (htk:PySem.W.takesIn K (.builtin "object.__class__")=some true)
   (hm:PySem.W.mroIn K C (.type "object")=some true):TyOf K H (.ref a) (.ref C)
theorem zmS{x:V}{t:Value}(I:Inv X pins σ H s)(rx:RelV x u)(ty:TyOf X.K H x t)(e:PySem.W.kitOne X.K t c=some b)(h:∀ tk,Q (.bool b) {s with toks:=tk}):
  wpAny (model X.prog X.w) A (call (.builtin "isinstance") [u,c]) Q E s:=by
 cases ty with
 | non=>cases (show u=Value.none from rx);exact PySem.W.kia_one PySem.W.kitx_none I.kIn True.intro e (λz=>nomatch z) h
 | bl y=>cases (show u=Value.bool y from rx);exact PySem.W.kia_one PySem.W.kitx_bool I.kIn True.intro e (λz=>nomatch z) h
 | int i=>obtain⟨t,q⟩:=(show ∃ t,u=Value.int i t from rx);cases q;exact PySem.W.kia_one PySem.W.kitx_int I.kIn True.intro e (λz=>nomatch z) h
 | str y=>obtain⟨t,q⟩:=(show ∃ t,u=Value.str y t from rx);cases q;exact PySem.W.kia_one PySem.W.kitx_str I.kIn True.intro e (λz=>nomatch z) h
 | flt y=>obtain⟨t,q⟩:=(show ∃ t,u=Value.float y t from rx);cases q;exact PySem.W.kia_one PySem.W.kitx_float I.kIn True.intro e (λz=>nomatch z) h
 | @lst a xs ea=>
  cases (show u=Value.ref a from rx)
  obtain⟨_,_,n,_,h1⟩:=(show zbU X.prog X.w H s.heap a (.lst xs) from I.hok a _ ea)
  exact PySem.W.kia_one PySem.W.kitx_list I.kIn ⟨_,h1,rfl⟩ e (λz=>nomatch z) h
 | @frz a ob xs ea=>
  cases (show u=Value.ref a from rx)
  obtain⟨_,_,_,n,_,h1⟩:=(show zbU X.prog X.w H s.heap a (.frz ob (.lst xs)) from I.hok a _ ea)
  exact PySem.W.kia_one PySem.W.kitx_list I.kIn ⟨_,h1,rfl⟩ e (λz=>nomatch z) h
 | @tup a xs ea=>
  cases (show u=Value.ref a from rx)
  obtain⟨_,_,_,p⟩:=(show zbU X.prog X.w H s.heap a (.tup xs) from I.hok a _ ea)
  obtain⟨o,h1,h2,_⟩:=p
  exact PySem.W.kia_one PySem.W.kitx_tuple I.kIn ⟨o,h1,h2⟩ e (λz=>nomatch z) h
 | @dK a kvs ea=>
  cases (show u=Value.ref a from rx)
  obtain⟨_,_,vs,_,p⟩:=(show zbU X.prog X.w H s.heap a (.dK kvs) from I.hok a _ ea)
  obtain⟨o,es,ep,h1,h2,_⟩:=p
  exact PySem.W.kia_one PySem.W.kitx_dict I.kIn ⟨o,h1,h2.1⟩ e (λz=>nomatch z) h
 | @dT a kvs ea=>
  cases (show u=Value.ref a from rx)
  obtain⟨_,_,xs,_,o,es,ep,h1,h2,_⟩:=(show zbU X.prog X.w H s.heap a (.dT kvs) from I.hok a _ ea)
  exact PySem.W.kia_one PySem.W.kitx_dict I.kIn ⟨o,h1,h2.1⟩ e (λz=>nomatch z) h
 | @ins a C dx fs ea cl ha hn htk hm=>
  cases (show u=Value.ref a from rx)
  obtain⟨mA,O,_⟩:=ziF I.hok ea
  obtain⟨od,J,_⟩:=O.look
  exact PySem.W.kia_one (PySem.W.kitx_own (cl.get _) cl.hd ha hn htk hm) I.kIn J e (λz=>nomatch z) h
end

structure Room (k:Nat)(A:Around):Prop where
 hd:A.handled=none
 dp:A.depth+3 * k+5<recursionLimit
 un:A.units+16 * k+200<cLine
 gd:A.guards=some []
theorem Room.mono{k:Nat}(r:Room k A)(h:j<=k):Room j A:=⟨r.hd,by have:=r.dp;omega,by have:=r.un;omega,r.gd⟩
theorem Room.deeper{k:Nat}(r:Room (k+1) A)(env:Env):Room k (A.deeper env):=
 ⟨r.hd,by have:=r.dp;show A.depth+1+3 * k+5<_;omega,by have:=r.un;show A.units+3+16 * k+200<_;omega,r.gd⟩
theorem zlU: (A.under (.builtin "type.__call__" ⟨.ref C::us,kw⟩)).depth=A.depth+1:=by
 first | rfl | simp[Around.under,Code.weight,Code.isCreation,Code.isGuard,Code.isCaller,Code.frames,Code.isFrame,guardIds]
theorem zlV: (A.under (.builtin "type.__call__" ⟨.ref C::us,kw⟩)).units=A.units+1:=by
 first | rfl | simp[Around.under,Code.cUnits,Code.frames,Code.isFrame]
theorem zkz(h:A.guards=some []):(A.under (.builtin "type.__call__" ⟨.ref C::us,kw⟩)).guards=some []:=by
 simp[Around.under,Code.guards,Code.isGuard,guardIds,pushGuards,h]
theorem Room.make{k:Nat}(r:Room (k+1) A)(C:Addr)(us:List Value)(kw:List (Str × Value)):Room k (A.under (.builtin "type.__call__" ⟨.ref C::us,kw⟩)):=
 ⟨r.hd,by have:=r.dp;rw[zlU];omega,by have:=r.un;rw[zlV];omega,zkz r.gd⟩
theorem Room.depth{k:Nat}(r:Room k A):A.depth<recursionLimit:=by have:=r.dp;omega
theorem Room.units{k:Nat}(r:Room k A):A.units+64<cLine:=by have:=r.un;omega
def tNil:TA:=λ_ H Q=>Q [] H
def zc1 (ta:TE)(tr:TA):TA:=λσ H Q=>ta σ H λx H1=>tr σ H1 λxs H2=>Q (x::xs) H2
section
variable {t:TA}
theorem zaa:PA X [] tNil:=λ_ _ _ _ H Q I h=>Calls.spliced_nil ⟨[],H,I,.nil,h⟩
theorem za0 (ha:PE X e te)(hr:PA X es t)(hs:starEach (e::es) X.env=(false,eval e X.env)::starEach es X.env:=by rfl):PA X (e::es) (zc1 te t):=by
 intro pos pins s σ H Q I h
 rw[hs]
 show wpAny _ _ (spliced ((false,eval e X.env)::backTo pos (starEach es X.env))) _ _ s
 refine Calls.spliced_cons (thn (ha pins s σ H _ I h) λu s1 ⟨x,H1,I1,r1,q1⟩=>?_)
 exact thn (hr pos pins s1 σ H1 _ I1 q1) λus s2 ⟨xs,H2,I2,r2,q2⟩=>⟨x::xs,H2,I2,.cons r1 r2,q2⟩
def tTup (t:TA):TE:=λσ H Q=>t σ H λxs H1=>xs.length<=sizeLine/\∀ p,H1 p=none->Q (.ref p) (upd H1 p (.tup xs))
def tLst (t:TA):TE:=λσ H Q=>t σ H λxs H1=>xs.length<=sizeLine/\∀ p,H1 p=none->Q (.ref p) (upd H1 p (.lst xs))
theorem zdu {x1}(h:PA X es t):PE X (.Tuple es x1 pos) (tTup t):=by
 intro pins s σ H Q I hq
 refine wpAny_Tuple_spliced (thn (h pos pins s σ H _ I hq) λus s1 ⟨xs,H1,I1,r,z,q⟩=>⟨by rw[<-r.length];exact z,?_⟩)
 have hf:H1 s1.heap.objs.size=none:=I1.hok.fresh (Nat.le_refl _)
 refine⟨.ref s1.heap.objs.size,upd H1 s1.heap.objs.size (.tup xs),I1.laid (t':=s1.toks) (λb u e=>Heap.get?_push_of_some _ e) (Nat.le_refl _) ?_,rfl,q _ hf⟩
 exact⟨z,us,r,⟨_,Heap.get?_push_size _ rfl,rfl,_,rfl⟩⟩
theorem zaR (h:PA X es t):PE X (.List es pos) (tLst t):=by
 intro pins s σ H Q I hq
 refine wpAny_List_spliced (thn (h pos pins s σ H _ I hq) λus s1 ⟨xs,H1,I1,r,z,q⟩=>⟨by rw[<-r.length];exact z,?_⟩)
 have hf:H1 s1.heap.objs.size=none:=I1.hok.fresh (Nat.le_refl _)
 refine⟨.ref s1.heap.objs.size,upd H1 s1.heap.objs.size (.lst xs),I1.laid (t':=s1.toks) (λb u e=>Heap.get?_push_of_some _ e) (Nat.le_refl _) ?_,rfl,q _ hf⟩
 exact⟨z,us,0,r,Heap.get?_push_size _ rfl⟩
end

abbrev Sp:=List V->Hp->VK->XK->Prop
abbrev CXT:=List Env->Hp->Shared->XK->Value->Shared->Prop
structure Env0 (P:Program)(w:World)(K:Fg)(mg:Str->Option Value)(base:Heap)(A:Around)(outer:List Env)(s:Shared)(H:Hp):Prop where
 frames:A.frames=some outer
 mod:Mod K mg base
 bs:∀ b o,base.get? b=some o->s.heap.get? b=some o/\H b=none
 bsz:base.objs.size<=s.heap.objs.size
 funs:s.heap.FunFrames base outer
 frf:∀ b∈frs outer,H b=none
 hok:HOk P w H s.heap
 bare:AllBare s.gens
def CE (outer:List Env)(P:Program)(w:World)(H:Hp)(s:Shared)(Q:VK)(u:Value)(s':Shared):Prop:=
 ∃ v H',s'.os=s.os/\AllBare s'.gens/\Un (frs outer) [] H H' s.heap s'.heap/\HOk P w H' s'.heap/\RelV v u/\Q v H'
def CR (CX:CXT)(outer:List Env)(P:Program)(w:World)(H:Hp)(s:Shared)(Q:VK)(E:XK)(r:Result)(s':Shared):Prop:=
 match r with
 | .ok (.ret u)=>CE outer P w H s Q u s'
 | .ok _=>False
 | .error e=>CX outer H s E e s'
structure FnOk (P:Program)(w:World)(K:Fg)(mg:Str->Option Value)(base:Heap)(CX:CXT)(k:Nat)(f:Addr)(fd:FuncData)(ps:List Str)(sp:Sp):Prop where
 len:∀ vs H Q E,sp vs H Q E->vs.length=ps.length
 run:∀ (A:Around) (outer:List Env) (s:Shared) (H:Hp) (args:Args) (us:List Value) (vs:List V) (Q:VK) (E:XK),Room k A->Env0 P w K mg base A outer s H->BindsTo s fd args (ps.zip us)->Vals vs us->sp vs H Q E->
  codeAny (model P w) A (.call (.ref f) args) (CR CX outer P w H s Q E) s
variable {mg:Str->Option Value}{base:Heap}{CX:CXT}{fd:FuncData}{ps:List Str}{sp:Sp}
theorem FnOk.mono{k:Nat}(F:FnOk P w K mg base CX j f fd ps sp)(h:j<=k):
  FnOk P w K mg base CX k f fd ps sp:=⟨F.len,λA outer s H args us vs Q E hr=>F.run A outer s H args us vs Q E (hr.mono h)⟩
variable {outer:List Env}
theorem Env0.make(e:Env0 P w K mg base A outer s H)(C:Addr)(us:List Value)(kw:List (Str × Value)):
  Env0 P w K mg base (A.under (.builtin "type.__call__" ⟨.ref C::us,kw⟩)) outer s H:=⟨by first | exact e.frames | (simpa [Around.under,Code.envs,Code.isFrame,pushEnvs] using e.frames),e.mod,e.bs,e.bsz,e.funs,e.frf,e.hok,e.bare⟩
section
theorem Inv.env0 (I:Inv X pins σ H s):Env0 X.prog X.w X.K X.mg X.base X.A X.stack s H:=
 ⟨I.ok.frames,I.ok.mod,I.bs,Nat.le_trans I.ok.bsz I.sz,I.stack,I.stkFree,I.hok,I.bare⟩
theorem Inv.after{Q:VK}(I:Inv X pins σ H s)(h:CE X.stack X.prog X.w H s Q u s'):EP X pins σ Q u s':=by
 obtain⟨v,H',os,bare,un,hok,r,q⟩:=h
 obtain⟨hh,g,d,t,os'⟩:=s'
 obtain rfl:os'=s.os:=os
 exact⟨v,H',I.call (h':=hh) (g':=g) (d':=d) (t':=t) (ch:=[]) un hok bare (λb z=>absurd z (by simp)),r,q⟩
end

def ziG (sp:Sp)(dvs:List V)(E:XK)(t:TA):TE:=λσ H Q=>t σ H λvs H1=>sp (vs++dvs) H1 Q E
inductive MethI (C:Addr)(m:Str)(x:V)(H:Hp)(P:Prop):Prop
 | mk (a dx:Addr) (fs:List (Str × V)) (e:x=.ref a) (ea:H a=some (.ins C dx fs)) (l:fs.lookup m=none) (q:P):MethI C m x H P
def zjp (C:Addr)(m:Str)(sp:Sp)(dvs:List V)(E:XK)(ta:TE)(t:TA):TE:=λσ H Q=>ta σ H λx H1=>MethI C m x H1 (t σ H1 λvs H2=>sp (x::(vs++dvs)) H2 Q E)
def zkA (C:Addr)(sp:Sp)(dvs:List V)(E:XK)(t:TA):TE:=λσ H Q=>t σ H λvs H1=>∀ x dx,H1 x=none->H1 dx=none->dx≠x->
 sp (.ref x::(vs++dvs)) (upd (upd H1 dx (.own x)) x (.ins C dx [])) (λv H2=>v=.non/\Q (.ref x) H2) E
def zd6 (K:Fg)(fd:FuncData)(ps:List Str)(ds:List Value):Prop:=
 ∀ (s:Shared) (us:List Value),K.In s.heap->(us++ds).length=ps.length->BindsTo s fd ⟨us,[]⟩ (ps.zip (us++ds))
theorem zd6.all(h:∀ us:List Value,us.length=ps.length->bindArgs fd ⟨us,[]⟩=pure (ps.zip us)):zd6 K fd ps []:=λs us _ hl=>by
 rw[List.append_nil] at hl ⊢
 exact .of_eq (h us hl)
def zcA (CX:CXT)(X:Cx)(E:XK):Prop:=∀ (pins:List (Addr × Obj)) (σ:St) (H:Hp) (s:Shared) (e:Value) (s':Shared),Inv X pins σ H s->CX X.stack H s E e s'->X.xe e s'
variable {vs:List V}
section
variable {k:Nat}{dvs:List V}{ds:List Value}{E:XK}{m:Str}{o:Expr}{t:TA}

variable {Q:VK}
theorem zmT(F:FnOk X.prog X.w X.K X.mg X.base CX k f fd ps sp)(hr:Room k X.A)(hb:zd6 X.K fd ps ds)(hd:Vals dvs ds)(hx:zcA CX X E)(I:Inv X pins σ H s)(r:Vals vs us)(h:sp (vs++dvs) H Q E):wpAny (model X.prog X.w) X.A (call (.ref f) us) (EP X pins σ Q) X.xe s:=by
 have r2:Vals (vs++dvs) (us++ds):=r.append hd
 have hl:(us++ds).length=ps.length:=by rw[<-r2.length];exact F.len _ _ _ _ h
 refine wpAny_call (codeAny_mono (F.run X.A X.stack s H ⟨us,[]⟩ (us++ds) (vs++dvs) Q E hr I.env0 (hb s us I.kIn hl) r2 h) λr s' hq=>?_)
 cases r with
 | error e=>exact hx pins σ H s e s' I hq
 | ok fl=>
  cases fl with
  | ret u=>exact I.after hq
  | next=>exact False.elim hq
  | brk=>exact False.elim hq
  | cont=>exact False.elim hq
theorem zmU (F:FnOk X.prog X.w X.K X.mg X.base CX k f fd ps sp)(hr:Room k X.A)(hg:Gl X x)(hm:X.mg x=some (.ref f))(hk:PySem.W.keepIn X.K (.ref f)=true)(hb:zd6 X.K fd ps ds)(hd:Vals dvs ds)(hx:zcA CX X E)
  (ha:PA X (e::es) t) (hdb:(x == ("__debug__" : Str))=false:=by decide) (he:starEach (e::es) X.env=(false,eval e X.env)::starEach es X.env:=by rfl) (hpl:(backTo pos (starEach es X.env)).any (·.1)=false:=by rfl) :
  PE X (.Call (.Name x p) (e::es) [] pos) (ziG sp dvs E t):=by
 intro pins s σ H Q I h
 refine wpAny_Call_Name_kw (ze2 I hg hm ?_ hdb)
 refine PySem.W.callWith_K (h₀:=X.base) I.ok.mod.kin hk (thn (ha pos pins s σ H _ I h) λus s1 ⟨vs,H1,I1,r,q⟩=>⟨I1.kIn,?_⟩) he hpl
 exact zmT F hr hb hd hx I1 r q
theorem zpY(he:PE X o ta)(c:Cls X.K C)(hm:Meth X.K C m f)(F:FnOk X.prog X.w X.K X.mg X.base CX k f fd ps sp)(hr:Room k X.A)(hb:zd6 X.K fd ps ds)(hd:Vals dvs ds)(hx:zcA CX X E)(ha:PA X (e::es) t)(hst:starEach (e::es) X.env=(false,eval e X.env)::starEach es X.env:=by rfl)(hpl:(backTo pos (starEach es X.env)).any (·.1)=false:=by rfl)(ht:eval (.Call (.Attribute o m apos) (e::es) [] pos) X.env=(do
   let ov <-eval o X.env
   standAt apos.atName
   let (f,first) <-holding [ov] (getMethod ov m pl)
   callWith pos f first (backTo pos (starEach (e::es) X.env)) (backToKw pos (keywordEach [] X.env))):=by rfl):
  PE X (.Call (.Attribute o m apos) (e::es) [] pos) (zjp C m sp dvs E ta t):=by
 intro pins s σ H Q I h
 refine PySem.W.methodCall_KW (pl:=pl) (thn (he pins s σ H _ I h) λu s1 ⟨x,H1,I1,rx,a,dx,fs,ex,ea,l,q⟩=>?_) ht
 subst ex
 obtain rfl:u=Value.ref a:=rx
 refine zeE I1 ea c hm l ?_
 refine PySem.W.callWith_K (first:=[.ref a]) (h₀:=X.base) I.ok.mod.kin hm.kp (thn (ha pos pins s1 σ H1 _ I1 q) λus s2 ⟨vs,H2,I2,r,q2⟩=>⟨I2.kIn,?_⟩) hst hpl
 exact zmT (us:=.ref a::us) (vs:=.ref a::vs) F hr hb hd hx I2 (.cons rfl r) q2
theorem zof(he:PE X o ta)(c:Cls X.K C)(hm:Meth X.K C m f)(F:FnOk X.prog X.w X.K X.mg X.base CX k f fd ps sp)(hr:Room k X.A)(hb:zd6 X.K fd ps ds)(hd:Vals dvs ds)(hx:zcA CX X E)(ht:eval (.Call (.Attribute o m apos) [] [] pos) X.env=(do
   let ov <-eval o X.env
   standAt apos.atName
   let (f,first) <-holding [ov] (getMethod ov m pl)
   callWith pos f first (backTo pos (starEach [] X.env)) (backToKw pos (keywordEach [] X.env))):=by rfl):
  PE X (.Call (.Attribute o m apos) [] [] pos) (zjp C m sp dvs E ta tNil):=by
 intro pins s σ H Q I h
 refine PySem.W.methodCall_KW (pl:=pl) (thn (he pins s σ H _ I h) λu s1 ⟨x,H1,I1,rx,a,dx,fs,ex,ea,l,q⟩=>?_) ht
 subst ex
 obtain rfl:u=Value.ref a:=rx
 refine zeE I1 ea c hm l ?_
 exact PySem.W.callWith_K0 (first:=[.ref a]) I1.kIn hm.kp (zmT (us:=[.ref a]) (vs:=[.ref a]) F hr hb hd hx I1 (.cons rfl .nil) q)
structure Mk (K:Fg)(C f:Addr):Prop where
 makes:PySem.W.makesIn K C=true
 init:PySem.W.findIn K (.ref C) "__init__"=some (some (.ref f))
 fn:PySem.W.isFn K (.ref f)=true
 kp:PySem.W.keepIn K (.ref C)=true
theorem zle(M:Mk X.K C f)(F:FnOk X.prog X.w X.K X.mg X.base CX k f fd ps sp)(hr:Room (k+1) X.A)(hb:zd6 X.K fd ps ds)(hd:Vals dvs ds)(hx:zcA CX X E)(I:Inv X pins σ H s)(r:Vals vs us)(h:∀ x dx,H x=none->H dx=none->dx≠x->sp (.ref x::(vs++dvs)) (upd (upd H dx (.own x)) x (.ins C dx [])) (λv H2=>v=.non/\Q (.ref x) H2) E):
  wpAny (model X.prog X.w) X.A (call (.ref C) us) (EP X pins σ Q) X.xe s:=by
 have hq:=h (s.heap.objs.size+1) s.heap.objs.size (I.hok.fresh (Nat.le_succ _)) (I.hok.fresh (Nat.le_refl _)) (Nat.ne_of_lt (Nat.lt_succ_self _))
 have I2:=Inv.made (C:=C) I
 have r2:Vals (V.ref (s.heap.objs.size+1)::(vs++dvs)) (Value.ref (s.heap.objs.size+1)::(us++ds)):=.cons rfl (r.append hd)
 have hl:(Value.ref (s.heap.objs.size+1)::us++ds).length=ps.length:=by
  have e:=r2.length
  rw[F.len _ _ _ _ hq] at e
  exact e.symm
 refine wpAny_call (zoe (f:=f) I.kIn M.makes M.init (beq_iff_eq.mp M.fn) (codeAny_mono (F.run _ X.stack _ _ ⟨Value.ref (s.heap.objs.size+1)::us,[]⟩ (Value.ref (s.heap.objs.size+1)::(us++ds)) _ _ E (hr.make C us [])
  (I2.env0.make C us []) (hb _ (Value.ref (s.heap.objs.size+1)::us) I2.kIn hl) r2 hq) λr s' hq'=>?_))
 cases r with
 | error e=>exact hx pins σ _ _ e s' I2 hq'
 | ok fl=>
  cases fl with
  | ret u=>
   obtain⟨v,H',I3,rv,ev,q3⟩:=I2.after hq'
   subst ev
   exact⟨rv,⟨V.ref (s.heap.objs.size+1),H',I3,rfl,q3⟩⟩
  | next=>exact False.elim hq'
  | brk=>exact False.elim hq'
  | cont=>exact False.elim hq'
theorem zmV (M:Mk X.K C f)(F:FnOk X.prog X.w X.K X.mg X.base CX k f fd ps sp)(hr:Room (k+1) X.A)(hg:Gl X x)(hm:X.mg x=some (.ref C))(hb:zd6 X.K fd ps ds)(hd:Vals dvs ds)(hx:zcA CX X E)
  (ha:PA X (e::es) t) (hdb:(x == ("__debug__" : Str))=false:=by decide) (he:starEach (e::es) X.env=(false,eval e X.env)::starEach es X.env:=by rfl) (hpl:(backTo pos (starEach es X.env)).any (·.1)=false:=by rfl) :
  PE X (.Call (.Name x p) (e::es) [] pos) (zkA C sp dvs E t):=by
 intro pins s σ H Q I h
 refine wpAny_Call_Name_kw (ze2 I hg hm ?_ hdb)
 refine PySem.W.callWith_K (h₀:=X.base) I.ok.mod.kin M.kp (thn (ha pos pins s σ H _ I h) λus s1 ⟨vs,H1,I1,r,q⟩=>⟨I1.kIn,?_⟩) he hpl
 exact zle M F hr hb hd hx I1 r q
theorem zog (M:Mk X.K C f)(F:FnOk X.prog X.w X.K X.mg X.base CX k f fd ps sp)(hr:Room (k+1) X.A)(hg:Gl X x)(hm:X.mg x=some (.ref C))(hb:zd6 X.K fd ps ds)(hd:Vals dvs ds)(hx:zcA CX X E)
  (hdb:(x == ("__debug__" : Str))=false:=by decide):PE X (.Call (.Name x p) [] [] pos) (zkA C sp dvs E tNil):=by
 intro pins s σ H Q I h
 refine wpAny_Call_Name_kw (ze2 I hg hm ?_ hdb)
 exact PySem.W.callWith_K0 I.kIn M.kp (zle (us:=[]) M F hr hb hd hx I .nil h)
end

section
variable {k:Nat}{ks:List Str}{E:XK}{m:Str}{kpos:Pos}{o:Expr}{kws:List Keyword}{t tk:TA}{nm:Option Str}
variable {g:List Value->List Value->List Value}{gV:List V->List V->List V}
end

structure FSc (N P:List Str)(sc:Scope):Prop where
 kind:sc.kind=.function
 co:sc.isCoroutine=false
 gen:sc.isGenerator=false
 nd:N.Nodup
 pre:N.take P.length=P
 par:∀ x∈P,sc.names.lookup x=some .local\/sc.names.lookup x=some .cell
 nofree:∀ y∈sc.names,y.2≠.free
variable {kindOf:Str->Option NameKind}
theorem zjq: ∀ {binds:List (Str × Value)}{m:Str->Option Value},(∀ v,(x,v)∉binds)->bindL kindOf binds m x=m x
 | [],_,_=>rfl
 | (n,v)::r,m,h=>by
  unfold bindL
  rw[zjq λw hw=>h w (List.mem_cons_of_mem _ hw)]
  split
  ·have:x≠n:=by rintro rfl;exact h v List.mem_cons_self
   simp[this]
  ·rfl
theorem zjr: ∀ {binds:List (Str × Value)}{m:Str->Option Value},(∀ v,(x,v)∉binds)->bindC kindOf binds m x=m x
 | [],_,_=>rfl
 | (n,v)::r,m,h=>by
  unfold bindC
  rw[zjr λw hw=>h w (List.mem_cons_of_mem _ hw)]
  split
  ·rfl
  ·have:x≠n:=by rintro rfl;exact h v List.mem_cons_self
   simp[this]
theorem zgX{v:Value}: ∀ {P:List Str}{vs:List Value}{i:Nat}{m:Str->Option Value},P.Nodup->P[i]?=some x->vs[i]?=some v->kindOf x=some .local->
  bindL kindOf (P.zip vs) m x=some v
 | [],_,_,_,_,h,_,_=>by simp at h
 | _::_,[],_,_,_,_,h,_=>by simp at h
 | p::P,w::vs,0,m,nd,h1,h2,hk=>by
  simp at h1 h2;subst h1;subst h2
  show bindL kindOf ((p,w)::P.zip vs) m p=_
  unfold bindL
  rw[zjq λv hv=>(List.nodup_cons.mp nd).1 (List.of_mem_zip hv).1,if_pos hk]
  simp
 | p::P,w::vs,i+1,m,nd,h1,h2,hk=>by
  show bindL kindOf ((p,w)::P.zip vs) m x=_
  unfold bindL
  exact zgX (i:=i) (List.nodup_cons.mp nd).2 (by simpa using h1) (by simpa using h2) hk
theorem zgY{v:Value}: ∀ {P:List Str}{vs:List Value}{i:Nat}{m:Str->Option Value},P.Nodup->P[i]?=some x->vs[i]?=some v->kindOf x≠some .local->
  bindC kindOf (P.zip vs) m x=some v
 | [],_,_,_,_,h,_,_=>by simp at h
 | _::_,[],_,_,_,_,h,_=>by simp at h
 | p::P,w::vs,0,m,nd,h1,h2,hk=>by
  simp at h1 h2;subst h1;subst h2
  show bindC kindOf ((p,w)::P.zip vs) m p=_
  unfold bindC
  rw[zjr λv hv=>(List.nodup_cons.mp nd).1 (List.of_mem_zip hv).1,if_neg hk]
  simp
 | p::P,w::vs,i+1,m,nd,h1,h2,hk=>by
  show bindC kindOf ((p,w)::P.zip vs) m x=_
  unfold bindC
  exact zgY (i:=i) (List.nodup_cons.mp nd).2 (by simpa using h1) (by simpa using h2) hk
def start (N:List Str)(vs:List V):St:=vs.map some++List.replicate (N.length - vs.length) none
def cxOf (CX:CXT)(P:Program)(w:World)(K:Fg)(mg:Str->Option Value)(base:Heap)(N:List Str)(qual:Str)(scope:Scope)(f:Addr)(cd:Value)(A:Around)(outer:List Env)(s:Shared)(H:Hp)(E:XK):Cx where
 prog:=P
 w:=w
 K:=K
 mg:=mg
 base:=base
 A:=A.deeper (envOfC qual scope s.heap.objs.size f cd)
 N:=N
 s₀:=s
 H₀:=H
 env:=envOfC qual scope s.heap.objs.size f cd
 outer:=outer
 stack:=envOfC qual scope s.heap.objs.size f cd::outer
 ex:=[]
 calm:=true
 fn:=λ_=>true
 pn:=[]
 xe:=λe s'=>wpAny (model P w) (A.deeper (envOfC qual scope s.heap.objs.size f cd)) (leaving (envOfC qual scope s.heap.objs.size f cd) e) (λ_ s''=>CX outer H s E e s'') (λe' s''=>CX outer H s E e' s'') s'
theorem zgC{sc:Scope}(h:sc.names.lookup x=some .cell):∃ c,(cellsFrom n sc.names []).lookup x=some c:=by
 have q:=PySem.W.cellsFrom_some sc.names n [] (.inl h)
 exact Option.isSome_iff_exists.mp q
variable {qual:Str}{scope:Scope}
theorem zmW{cd:Value}{s1:Shared}{E:XK}(S:FSc N ps scope)(hd:A.handled=none)(e0:Env0 P w K mg base A outer s H)(hl:vs.length=ps.length)(r:Vals vs us)(x:InCallC s s.heap.objs.size (bindL (envOfC qual scope s.heap.objs.size f cd).kindOf (ps.zip us) λ_=>none) (cellsFrom (s.heap.objs.size+1) scope.names []) (bindC (envOfC qual scope s.heap.objs.size f cd).kindOf (ps.zip us) λ_=>none) s1):
  Inv (cxOf CX P w K mg base N qual scope f cd A outer s H E) [] (start N vs) H s1:=by
 have hpl:ps.length<=N.length:=by have:=congrArg List.length S.pre;rw[List.length_take] at this;omega
 obtain⟨h1,tk,rfl,hk⟩:=x.done
 have noA:∀ b:Addr,b∉(cxOf CX P w K mg base N qual scope f cd A outer s H E).ex:=λb z=>absurd (show b∈([]:List Addr) from z) (by simp)
 refine⟨⟨e0.mod,S.kind,rfl,rfl,Nat.le_refl _,λy z c h1 h2=>?_,λy hy=>?_,λy c _ h=>?_,λ_=>hd,Around.frames_deeper e0.frames,.inr ⟨rfl,rfl⟩,λb z=>absurd z (noA b),e0.bs,e0.bsz,λb _ _=>noA b,λb z=>absurd z (noA b),e0.funs,e0.frf⟩,
  rfl,e0.bare,Un.kept hk,⟨_,x.toInCall.ns,λi y v h1 h2 h3=>?_⟩,λy c h=>⟨_,x.cell y c h⟩,e0.hok.fresh (Nat.le_refl _),λy c h=>?_,λp hp=>absurd (show p∈([]:List (Addr × Obj)) from hp) (by simp),e0.hok.kept hk,?_⟩
 ·exact name_of_addr x.apart (PySem.mem_of_lookup h1) (PySem.mem_of_lookup h2)
 ·have hy:scope.names.lookup y=some .cell\/scope.names.lookup y=some .free:=hy
  rcases hy with hy | hy
  ·exact zgC hy
  ·exact absurd rfl (S.nofree _ (PySem.mem_of_lookup hy))
 ·exact Nat.le_of_lt (x.above y c (PySem.mem_of_lookup h))
 ·have hi:i<vs.length:=by
   unfold start at h2
   by_cases hi:i<vs.length
   ·exact hi
   ·rw[List.getElem?_append_right (by simpa using hi)] at h2
    rw[List.getElem?_replicate] at h2
    split at h2 <;> cases h2
  have ha:vs[i]?=some v:=by
   unfold start at h2
   rw[List.getElem?_append_left (by simpa using hi),zgm] at h2
   cases e:vs[i]? with
   | none=>rw[e] at h2;cases h2
   | some a=>rw[e] at h2;cases h2;rfl
  obtain⟨u,hu,rv⟩:=r.get ha
  have hp:ps[i]?=some y:=by
   rw[<-S.pre,List.getElem?_take_of_lt (by omega)];exact h1
  have ndP:ps.Nodup:=by rw[<-S.pre];exact S.nd.sublist (List.take_sublist _ _)
  refine⟨u,rv,?_⟩
  rcases S.par y (zmg hp) with k | k
  ·exact .inl ⟨k,zgX ndP hp hu k⟩
  ·obtain⟨c,e⟩:=zgC (n:=s.heap.objs.size+1) k
   refine .inr ⟨.inl k,c,e,?_⟩
   have q:=x.cell y c e
   rw[zgY ndP hp hu (by show scope.names.lookup y≠_;rw[k];decide)] at q
   exact q
 ·exact e0.hok.fresh (Nat.le_of_lt (x.above y c (PySem.mem_of_lookup h)))
 ·unfold start
  show _=N.length
  rw[List.length_append,zlm,List.length_replicate]
  omega
theorem zrf{k:Nat}{params:Arguments}{dV kV doc pm cdv ct oc:Value}{an od:Option Addr}{osl:Array (Option Value)}(lk:K.lookup f=some ⟨oc,od,.func (PySem.W.fnOf name qual params body scope dV kV doc pm an cdv ct),osl⟩)(hcd:PySem.W.codeIn K cdv qual=true)(S:FSc N ps scope)(len:∀ vs H Q E,sp vs H Q E->vs.length=ps.length)(hbody:∀ (A:Around) (outer:List Env) (s:Shared) (H:Hp) (vs:List V) (Q:VK) (E:XK),Room k (A.deeper (envOfC qual scope s.heap.objs.size f cdv))->sp vs H Q E->
   ∃ t,PSs (cxOf CX P w K mg base N qual scope f cdv A outer s H E) body t/\t {nx:=λ_ H'=>Q .non H',rt:=Q} (start N vs) H):
  FnOk P w K mg base CX (k+1) f (PySem.W.fnOf name qual params body scope dV kV doc pm an cdv ct) ps sp:=by
 refine⟨len,λA outer s H args us vs Q E hr e0 hb r hsp=>?_⟩
 have hl:=len _ _ _ _ hsp
 have KX:K.In s.heap:=e0.mod.kin.keeps λb o e=>(e0.bs b o e).1
 have lim:s.heap.NoLimit:=e0.mod.nolimit.keeps λb o e=>(e0.bs b o e).1
 have hkind:∀ y∈ps.zip us,scope.names.lookup y.1=some .local\/(scope.names.lookup y.1=some .cell/\((cellsFrom (s.heap.objs.size+1) scope.names []).lookup y.1).isSome=true):=λ⟨n,v⟩ hy=>by
  rcases S.par n (List.of_mem_zip hy).1 with q | q
  ·exact .inl q
  ·exact .inr ⟨q,PySem.W.cellsFrom_some _ _ _ (.inl q)⟩
 refine codeAny_call_function hr.depth (KX _ _ lk) rfl S.co S.gen rfl (PySem.W.codeRec_of KX hcd) (hb _ _ _ _ ?_)
 refine wpAny_newFunctionEnv_cells S.kind hkind λenv he s1 x=>?_
 subst he
 refine⟨lim.keeps x.toInCall.keep,codeAny_func ?_⟩
 obtain⟨t,ht,hq⟩:=hbody A outer s H vs Q E (hr.deeper _) hsp
 have I:Inv (cxOf CX P w K mg base N qual scope f cdv A outer s H E) [] (start N vs) H s1:=zmW S hr.hd e0 hl r x
 refine wpAny_mono (ht [] s1 (start N vs) H _ I hq) (λfl s' hs=>?_) λe s' hs=>hs
 have fin:∀ {σ':St}{H':Hp}{v:V}{u:Value},Inv (cxOf CX P w K mg base N qual scope f cdv A outer s H E) [] σ' H' s'->RelV v u->Q v H'->CE outer P w H s Q u s':=
  λ{σ' H' v u} J rv q=>⟨v,H',J.os,J.bare,J.base,J.hok,rv,q⟩
 cases fl with
 | ret u=>
  obtain⟨v,σ',H',J,rv,q⟩:=hs
  exact fin J rv q
 | next=>
  obtain⟨σ',H',J,q⟩:=hs
  exact fin (v:=V.non) (u:=Value.none) J rfl q
 | brk=>
  obtain⟨_,_,_,q⟩:=hs
  exact False.elim q
 | cont=>
  obtain⟨_,_,_,q⟩:=hs
  exact False.elim q
section
variable {t:TA}{id T:String}{r:List V->Hp->VK->Prop}

def tCB (r:List V->Hp->VK->Prop)(t:TA):TE:=λσ H Q=>t σ H λvs H1=>r vs H1 Q
theorem zaw (hc:zb3 X (.builtin id) r)(hg:Gl X x)(hm:X.mg x=none)(hv:bootBuiltins x=some (.builtin id))(ha:PA X (e::es) t)(hn:x≠ "__name__":=by decide)(hdb:(x == ("__debug__" : Str))=false:=by decide)
  (he:starEach (e::es) X.env=(false,eval e X.env)::starEach es X.env:=by rfl) (hpl:(backTo pos (starEach es X.env)).any (·.1)=false:=by rfl):PE X (.Call (.Name x p) (e::es) [] pos) (tCB r t):=by
 intro pins s σ H Q I h
 refine wpAny_Call_Name_kw (zid I hg hm hv ?_ hn hdb)
 exact PyProof.Rows.callWith_builtin1 (thn (ha pos pins s σ H _ I h) λus s1 ⟨vs,H1,I1,r1,q1⟩=>hc pins s1 σ H1 vs us Q I1 r1 q1) he hpl
theorem zcS (hc:zb3 X (.type T) r)(hg:Gl X x)(hm:X.mg x=none)(hv:bootBuiltins x=some (.type T))(ha:PA X (e::es) t)(hn:x≠ "__name__":=by decide)(hdb:(x == ("__debug__" : Str))=false:=by decide)
  (he:starEach (e::es) X.env=(false,eval e X.env)::starEach es X.env:=by rfl) (hpl:(backTo pos (starEach es X.env)).any (·.1)=false:=by rfl):PE X (.Call (.Name x p) (e::es) [] pos) (tCB r t):=by
 intro pins s σ H Q I h
 refine wpAny_Call_Name_kw (zid I hg hm hv ?_ hn hdb)
 exact PyProof.Rows.callWith_type1 (thn (ha pos pins s σ H _ I h) λus s1 ⟨vs,H1,I1,r1,q1⟩=>hc pins s1 σ H1 vs us Q I1 r1 q1) he hpl
end
end L2

namespace HT
open PySem PyProof.Rows

section
open PySem.SeqAt
open PySem.AutoSeq1 (wpAny_loadPart')
open PySem.MeetsSeq PySem.MeetsSeq2 PySem.MeetsSeq3

end

variable {Q:Value->Shared->Prop}{vl vu:Value}{lo hi:Option Int}
section
variable {prog:Program}{w:World}{A:Around}{E:Value->Shared->Prop}{s:Shared}

theorem cat_tup{t b:Addr}{vs ws:List Value}(ht:IsTup s.heap t vs.toArray)(hb:IsTup s.heap b ws.toArray)(hv:vs≠[])(h1:ws=[]->Q (.ref t) s)(h2:ws≠[]->Q (.ref s.heap.objs.size) {s with heap:=s.heap.push {cls:=.type "tuple",data:=.seq (vs++ws).toArray}})(hsz:vs.length+ws.length<=sizeLine):wpAny (model prog w) A (binaryOp .Add (.ref t) (.ref b)) Q E s:=by
 obtain⟨⟨cls,dd,data,sl⟩,ho,hc,n,hd⟩:=id ht
 obtain⟨⟨cls2,dd2,data2,sl2⟩,ho2,hc2,n2,hd2⟩:=id hb
 simp only at hc hd hc2 hd2
 subst hc hd hc2 hd2
 have e:vs.toArray++ws.toArray=(vs++ws).toArray:=by simp
 by_cases hw:ws=[]
 ·exact concat_meets ⟨_,ho,rfl⟩ ⟨_,ho2,rfl⟩ noFill_tuple_add seq_tuple_add PySem.F.slot_tuple_add PySem.F.entry_tuple_add (PySem.F.args_tuple_add_2 _ _)
   (tuple_addW1 t b vs.toArray ws.toArray n n2 dd dd2 sl sl2 (by simpa using hv) (by simp[hw])) ⟨ho,ho2,h1 hw⟩
 ·refine concat_meets ⟨_,ho,rfl⟩ ⟨_,ho2,rfl⟩ noFill_tuple_add seq_tuple_add PySem.F.slot_tuple_add PySem.F.entry_tuple_add (PySem.F.args_tuple_add_2 _ _)
   (tuple_addW2 t b vs.toArray ws.toArray n n2 dd dd2 sl sl2 (by simpa using hv) (by simpa using hw) (by rw[zst,zst];exact hsz)) ⟨ho,ho2,?_⟩
  rw[e]
  exact h2 hw
def sIx (n d:Nat):Option Int->Nat
 | none=>d
 | some v=>if v<0 then (v+(n:Int)).toNat else min v.toNat n
theorem sIx_none (n d:Nat):sIx n d none=d:=rfl
theorem sIx_nat (n d k:Nat):sIx n d (some (k:Int))=min k n:=by
 show (if (k:Int)<0 then ((k:Int)+(n:Int)).toNat else min (k:Int).toNat n)=min k n
 rw[if_neg (by omega),Int.toNat_natCast]
theorem zrg (n d:Nat)(hd:d<=n)(o:Option Int):sIx n d o<=n:=by
 cases o with
 | none=>exact hd
 | some v=>
  show (if v<0 then (v+(n:Int)).toNat else min v.toNat n)<=n
  by_cases hv:v<0
  ·rw[if_pos hv];omega
  ·rw[if_neg hv];exact Nat.min_le_right _ _
theorem zmX (v:Int)(n d:Nat):(if v<0 then max (v+(n:Int)) 0 else min v (n:Int))=((sIx n d (some v):Nat):Int):=by
 show (if v<0 then max (v+(n:Int)) 0 else min v (n:Int))=(((if v<0 then (v+(n:Int)).toNat else min v.toNat n):Nat):Int)
 by_cases hv:v<0
 ·simp only[if_pos hv];omega
 ·simp only[if_neg hv];omega
theorem zlW (lo hi:Option Int)(n:Nat):Builtin.Slice.sliceAdjust lo hi 1 (n:Int)=(((sIx n 0 lo:Nat):Int),((sIx n n hi:Nat):Int)):=by
 have h1:¬ ((1:Int)<0):=by omega
 unfold Builtin.Slice.sliceAdjust
 simp only[h1,if_false]
 refine Prod.ext ?_ ?_
 ·cases lo with
  | none=>rfl
  | some v=>exact zmX v n 0
 ·cases hi with
  | none=>rfl
  | some v=>exact zmX v n n
theorem zlX (i j:Nat):Builtin.Slice.slicePlaces (i:Int) (j:Int) 1=j - i:=by
 unfold Builtin.Slice.slicePlaces
 have h1:(1:Int)>0:=by omega
 simp only[h1,if_true,Int.ediv_one]
 split <;> omega
theorem zig {v:Value}{o:Option Int}{Q:Option Int->Shared->Prop}(p:IsPart v o)(h:Q o s):wpAny (model prog w) A (Builtin.Slice.slicePartIndex v) Q E s:=by
 cases p with
 | none=>exact slicePart_none h
 | int i t=>exact slicePart_int h
theorem zgr{sl:Addr}{n:Nat}{Q:Int × Int × Nat->Shared->Prop}(hs:s.heap.IsSliceOf sl vl vu .none)(pl:IsPart vl lo)(pu:IsPart vu hi)(h:Q (((sIx n 0 lo:Nat):Int),1,sIx n n hi - sIx n 0 lo) s):wpAny (model prog w) A (Builtin.Slice.sliceApplied (.ref sl) (pure (n:Int))) Q E s:=by
 obtain⟨os,hos,hcs,hds⟩:=id hs
 unfold Builtin.Slice.sliceApplied Builtin.Slice.sliceFields
 refine wpAny_bind (wpAny_bind (wpAny_field hos hds (x:=vl) rfl (wpAny_bind (wpAny_field hos hds (x:=vu) rfl (wpAny_bind (wpAny_field hos hds (x:=.none) rfl (wpAny_pure ?_)))))))
 refine wpAny_bind (slicePart_none ?_)
 show wpAny _ _ (if ((1:Int) == 0)=true then _ else _) _ _ s
 rw[if_neg (by decide)]
 refine wpAny_bind (zig pl (wpAny_bind (zig pu (wpAny_bind (wpAny_pure ?_)))))
 show wpAny _ _ (match Builtin.Slice.sliceAdjust lo hi 1 (n:Int) with | (lo,hi)=>pure (lo,(1:Int),Builtin.Slice.slicePlaces lo hi 1)) _ _ s
 rw[zlW lo hi n]
 show wpAny _ _ (pure (((sIx n 0 lo:Nat):Int),(1:Int),Builtin.Slice.slicePlaces ((sIx n 0 lo:Nat):Int) ((sIx n n hi:Nat):Int) 1)) _ _ s
 rw[zlX]
 exact wpAny_pure h
theorem zoh (xs:Array Value)(i k:Nat):((List.range k).filterMap λ(m:Nat)=>xs[((i:Int)+(m:Int) * 1).toNat]?).toArray=((xs.toList.drop i).take k).toArray:=by
 have e:(λ(m:Nat)=>xs[((i:Int)+(m:Int) * 1).toNat]?)=λm=>xs[i+m]?:=by
  funext m
  have:((i:Int)+(m:Int) * 1).toNat=i+m:=by omega
  rw[this]
 rw[e]
 have:=pick_run xs i k
 rw[List.filterMap_map] at this
 have e2:((λx=>xs[x]?) ∘ λx=>i+x)=λm=>xs[i+m]?:=rfl
 rw[e2] at this
 rw[this]
theorem getItem_tuple_cut{t sl:Addr}{items:Array Value}(ht:IsTup s.heap t items)(hs:s.heap.IsSliceOf sl vl vu .none)(pl:IsPart vl lo)(pu:IsPart vu hi)(hw:¬ (sIx items.size 0 lo=0/\sIx items.size items.size hi=items.size))(h:Q (.ref s.heap.objs.size) {s with heap:=s.heap.push {cls:=.type "tuple",data:=.seq ((items.toList.drop (sIx items.size 0 lo)).take (sIx items.size items.size hi - sIx items.size 0 lo)).toArray}})(hsz:items.size<=sizeLine):wpAny (model prog w) A (getItem (.ref t) (.ref sl)) Q E s:=by
 have htake:sizeOk (.seq ((items.toList.drop (sIx items.size 0 lo)).take (sIx items.size items.size hi - sIx items.size 0 lo)).toArray):=by
  show ((items.toList.drop (sIx items.size 0 lo)).take (sIx items.size items.size hi - sIx items.size 0 lo)).toArray.size<=sizeLine
  rw[zst,List.length_take,List.length_drop,Array.length_toList]
  omega
 have hj:sIx items.size items.size hi<=items.size:=zrg _ _ (Nat.le_refl _) hi
 obtain⟨os,hos,hcs,hds⟩:=id hs
 have hTs:s.TypeIs (.ref sl) "slice":=⟨os,hos,hcs⟩
 unfold getItem
 try with_reducible refine wpAny_holding ?_
 first | refine wpAny_bind (wpAny_pure ?_) | skip
 refine wpAny_bind (wpAny_sequenceKey ht.typeIs (by decide) ?_)
 refine wpAny_bind (wpAny_callSpecial?_slot (name:=Str.ofString "__getitem__") ht.typeIs PyProof.Rows.slot_tuple_getitem
  (wpAny_call_entry PyProof.Rows.slot_tuple_getitem ht.typeIs entry_tuple_getitem ?_ (args_tuple_getitem _ _)))
 show wpAny _ _ (Builtin.Tuple.tupleItemsOf (.ref t) >>= _) _ _ s
 refine wpAny_bind (tupleItemsOf_ ht ?_)
 refine wpAny_bind (wpAny_typeOf hTs ?_)
 rw[if_pos (by decide)]
 refine wpAny_bind (zgr hs pl pu ?_)
 have hno:¬ ((((sIx items.size 0 lo:Nat):Int) == 0 && (1:Int) == 1 && (sIx items.size items.size hi - sIx items.size 0 lo) == items.size)=true):=by
  intro q
  rw[Bool.and_eq_true,Bool.and_eq_true] at q
  have q1:((sIx items.size 0 lo:Nat):Int)=0:=eq_of_beq q.1.1
  have q2:sIx items.size items.size hi - sIx items.size 0 lo=items.size:=eq_of_beq q.2
  exact hw ⟨by omega,by omega⟩
 show wpAny _ _ (if (((sIx items.size 0 lo:Nat):Int) == 0 && (1:Int) == 1 && (sIx items.size items.size hi - sIx items.size 0 lo) == items.size)=true then _ else _) _ _ s
 rw[if_neg hno,zoh]
 first
  | exact wpAny_bind (m:=Builtin.Tuple.tupleExact _) (wpAny_newObj_type (wpAny_pure ⟨_,rfl,wpAny_pure h⟩) htake)
  | exact wpAny_bind (m:=Builtin.Tuple.tupleExact _) (wpAny_newObj_type (wpAny_bind (wpAny_pure (wpAny_pure ⟨_,rfl,wpAny_pure h⟩))) htake)
  | exact wpAny_bind (wpAny_bind (m:=Builtin.Tuple.tupleExact _) (wpAny_newObj_type (wpAny_pure (wpAny_pure ⟨_,rfl,wpAny_pure h⟩)) htake))
  | exact wpAny_bind (wpAny_bind (m:=Builtin.Tuple.tupleExact _) (wpAny_newObj_type (wpAny_pure ⟨_,rfl,wpAny_pure h⟩) htake))
end
end HT

namespace L2
open PySem PySem.Spec PyProof.Rows

abbrev TO:=St->Hp->(Option Int->Hp->Prop)->Prop
def PO (X:Cx)(e:Option Expr)(t:TO):Prop:=
 ∀ (pins:List (Addr × Obj)) (s:Shared) (σ:St) (H:Hp) (Q:Option Int->Hp->Prop),Inv X pins σ H s->t σ H Q->
  wpAny (model X.prog X.w) X.A (evalPart e X.env) (λu s'=>∃ o H',Inv X pins σ H' s'/\IsPart u o/\Q o H') X.xe s
def zmY:TO:=λ_ H Q=>Q none H
def zrh (t:TE):TO:=λσ H Q=>t σ H λx H1=>∃ i,x=.int i/\Q (some i) H1
theorem zlY {ns:List Int} : ∀ {us:List Value},Vals (ns.map V.int) us->IntsAre us ns:=by
 induction ns with
 | nil=>intro us r;rw[List.map_nil] at r;cases r;exact .nil
 | cons n ns ih=>
  intro us r
  rw[zmc] at r
  cases r with
  | cons r1 r2=>
   obtain⟨t,e⟩:=r1
   subst e
   exact .cons n t (ih r2)
variable {xs:List V}{us:List Value}{pos:Pos}{X:Cx}{e:Expr}
section
variable {te:TE}{lo hi:Option Expr}{tl th:TO}{p2:Pos}

theorem zgZ:PO X none zmY:=by
 intro pins s σ H Q I h
 rw[evalPart_none]
 exact wpAny_pure ⟨none,H,I,.none,h⟩
theorem zg0 (h:PE X e te):PO X (some e) (zrh te):=by
 intro pins s σ H Q I hw
 rw[evalPart_some]
 refine thn (h pins s σ H _ I hw) λu s1 ⟨x,H1,I1,r1,q1⟩=>?_
 obtain⟨i,rfl,q⟩:=q1
 obtain⟨t,rfl⟩:=r1
 exact⟨some i,H1,I1,.int i t,q⟩
def SlR (X:Cx)(r:V->Option Int->Option Int->Hp->VK->Prop):Prop:=
 ∀ (pins:List (Addr × Obj)) (s:Shared) (σ:St) (H:Hp) (x:V) (v vl vu:Value) (lo hi:Option Int) (sl:Addr) (Q:VK),Inv X pins σ H s->RelV x v->s.heap.IsSliceOf sl vl vu .none->IsPart vl lo->IsPart vu hi->r x lo hi H Q->
  ∃ T id,typeLookup (.type T) "__getitem__"=pure (some (.builtin id))/\s.TypeIs v T/\wpAny (model X.prog X.w) X.A (getItem v (.ref sl)) (EP X pins σ Q) X.xe s
variable {r:V->Option Int->Option Int->Hp->VK->Prop}
theorem SlR.or{r':V->Option Int->Option Int->Hp->VK->Prop}(h:SlR X r)(h':SlR X r'):SlR X (λx lo hi H Q=>r x lo hi H Q\/r' x lo hi H Q):=by
 intro pins s σ H x v vl vu lo hi sl Q I rx hs pl pu q
 rcases q with q | q
 ·exact h pins s σ H x v vl vu lo hi sl Q I rx hs pl pu q
 ·exact h' pins s σ H x v vl vu lo hi sl Q I rx hs pl pu q
def tSl (r:V->Option Int->Option Int->Hp->VK->Prop)(te:TE)(tl th:TO):TE:=λσ H Q=>te σ H λx H1=>tl σ H1 λl H2=>th σ H2 λu H3=>r x l u H3 Q
theorem zfh(hr:SlR X r)(he:PE X e te)(hl:PO X lo tl)(hu:PO X hi th):PE X (.Subscript e (.Slice lo hi none p2) pos) (tSl r te tl th):=by
 intro pins s σ H Q I h
 refine Subscript_ (thn (he pins s σ H _ I h) λv s1 ⟨x,H1,I1,r1,q1⟩=>?_)
 refine wpAny_Slice (thn (hl pins s1 σ H1 _ I1 q1) λvl s2 ⟨l,H2,I2,pl,q2⟩=>thn (hu pins s2 σ H2 _ I2 q2) λvu s3 ⟨u,H3,I3,pu,q3⟩=>?_)
 rw[evalPart_none]
 refine wpAny_pure ?_
 have I4:Inv X pins σ H3 {s3 with heap:=s3.heap.push {cls:=.type "slice",data:=.fields #[vl,vu,.none]}}:=I3.kept (t':=s3.toks) λb ob q=>Heap.get?_push_of_some _ q
 obtain⟨T,id,hT,ht,hg⟩:=hr pins {s3 with heap:=s3.heap.push {cls:=.type "slice",data:=.fields #[vl,vu,.none]}} σ H3 x v vl vu l u s3.heap.objs.size Q I4 r1 (Heap.IsSliceOf.new ..) pl pu q3
 show wpAny (model X.prog X.w) X.A (subscriptTail e (.Slice lo hi none p2) v (.ref s3.heap.objs.size)) (EP X pins σ Q) X.xe {s3 with heap:=s3.heap.push {cls:=.type "slice",data:=.fields #[vl,vu,.none]}}
 exact tail_any (ops:=[.ref s3.heap.objs.size,v]) ht hT hg (by with_unfolding_all rfl)
def cutV (xs:List V)(lo hi:Option Int):List V:=(xs.drop (HT.sIx xs.length 0 lo)).take (HT.sIx xs.length xs.length hi - HT.sIx xs.length 0 lo)
theorem zg1 (xs:List V)(lo hi:Option Int):(cutV xs lo hi).length<=xs.length:=by
 unfold cutV
 rw[List.length_take,List.length_drop]
 omega
def rSlT (K:Fg):V->Option Int->Option Int->Hp->VK->Prop:=λx lo hi H Q=>∃ a xs,x=.ref a/\SqT K H a xs/\
 ¬ (HT.sIx xs.length 0 lo=0/\HT.sIx xs.length xs.length hi=xs.length)/\∀ p,H p=none->Q (.ref p) (upd H p (.tup (cutV xs lo hi)))
theorem zri:SlR X (rSlT X.K):=by
 intro pins s σ H x v vl vu lo hi sl Q I rx hs pl pu h
 obtain⟨a,xs,rfl,hx,hw,q⟩:=h
 cases rx
 obtain⟨its,r,ht,hz⟩:=I.tuple hx
 have hlen:its.toArray.size=xs.length:=by rw[zst];exact r.length.symm
 refine⟨"tuple",_,PyProof.Rows.slot_tuple_getitem.lookup,ht.typeIs,?_⟩
 refine HT.getItem_tuple_cut ht hs pl pu (by rw[hlen];exact hw) ?_ (by rw[hlen];exact hz)
 rw[hlen]
 refine⟨.ref s.heap.objs.size,_,I.laid (t':=s.toks) (o:=.tup (cutV xs lo hi)) (λb ob q=>Heap.get?_push_of_some _ q) (Nat.le_refl _) ?_,rfl,q _ (I.hok.fresh (Nat.le_refl _))⟩
 exact⟨Nat.le_trans (zg1 xs lo hi) hz,_,(r.drop (HT.sIx xs.length 0 lo)).take (HT.sIx xs.length xs.length hi - HT.sIx xs.length 0 lo),IsTup.new _ _⟩
def zrj (K:Fg):R2:=λx y H Q=>∃ a b xs ys,x=.ref a/\y=.ref b/\SqT K H a xs/\SqT K H b ys/\xs≠[]/\xs.length+ys.length<=sizeLine/\
 (ys=[]->Q (.ref a) H)/\(ys≠[]->∀ p,H p=none->Q (.ref p) (upd H p (.tup (xs++ys))))
theorem Vals.nil_iff(r:Vals xs us):us=[]↔xs=[]:=by
 cases r with
 | nil=>simp
 | cons _ _=>simp
theorem zpZ:OpR X (binaryOp .Add) (zrj X.K):=by
 intro pins s σ H x y v u Q I rx ry h
 obtain⟨a,b,xs,ys,rfl,rfl,ha,hb,hx,hz,q1,q2⟩:=h
 cases rx
 cases ry
 obtain⟨its,r1,p1,_⟩:=I.tuple ha
 obtain⟨its2,r2,p2,_⟩:=I.tuple hb
 refine HT.cat_tup p1 p2 (λz=>hx (r1.nil_iff.mp z)) (λz=>⟨.ref a,H,I,rfl,q1 (r2.nil_iff.mp z)⟩) (λz=>?_) (by rw[<-r1.length,<-r2.length];exact hz)
 refine⟨.ref s.heap.objs.size,_,I.laid (t':=s.toks) (o:=.tup (xs++ys)) (λb ob q=>Heap.get?_push_of_some _ q) (Nat.le_refl _) ?_,rfl,q2 (λw=>z (r2.nil_iff.mpr w)) _ (I.hok.fresh (Nat.le_refl _))⟩
 exact⟨by rw[List.length_append];exact hz,_,r1.append r2,IsTup.new _ _⟩
end

def ixN (n:Nat)(i:Int):Option Nat:=if 0<=i then (if i<n then some i.toNat else none) else if -(n:Int)<=i then some (i+n).toNat else none
def atI {α:Type}(xs:List α)(i:Int):Option α:=(ixN xs.length i).bind λj=>xs[j]?
variable {n j:Nat}{i:Int}
theorem zmZ(h:ixN n i=some j):seqIndex? i n=some j/\j<n/\-(n:Int)<=i/\i<n:=by
 unfold ixN at h
 by_cases h0:0<=i
 ·rw[if_pos h0] at h
  by_cases h1:i<n
  ·rw[if_pos h1] at h
   have e:i.toNat=j:=Option.some.inj h
   exact⟨by rw[seqIndex_of h0 h1,e],by omega,by omega,h1⟩
  ·rw[if_neg h1] at h;cases h
 ·rw[if_neg h0] at h
  by_cases h1:-(n:Int)<=i
  ·rw[if_pos h1] at h
   have e:(i+n).toNat=j:=Option.some.inj h
   exact⟨by rw[seqIndex_neg (by omega) h1,e],by omega,h1,by omega⟩
  ·rw[if_neg h1] at h;cases h
variable {α:Type}
theorem zkB{xs:List α}{v:α}(h:atI xs i=some v):∃ j,seqIndex? i xs.length=some j/\xs[j]?=some v/\j<xs.length/\-(xs.length:Int)<=i/\i<xs.length:=by
 unfold atI at h
 cases e:ixN xs.length i with
 | none=>rw[e] at h;cases h
 | some j=>
  rw[e] at h
  obtain⟨h1,h2,h3,h4⟩:=zmZ e
  exact⟨j,h1,h,h2,h3,h4⟩
theorem zaB{xs:List α}{v:α}(h:xs[j]?=some v):atI xs (j:Int)=some v:=by
 have hj:j<xs.length:=(zge.mp h).1
 have e:ixN xs.length (j:Int)=some j:=by
  unfold ixN
  rw[if_pos (by omega),if_pos (by omega)];simp
 unfold atI;rw[e];exact h
def zp0 (b:Expr):Prop:=∀ o i,subscripted b false o i=operate [o,i] (getItem o i)
def IxR (X:Cx)(r:R2):Prop:=
 ∀ (value slice:Expr) (pins:List (Addr × Obj)) (s:Shared) (σ:St) (H:Hp) (x y:V) (v u:Value) (Q:VK),Inv X pins σ H s->RelV x v->RelV y u->r x y H Q->
  subscripted slice false v u=operate [v,u] (getItem v u)->wpAny (model X.prog X.w) X.A (subscriptTail value slice v u) (EP X pins σ Q) X.xe s
def MtR (X:Cx)(id:String)(r:V->List V->Hp->VK->Prop):Prop:=
 ∀ (pins:List (Addr × Obj)) (s:Shared) (σ:St) (H:Hp) (x:V) (xs:List V) (v:Value) (us:List Value) (Q:VK),Inv X pins σ H s->RelV x v->Vals xs us->r x xs H Q->
  wpAny (model X.prog X.w) X.A (call (.builtin id) (v::us)) (EP X pins σ Q) X.xe s
variable {pins:List (Addr × Obj)}{σ:St}{H:Hp}{s:Shared}{p:Addr}{ys:List V}{its its':List Value}{A:Around}{y x:V}{u v:Value}{T id:String}{apos cpos:Pos}
section
variable {a b:Expr}{ta tb:TE}
theorem IxR.or {r r':R2}(h:IxR X r)(h':IxR X r'):IxR X (λx y H Q=>r x y H Q\/r' x y H Q):=by
 intro value slice pins s σ H x y v u Q I rx ry q hs
 rcases q with q | q
 ·exact h value slice pins s σ H x y v u Q I rx ry q hs
 ·exact h' value slice pins s σ H x y v u Q I rx ry q hs
theorem zav {r:R2}(hr:IxR X r)(ha:PE X a ta)(hb:PE X b tb)(hs:zp0 b:=by exact λ_ _=>rfl):PE X (.Subscript a b pos) (tOp r ta tb):=by
 intro pins s σ H Q I h
 exact Subscript_ (binT ha hb I h λv u s2 x y H2 I2 rx ry q=>hr a b pins s2 σ H2 x y v u Q I2 rx ry q (hs _ _))
def rIxL (K:Fg):R2:=λx y H Q=>∃ p xs i v,x=.ref p/\y=.int i/\SqL K H p xs/\atI xs i=some v/\Q v H
def rIxT (K:Fg):R2:=λx y H Q=>∃ p xs i v,x=.ref p/\y=.int i/\SqT K H p xs/\atI xs i=some v/\Q v H
def rIxS:R2:=λx y H Q=>∃ z i c,x=.str z/\y=.int i/\z.length<=sizeLine/\atI z.cps.toList i=some c/\Q (.str ⟨#[c]⟩) H
theorem zp1:IxR X (rIxL X.K):=by
 intro value slice pins s σ H x y v u Q I rx ry h hs
 obtain⟨p,xs,i,z,rfl,rfl,hq,he,q⟩:=h
 cases rx
 obtain⟨t,rfl⟩:=ry
 obtain⟨its,r,pl,hz⟩:=I.list hq
 obtain⟨j,h1,h2,h3,h4,h5⟩:=zkB he
 obtain⟨w,ew,rw'⟩:=r.get h2
 have hl:=r.length
 have hn:=zif
 have fin:EP X pins σ Q w s:=⟨z,H,I,rw',q⟩
 by_cases h0:0<=i
 ·have hj:i.toNat=j:=by
   rw[seqIndex_of h0 h5] at h1
   exact Option.some.inj h1
  exact item_listR pl.isList h0 (by omega) (by rw[hj];simpa using ew) fin hs
 ·have hj:(i+(its.toArray.size:Int)).toNat=j:=by
   rw[seqIndex_neg (by omega) h4] at h1
   rw[zst,<-hl]
   exact Option.some.inj h1
  exact subscriptTail_builtinR (x:=w) pl.isList.typeIs slot_list_getitem.lookup
   (wpAny_getItem_list_neg (Q:=λr s'=>r=w/\EP X pins σ Q r s') pl.isList (by omega) (by rw[zst] <;> omega) (by omega) (by rw[hj];simpa using ew) ⟨rfl,fin⟩) hs
theorem zrk:IxR X (rIxT X.K):=by
 intro value slice pins s σ H x y v u Q I rx ry h hs
 obtain⟨p,xs,i,z,rfl,rfl,hq,he,q⟩:=h
 cases rx
 obtain⟨t,rfl⟩:=ry
 obtain⟨its,r,pl,hz⟩:=I.tuple hq
 obtain⟨j,h1,h2,h3,h4,h5⟩:=zkB he
 obtain⟨w,ew,rw'⟩:=r.get h2
 have hl:=r.length
 have hn:=zif
 have fin:EP X pins σ Q w s:=⟨z,H,I,rw',q⟩
 exact subscriptTail_builtinR (x:=w) pl.typeIs slot_tuple_getitem.lookup
  (getItem_tuple (j:=j) (Q:=λr s'=>r=w/\EP X pins σ Q r s') pl (by omega) (by omega) (by rw[zst,<-hl];exact h1) (by simpa using ew) ⟨rfl,fin⟩) hs
theorem zrl:IxR X rIxS:=by
 intro value slice pins s σ H x y v u Q I rx ry h hs
 obtain⟨z,i,c,rfl,rfl,hz,he,q⟩:=h
 obtain⟨t,rfl⟩:=rx
 obtain⟨t',rfl⟩:=ry
 obtain⟨j,h1,h2,h3,h4,h5⟩:=zkB he
 have hl:z.cps.toList.length=z.length:=by simp[Str.length]
 rw[hl] at h1 h4 h5
 have hn:=zif
 exact tail_any (typeIs_str s z t) slot_str_getitem.lookup (getItem_str (c:=c) (by
  have e1:decide (i < -(2 ^ 63:Int))=false:=decide_eq_false (by omega)
  have e2:decide (i≥2 ^ 63)=false:=decide_eq_false (by omega)
  rw[e1,e2,Bool.or_false]) (by rw[h1];simpa using h2) ⟨.str ⟨#[c]⟩,H,I.tok _,⟨_,rfl⟩,q⟩) hs
def rIx (K:Fg):R2:=λx y H Q=>rIxL K x y H Q\/rIxT K x y H Q\/rIxS x y H Q
theorem zrm:IxR X (rIx X.K):=zp1.or (zrk.or zrl)
theorem zlZ (its:List Value)(n j:Nat)(u:Value):Obj.mapSeq (·.setIfInBounds j u) {cls:=.type "list",data:=.seq its.toArray n}={cls:=.type "list",data:=.seq (its.set j u).toArray n}:=by
 simp[Obj.mapSeq]
theorem Inv.lst(I:Inv X pins σ H s)(h:H p=some (.lst xs)):
  ∃ (its:List Value) (n:Nat),Vals xs its/\s.heap.get? p=some {cls:=.type "list",data:=.seq its.toArray n}/\xs.length<=sizeLine:=by
 obtain⟨z,its,n,r,e⟩:=I.hok p _ h
 exact⟨its,n,r,e,z⟩
theorem Inv.lstUpd{n':Nat}{f:Obj->Obj}(I:Inv X pins σ H s)(h:H p=some (.lst xs))(ho:s.heap.get? p=some {cls:=.type "list",data:=.seq its.toArray n})(hf:f {cls:=.type "list",data:=.seq its.toArray n}={cls:=.type "list",data:=.seq its'.toArray n'})(r:Vals ys its')(hz:ys.length<=sizeLine)(t:Nat):
  Inv X pins σ (upd H p (.lst ys)) {s with heap:=s.heap.update p f,toks:=t}:=by
 have e:(s.heap.update p f).get? p=some {cls:=.type "list",data:=.seq its'.toArray n'}:=by
  rw[Heap.get?_update_self f ho (by rw[hf] <;> rfl),hf]
 refine I.write (x:=p) (e:=p) (by rw[h];trivial) (.inl rfl) (λb u hb q=>(Heap.get?_update_other _ _ (Ne.symm hb)).trans q) ⟨_,e⟩ ?_
 exact⟨hz,its',n',r,e⟩
def zrn:V->V->V->Hp->(Hp->Prop)->Prop:=λo i v H Q=>∃ p xs k j,o=.ref p/\i=.int k/\H p=some (.lst xs)/\ixN xs.length k=some j/\Q (upd H p (.lst (xs.set j v)))
theorem zgD:PSet X zrn:=by
 intro pins s σ H o i v ov iv u Q I ro ri rv h
 obtain⟨p,xs,k,j,rfl,rfl,hp,hj,q⟩:=h
 cases ro
 obtain⟨t,rfl⟩:=ri
 obtain⟨its,n,r,ho,hz⟩:=I.lst hp
 obtain⟨h1,h2,h3,h4⟩:=zmZ hj
 have hl:=r.length
 have hn:=zif
 have I':Inv X pins σ (upd H p (.lst (xs.set j v))) {s with heap:=s.heap.update p (Obj.mapSeq (·.setIfInBounds j u))}:=
  I.lstUpd hp ho (zlZ its n j u) (r.set rv j) (by rw[List.length_set];exact hz) s.toks
 by_cases h0:0<=k
 ·have hk:k.toNat=j:=by
   rw[seqIndex_of h0 h4] at h1
   exact Option.some.inj h1
  exact PySem.W.ki_setAt ho h0 (by omega) (by rw[zst,<-hl];exact h4) (by rw[hk];exact⟨_,I',q⟩)
 ·have hk:(k+(its.toArray.size:Int)).toNat=j:=by
   rw[seqIndex_neg (by omega) h3] at h1
   rw[zst,<-hl]
   exact Option.some.inj h1
  exact PySem.W.ki_setBack ho (by omega) (by rw[zst,<-hl];exact h3) (by omega) (by rw[hk];exact⟨_,I',q⟩)
theorem zjs (lo hi:Option Int)(n:Nat):(sliceBounds lo hi none n).1=((HT.sIx n 0 lo:Nat):Int)/\(sliceBounds lo hi none n).2.1=((HT.sIx n n hi:Nat):Int)/\(sliceBounds lo hi none n).2.2=1:=by
 refine⟨?_,?_,rfl⟩
 ·cases lo with
  | none=>simp[sliceBounds,HT.sIx]
  | some i=>
   simp only[sliceBounds,HT.sIx,Option.getD_none,show (1:Int)>0 by decide,if_true]
   by_cases h:i<0
   ·simp only[h,if_true] <;> omega
   ·simp only[h,if_false] <;> omega
 ·cases hi with
  | none=>simp[sliceBounds,HT.sIx]
  | some i=>
   simp only[sliceBounds,HT.sIx,Option.getD_none,show (1:Int)>0 by decide,if_true]
   by_cases h:i<0
   ·simp only[h,if_true] <;> omega
   ·simp only[h,if_false] <;> omega
theorem ziH (its:List Value)(lo hi:Option Int):slicePick its.toArray lo hi none=((its.drop (HT.sIx its.length 0 lo)).take (HT.sIx its.length its.length hi - HT.sIx its.length 0 lo)).toArray:=by
 obtain⟨h1,h2,h3⟩:=zjs lo hi its.toArray.size
 unfold slicePick
 rw[h1,h2,h3]
 simp only[sliceRange_one,pick_run,zst] <;> rfl
def rSlL (K:Fg):V->Option Int->Option Int->Hp->VK->Prop:=λx lo hi H Q=>∃ a xs,x=.ref a/\SqL K H a xs/\∀ p,H p=none->Q (.ref p) (upd H p (.lst (cutV xs lo hi)))
theorem zp2:SlR X (rSlL X.K):=by
 intro pins s σ H x v vl vu lo hi sl Q I rx hs pl pu h
 obtain⟨a,xs,rfl,hx,q⟩:=h
 cases rx
 obtain⟨its,r,ht,hz⟩:=I.list hx
 have hlen:=r.length
 refine⟨"list",_,slot_list_getitem.lookup,ht.isList.typeIs,?_⟩
 refine wpAny_getItem_list_slice ht.isList hs pl pu .none (by simp) ?_ (by rw[zst] <;> omega)
 rw[ziH,<-hlen]
 refine⟨.ref s.heap.objs.size,_,I.laid (t':=s.toks) (o:=.lst (cutV xs lo hi)) (λb ob q=>Heap.get?_push_of_some _ q) (Nat.le_refl _) ?_,rfl,q _ (I.hok.fresh (Nat.le_refl _))⟩
 exact⟨Nat.le_trans (zg1 xs lo hi) hz,_,0,(r.drop (HT.sIx xs.length 0 lo)).take (HT.sIx xs.length xs.length hi - HT.sIx xs.length 0 lo),Heap.get?_push_size _ rfl⟩
def zeJ:V->Bool
 | .non=>true
 | .bl _=>true
 | .int _=>true
 | .str _=>true
 | _=>false
def eqV:V->V->Bool
 | .non,.non=>true
 | .bl a,.bl b=>a == b
 | .bl a,.int b=>(if a then 1 else 0) == b
 | .int a,.bl b=>a == (if b then 1 else 0)
 | .int a,.int b=>a == b
 | .str a,.str b=>a == b
 | _,_=>false
theorem zpf(ry:RelV y u)(rx:RelV x v)(fy:zeJ y=true)(fx:zeJ x=true):SeqAt.EqAt A s u v (eqV y x):=by
 cases y with
 | non=>
  cases ry
  cases x with
  | non=>cases rx;exact SeqAt.EqAt.same _
  | bl b=>cases rx;exact SeqAt.EqAt.none_bool b
  | int b=>obtain⟨t,rfl⟩:=rx;exact SeqAt.EqAt.none_int b t
  | str b=>obtain⟨t,rfl⟩:=rx;exact SeqAt.EqAt.none_str b t
  | _=>exact absurd (show false=true from fx) Bool.false_ne_true
 | bl a=>
  cases ry
  cases x with
  | non=>cases rx;exact SeqAt.EqAt.bool_none a
  | bl b=>cases rx;exact SeqAt.EqAt.bool_bool a b
  | int b=>obtain⟨t,rfl⟩:=rx;exact SeqAt.EqAt.bool_int a b t
  | str b=>obtain⟨t,rfl⟩:=rx;exact SeqAt.EqAt.bool_str a b t
  | _=>exact absurd (show false=true from fx) Bool.false_ne_true
 | int a=>
  obtain⟨t',rfl⟩:=ry
  cases x with
  | non=>cases rx;exact SeqAt.EqAt.int_none a t'
  | bl b=>cases rx;exact SeqAt.EqAt.int_bool a t' b
  | int b=>obtain⟨t,rfl⟩:=rx;exact SeqAt.EqAt.int_int a t' b t
  | str b=>obtain⟨t,rfl⟩:=rx;exact SeqAt.EqAt.int_str a t' b t
  | _=>exact absurd (show false=true from fx) Bool.false_ne_true
 | str a=>
  obtain⟨t',rfl⟩:=ry
  cases x with
  | non=>cases rx;exact SeqAt.EqAt.str_none a t'
  | bl b=>cases rx;exact SeqAt.EqAt.str_bool a t' b
  | int b=>obtain⟨t,rfl⟩:=rx;exact SeqAt.EqAt.str_int a t' b t
  | str b=>obtain⟨t,rfl⟩:=rx;exact SeqAt.EqAt.str_str a t' b t
  | _=>exact absurd (show false=true from fx) Bool.false_ne_true
 | _=>exact absurd (show false=true from fy) Bool.false_ne_true
def eqU (x:V)(u:Value):Bool:=match u with
 | .none=>eqV .non x
 | .bool b=>eqV (.bl b) x
 | .int i _=>eqV (.int i) x
 | .str z _=>eqV (.str z) x
 | _=>false
theorem zpg(r:RelV y u)(f:zeJ y=true):eqU x u=eqV y x:=by
 cases y with
 | non=>cases r;rfl
 | bl b=>cases r;rfl
 | int i=>obtain⟨t,rfl⟩:=r;rfl
 | str z=>obtain⟨t,rfl⟩:=r;rfl
 | _=>exact absurd (show false=true from f) Bool.false_ne_true
theorem zkC: ∀ {xs:List V}{us:List Value},Vals xs us->xs.all zeJ=true->us.any (eqU x)=xs.any λy=>eqV y x
 | _,_,.nil,_=>rfl
 | y::xs,u::us,.cons r t,f=>by
  rw[List.all_cons,Bool.and_eq_true] at f
  rw[List.any_cons,List.any_cons,zpg r f.1,zkC t f.2]
theorem ziI(rx:RelV x v)(fx:zeJ x=true):∀ {xs:List V}{us:List Value},Vals xs us->xs.all zeJ=true->∀ u∈us,SeqAt.EqAt A s u v (eqU x u)
 | _,_,.nil,_=>λu hu=>by cases hu
 | y::xs,u::us,.cons r t,f=>λu' hu=>by
  rw[List.all_cons,Bool.and_eq_true] at f
  rcases List.mem_cons.mp hu with rfl | hu
  ·rw[zpg r f.1];exact zpf r rx f.1 fx
  ·exact ziI rx fx t f.2 u' hu
def inV (x:V)(xs:List V):Bool:=xs.any λy=>eqV y x
def rIn (K:Fg)(neg:Bool):R2:=λx y H Q=>∃ p xs,y=.ref p/\(SqL K H p xs\/SqT K H p xs)/\zeJ x=true/\xs.all zeJ=true/\Q (.bl (if neg then !inV x xs else inV x xs)) H
theorem zm0:OpR X (compareOp .In) (rIn X.K false):=by
 intro pins s σ H x y v u Q I rx ry h
 obtain⟨p,xs,rfl,hq,fx,fs,q⟩:=h
 cases ry
 rcases hq with hq | hq
 ·obtain⟨its,r,pl,hz⟩:=I.list hq
  refine SeqAt.in_listAt (eqU x) pl.isList (λw hw=>ziI rx fx r fs w (by simpa using hw)) ⟨.bl _,H,I,rfl,?_⟩
  rw[show its.toArray.any (eqU x)=its.any (eqU x) by simp,zkC r fs]
  exact q
 ·obtain⟨its,r,pl,hz⟩:=I.tuple hq
  refine SeqAt.in_tupleAt (eqU x) pl (λw hw=>ziI rx fx r fs w (by simpa using hw)) ⟨.bl _,H,I,rfl,?_⟩
  rw[show its.toArray.any (eqU x)=its.any (eqU x) by simp,zkC r fs]
  exact q
theorem zjt:zb3 X (.builtin "len") (λxs H Q=>∃ p ys,xs=[.ref p]/\(SqL X.K H p ys\/SqT X.K H p ys)/\Q (.int ys.length) H):=by
 intro pins s σ H xs us Q I r h
 obtain⟨p,ys,rfl,hq,q⟩:=h
 obtain⟨u,rfl,rx⟩:=zhM r
 cases rx
 have hn:=zif
 rcases hq with hq | hq
 ·obtain⟨its,r',pl,hz⟩:=I.list hq
  have hlen:=r'.length
  exact Calls.call_len_list pl.isList (by simp only[zst] <;> omega) ⟨.int ys.length,H,I.tok _,⟨s.toks+1,by rw[zst,hlen]⟩,q⟩
 ·obtain⟨its,r',pl,hz⟩:=I.tuple hq
  have hlen:=r'.length
  exact len_tuple pl (by simp only[zst] <;> omega) ⟨.int ys.length,H,I.tok _,⟨s.toks+1,by rw[zst,hlen]⟩,q⟩
theorem zju:zb3 X (.type "list") (λxs H Q=>∃ p ys,xs=[.ref p]/\(SqL X.K H p ys\/SqT X.K H p ys)/\∀ l,H l=none->Q (.ref l) (upd H l (.lst ys))):=by
 intro pins s σ H xs us Q I r h
 obtain⟨p,ys,rfl,hq,q⟩:=h
 obtain⟨u,rfl,rx⟩:=zhM r
 cases rx
 have fin:∀ (its:List Value),Vals ys its->ys.length<=sizeLine->∀ (h':Heap) (c':Nat),(∀ b o',s.heap.get? b=some o'->h'.get? b=some o')->
   h'.get? s.heap.objs.size=some {cls:=.type "list",dict:=none,data:=.seq its.toArray c',slots:=#[]}->EP X pins σ Q (.ref s.heap.objs.size) {s with heap:=h'}:=λits r' hz h' c' kp e=>
  ⟨.ref s.heap.objs.size,_,I.laid (t':=s.toks) kp (Nat.le_refl _) (show zbU X.prog X.w _ h' _ (.lst ys) from ⟨hz,its,c',r',e⟩),rfl,q _ (I.hok.fresh (Nat.le_refl _))⟩
 rcases hq with hq | hq
 ·obtain⟨its,r',pl,hz⟩:=I.list hq
  have hlen:=r'.length
  obtain⟨o,ho,hc,n,hd⟩:=pl.isList
  exact call_list_seq p (.inl rfl) ho hc hd (λh' c' kp e=>fin its r' hz h' c' kp e) (by simp only[zst] <;> omega)
 ·obtain⟨its,r',pl,hz⟩:=I.tuple hq
  have hlen:=r'.length
  obtain⟨o,ho,hc,n,hd⟩:=pl
  exact call_list_seq p (.inr rfl) ho hc hd (λh' c' kp e=>fin its r' hz h' c' kp e) (by simp only[zst] <;> omega)
theorem ziJ:zb3 X (.type "tuple") (λxs H Q=>∃ p ys,xs=[.ref p]/\((SqL X.K H p ys/\∀ l,H l=none->Q (.ref l) (upd H l (.tup ys)))\/(SqT X.K H p ys/\Q (.ref p) H))):=by
 intro pins s σ H xs us Q I r h
 obtain⟨p,ys,rfl,h⟩:=h
 obtain⟨u,rfl,rx⟩:=zhM r
 cases rx
 rcases h with ⟨hq,q⟩ | ⟨hq,q⟩
 ·obtain⟨its,r',pl,hz⟩:=I.list hq
  have hlen:=r'.length
  refine call_tuple_list pl.isList (λh' kp=>?_) (by simp only[zst] <;> omega)
  have I1:Inv X pins σ H {s with heap:=h'}:=I.kept (t':=s.toks) kp
  have I2:Inv X pins σ (upd H h'.objs.size (.tup ys)) {s with heap:=h'.push {cls:=.type "tuple",data:=.seq its.toArray}}:=
   I1.laid (t':=s.toks) (λb o e=>Heap.get?_push_of_some _ e) (Nat.le_refl _) (show zbU X.prog X.w _ _ _ (.tup ys) from ⟨hz,its,r',IsTup.new _ _⟩)
  exact⟨.ref h'.objs.size,_,I2,rfl,q _ (I1.hok.fresh (Nat.le_refl _))⟩
 ·obtain⟨its,r',pl,hz⟩:=I.tuple hq
  exact call_tuple_same pl ⟨.ref p,H,I,rfl,q⟩
def tyV (K:Fg)(T:String)(x:V)(H:Hp):Prop:=match x with
 | .str _=>T ="str"
 | .int _=>T ="int"
 | .ref p=>(T ="list" /\∃ xs,SqL K H p xs)\/(T ="tuple" /\∃ o,K.lookup p=some o/\o.cls=.type "tuple" /\o.dict=none)\/
   (T ="dict" /\((∃ kvs,H p=some (.dK kvs))\/∃ kvs,H p=some (.dT kvs)))\/(T ="set" /\∃ S n,H p=some (.set S n))
 | _=>False
theorem zph(I:Inv X pins σ H s)(r:RelV x v)(ty:tyV X.K T x H):
  s.TypeIs v T/\∀ a,v=.ref a->∃ ob,s.heap.get? a=some ob/\ob.dict=none:=by
 cases x with
 | str z=>
  obtain⟨t,rfl⟩:=r
  cases (show T ="str" from ty)
  exact⟨typeIs_str s z t,λ_ e=>nomatch e⟩
 | int i=>
  obtain⟨t,rfl⟩:=r
  cases (show T ="int" from ty)
  exact⟨typeIs_int s i t,λ_ e=>nomatch e⟩
 | ref p=>
  cases r
  rcases ty with ⟨rfl,xs,hq⟩ | ⟨rfl,o,hk,hc,hd⟩ | ⟨rfl,hk⟩ | ⟨rfl,S,n,hk⟩
  ·obtain⟨its,_,pl,_⟩:=I.list hq
   refine⟨pl.isList.typeIs,λa e=>?_⟩
   cases e
   obtain⟨o,n,e,c,hd,_⟩:=pl
   exact⟨o,e,hd⟩
  ·refine⟨⟨o,I.kIn p o hk,hc⟩,λa e=>?_⟩
   cases e
   exact⟨o,I.kIn _ o hk,hd⟩
  ·have z:∃ o,s.heap.get? p=some o/\o.ExactDict:=by
    rcases hk with ⟨kvs,hk⟩ | ⟨kvs,hk⟩
    ·obtain⟨_,_,_,_,o,_,_,e,ex,_⟩:=I.hok p _ hk
     exact⟨o,e,ex⟩
    ·obtain⟨_,_,_,_,o,_,_,e,ex,_⟩:=I.hok p _ hk
     exact⟨o,e,ex⟩
   obtain⟨o,e,ex⟩:=z
   refine⟨⟨o,e,ex.1⟩,λa e2=>?_⟩
   cases e2
   exact⟨o,e,ex.2.1⟩
  ·obtain⟨o,_,_,_,e,ex,_⟩:=I.hok p _ hk
   refine⟨⟨o,e,ex.1⟩,λa e2=>?_⟩
   cases e2
   exact⟨o,e,ex.2.1⟩
 | _=>exact False.elim ty
def tBM0 (K:Fg)(T:String)(r:V->List V->Hp->VK->Prop)(to:TE):TE:=λσ H Q=>to σ H λx H1=>tyV K T x H1/\r x [] H1 Q
def tBM (K:Fg)(T:String)(r:V->List V->Hp->VK->Prop)(to:TE)(t:TA):TE:=λσ H Q=>to σ H λx H1=>tyV K T x H1/\t σ H1 λxs H2=>r x xs H2 Q
variable {o:Expr}{es:List Expr}{to:TE}{t:TA}{name:Str}{r:V->List V->Hp->VK->Prop}
theorem zpi (pa:PlainAttrs T)(slot:Slot T name id)(hty:typeOf (.builtin id)=pure (.type "method_descriptor"))(hm:MtR X id r)(ho:PE X o to)
  (hbase:attributeBase o name X.env (eval o X.env)=eval o X.env:=by rfl) (hline:(apos.endLine == cpos.line)=true:=by rfl):PE X (.Call (.Attribute o name apos) [] [] cpos) (tBM0 X.K T r to):=by
 intro pins s σ H Q I h
 refine wpAny_Call_method0_late hbase hline (thn (ho pins s σ H _ I h) λv s1 ⟨x,H1,I1,r1,ty,q1⟩=>?_)
 obtain⟨h1,h2⟩:=zph I1 r1 ty
 exact⟨T,id,pa,slot,hty,h1,h2,Calls.callWith_builtin rfl (PySem.evalArgs_none (hm pins s1 σ H1 x [] v [] Q I1 r1 .nil q1))⟩
theorem zl0 (pa:PlainAttrs T)(slot:Slot T name id)(hty:typeOf (.builtin id)=pure (.type "method_descriptor"))(hm:MtR X id r)(ho:PE X o to)(ha:PA X (e::es) t)
  (hbase:attributeBase o name X.env (eval o X.env)=eval o X.env:=by rfl)
  (hfew:((backTo cpos (starEach (e::es) X.env)).all (λx=>!x.1) && (backToKw cpos (keywordEach [] X.env)).all (λx=>x.1.isSome)
   && decide ((e::es).length+([]:List Keyword).length+(if ([]:List Keyword).isEmpty then 0 else 1)<30))=true:=by rfl)
  (hline:(apos.endLine == cpos.line)=true:=by rfl) (hs:starEach (e::es) X.env=(false,eval e X.env)::starEach es X.env:=by rfl) (hplain:(backTo cpos (starEach es X.env)).any (·.1)=false:=by rfl) :
  PE X (.Call (.Attribute o name apos) (e::es) [] cpos) (tBM X.K T r to t):=by
 intro pins s σ H Q I h
 refine wpAny_Call_method_late hbase hfew hline rfl (thn (ho pins s σ H _ I h) λv s1 ⟨x,H1,I1,r1,ty,q1⟩=>?_)
 obtain⟨h1,h2⟩:=zph I1 r1 ty
 refine⟨T,id,pa,slot,hty,h1,h2,?_⟩
 have hA:=ha cpos pins s1 σ H1 _ I1 q1
 rw[hs] at hA ⊢
 refine Calls.callWith_builtin (by show (false || (backTo cpos (starEach es X.env)).any (·.1))=false;rw[hplain] <;> rfl) (Calls.evalArgs_plain ?_)
 exact thn hA λus s2 ⟨vs,H2,I2,r2,q2⟩=>hm pins s2 σ H2 x vs v us Q I2 r1 r2 q2
/- xs.append(e),list.index on a module's tuple .. are MtR facts of 06m -/
end

def MtM (X:Cx)(id:String)(r:V->List V->Hp->VK->Prop):Prop:=
 ∀ (pins:List (Addr × Obj)) (s:Shared) (σ:St) (H:Hp) (x:V) (xs:List V) (v:Value) (us:List Value) (Q:VK),Inv X pins σ H s->RelV x v->Vals xs us->r x xs H Q->
  wpAny (model X.prog X.w) X.A (call (.builtin id) (v::us)) (EP X pins σ Q) X.xe s
theorem Vals.one:∀ {x:V}{us:List Value},Vals [x] us->∃ u,us=[u]/\RelV x u
 | _,_,.cons r .nil=>⟨_,rfl,r⟩
theorem Vals.two:∀ {x y:V}{us:List Value},Vals [x,y] us->∃ u v,us=[u,v]/\RelV x u/\RelV y v
 | _,_,_,.cons r (.cons q .nil)=>⟨_,_,rfl,r,q⟩
theorem Vals.zero:∀ {us:List Value},Vals [] us->us=[]
 | _,.nil=>rfl
theorem Vals.dropLast(h:Vals xs us):Vals xs.dropLast us.dropLast:=by
 induction h with
 | nil=>exact .nil
 | cons r t ih=>
  cases t with
  | nil=>exact .nil
  | cons q t'=>exact .cons r ih
theorem Vals.eraseIdx:∀ {xs:List V}{us:List Value}(i:Nat),Vals xs us->Vals (xs.eraseIdx i) (us.eraseIdx i)
 | _,_,_,.nil=>.nil
 | _,_,0,.cons _ t=>t
 | _,_,i+1,.cons r t=>.cons r (Vals.eraseIdx i t)
theorem Vals.rep(h:Vals xs us):∀ k:Nat,Vals (List.replicate k xs).flatten (List.replicate k us).flatten
 | 0=>.nil
 | k+1=>by
  rw[List.replicate_succ,List.replicate_succ,List.flatten_cons,List.flatten_cons]
  exact Vals.append h (Vals.rep h k)
theorem zl1(l:List α):l.eraseIdx (l.length - 1)=l.dropLast:=by
 induction l with
 | nil=>rfl
 | cons a r ih=>
  cases r with
  | nil=>rfl
  | cons b r=>
   have e:(a::b::r).length - 1=((b::r).length - 1)+1:=by
    have h1:(a::b::r).length=r.length+2:=rfl
    have h2:(b::r).length=r.length+1:=rfl
    omega
   rw[e,List.eraseIdx_cons_succ,ih]
   all_goals rfl
theorem zjv: ∀ (l:List α) (i:Nat),(l.eraseIdx i).length<=l.length
 | [],_=>Nat.le_refl _
 | _::_,0=>Nat.le_succ _
 | _::r,i+1=>Nat.succ_le_succ (zjv r i)
theorem zjw (its:List Value):∀ (k:Nat) (acc:List Value),
  List.foldl (λx1 x2=>x1++x2) acc.toArray (List.replicate k its.toArray)=(acc++(List.replicate k its).flatten).toArray
 | 0,acc=>by simp
 | k+1,acc=>by
  have e:acc.toArray++its.toArray=(acc++its).toArray:=by simp
  have e2:(acc++its)++(List.replicate k its).flatten=acc++(List.replicate (k+1) its).flatten:=by
   rw[List.replicate_succ,List.flatten_cons,List.append_assoc]
  rw[<-e2,<-zjw its k (acc++its),<-e,List.replicate_succ,List.foldl_cons]
variable {t':Nat}{b:Addr}
section
variable {l:Addr}{zs:List V}

theorem Inv.lset{f:Array Value->Array Value}(I:Inv X pins σ H s)(hH:H l=some (.lst xs))(e:s.heap.get? l=some {cls:=.type "list",data:=.seq its.toArray n})(hf:f its.toArray=its'.toArray)(hv:Vals ys its')(hz:ys.length<=sizeLine):
  Inv X pins σ (upd H l (.lst ys)) {s with heap:=s.heap.update l (Obj.mapSeq f),toks:=t'}:=by
 have q:=PySem.IsL.update e f
 rw[hf] at q
 refine I.write (x:=l) (e:=l) (by rw[hH];exact trivial) (.inl rfl) (λb' u hb hu=>(Heap.get?_update_other s.heap (Obj.mapSeq f) (Ne.symm hb)).trans hu) ⟨_,q⟩ ?_
 exact⟨hz,its',_,hv,q⟩
theorem Inv.lnew(I:Inv X pins σ H s)(hv:Vals ys its)(hz:ys.length<=sizeLine):
  Inv X pins σ (upd H s.heap.objs.size (.lst ys)) {s with heap:=s.heap.push {cls:=.type "list",data:=.seq its.toArray},toks:=t'}:=
 I.laid (λ_ _ q=>Heap.get?_push_of_some _ q) (Nat.le_refl _) ⟨hz,its,0,hv,Heap.get?_push_size _ rfl⟩
theorem Inv.fresh (I:Inv X pins σ H s):H s.heap.objs.size=none:=I.hok.fresh (Nat.le_refl _)
theorem Inv.lstM (I:Inv X pins σ H s)(hH:H l=some (.lst xs)):xs.length<=sizeLine/\∃ (its:List Value) (n:Nat),Vals xs its/\xs.length=its.length/\s.heap.get? l=some {cls:=.type "list",data:=.seq its.toArray n}:=by
 obtain⟨z,its,n,r,e⟩:=I.hok l _ hH
 exact⟨z,its,n,r,r.length,e⟩
theorem zlf(h:n<=sizeLine):Builtin.List.listTooLong n=false:=by
 unfold Builtin.List.listTooLong
 exact decide_eq_false (by omega)
end

section

def zm1:V->List V->Hp->VK->Prop:=λx vs H Q=>∃ l xs y,x=.ref l/\vs=[y]/\H l=some (.lst xs)/\xs.length<sizeLine/\Q .non (upd H l (.lst (xs++[y])))
theorem zjx:MtM X "list.append" zm1:=by
 intro pins s σ H x vs v us Q I rx rv h
 obtain⟨l,xs,y,rfl,rfl,hH,hz,q⟩:=h
 cases rx
 obtain⟨u,rfl,ru⟩:=rv.one
 obtain⟨z,its,n,r,hl,e⟩:=I.lstM hH
 refine call_meets F.slot_list_append ⟨_,e,rfl⟩ F.entry_list_append (F.args_list_append_2 _ _) (PySem.list_append l its.toArray n u (by rw[zst];omega)) ⟨e,?_⟩
 refine⟨.non,_,I.lset (its':=its++[u]) hH e (by simp) (r.append (.cons ru .nil)) ?_,rfl,q⟩
 rw[List.length_append,List.length_singleton]
 omega
def zp3:V->List V->Hp->VK->Prop:=λx vs H Q=>∃ l b xs zs,x=.ref l/\vs=[.ref b]/\H l=some (.lst xs)/\H b=some (.lst zs)/\xs.length+zs.length<=sizeLine/\Q .non (upd H l (.lst (xs++zs)))
theorem zjy:MtM X "list.extend" zp3:=by
 intro pins s σ H x vs v us Q I rx rv h
 obtain⟨l,b,xs,zs,rfl,rfl,hH,hB,hz,q⟩:=h
 cases rx
 obtain⟨u,rfl,ru⟩:=rv.one
 cases ru
 obtain⟨z,its,n,r,hl,e⟩:=I.lstM hH
 obtain⟨z2,its2,n2,r2,hl2,e2⟩:=I.lstM hB
 have hsz:its.toArray.size+its2.toArray.size<=sizeLine:=by rw[zst,zst];omega
 have hlong:¬ (!its.toArray.isEmpty && Builtin.List.listTooLong (its.toArray.size+its2.toArray.size))=true:=by
  rw[zlf hsz,Bool.and_false]
  exact Bool.false_ne_true
 refine call_meets F.slot_list_extend ⟨_,e,rfl⟩ F.entry_list_extend (F.args_list_extend_2 _ _)
  (AutoSeq1.list_extend_list_list_0 l its.toArray n b its2.toArray n2 hlong (by rw[zst];omega) (by omega)) ⟨e,e2,?_⟩
 refine⟨.non,_,I.lset (its':=its++its2) hH e (by simp) (r.append r2) ?_,rfl,q⟩
 rw[List.length_append]
 omega
def rPop:V->List V->Hp->VK->Prop:=λx vs H Q=>∃ l xs y,x=.ref l/\vs=[]/\H l=some (.lst xs)/\xs[xs.length - 1]?=some y/\Q y (upd H l (.lst xs.dropLast))
theorem zpj:MtM X "list.pop" rPop:=by
 intro pins s σ H x vs v us Q I rx rv h
 obtain⟨l,xs,y,rfl,rfl,hH,hy,q⟩:=h
 cases rx
 have hus:=rv.zero
 subst hus
 obtain⟨z,its,n,r,hl,e⟩:=I.lstM hH
 obtain⟨u,hu,ru⟩:=r.get hy
 have hy':its.toArray[its.toArray.size - 1]?=some u:=by
  show its.toArray[its.length - 1]?=some u
  rw[<-Array.getElem?_toList,<-hl]
  exact hu
 refine call_meets F.slot_list_pop ⟨_,e,rfl⟩ F.entry_list_pop (F.args_list_pop_1 _) (MeetsSeq.list_pop_last l its.toArray n u hy' (by rw[zst];omega)) ⟨e,?_⟩
 refine⟨y,_,I.lset (its':=its.dropLast) hH e ?_ r.dropLast ?_,ru,q⟩
 ·show its.toArray.eraseIdxIfInBounds (its.toArray.size - 1)=its.dropLast.toArray
  rw[zst,List.eraseIdxIfInBounds_toArray,zl1]
 ·rw[List.length_dropLast]
  omega
def zpk:V->List V->Hp->VK->Prop:=λx vs H Q=>∃ l xs i k y,x=.ref l/\vs=[.int i]/\H l=some (.lst xs)/\-(2 ^ 63)<=i/\i<2 ^ 63/\seqIndex? i xs.length=some k/\xs[k]?=some y/\Q y (upd H l (.lst (xs.eraseIdx k)))
theorem zoi:MtM X "list.pop" zpk:=by
 intro pins s σ H x vs v us Q I rx rv h
 obtain⟨l,xs,i,k,y,rfl,rfl,hH,h1,h2,hk,hy,q⟩:=h
 cases rx
 obtain⟨u,rfl,ru⟩:=rv.one
 obtain⟨t,rfl⟩:=ru
 obtain⟨z,its,n,r,hl,e⟩:=I.lstM hH
 obtain⟨w,hw,rw'⟩:=r.get hy
 refine call_meets F.slot_list_pop ⟨_,e,rfl⟩ F.entry_list_pop (F.args_list_pop_2 _ _)
  (MeetsSeq.list_pop_at l its.toArray n i t k w (fitsIndex_both h1 h2) (by rw[zst,<-hl];exact hk) (by rw[<-Array.getElem?_toList];exact hw) (by rw[zst];omega)) ⟨e,?_⟩
 refine⟨y,_,I.lset (its':=its.eraseIdx k) hH e ?_ (r.eraseIdx k) ?_,rw',q⟩
 ·show its.toArray.eraseIdxIfInBounds k=(its.eraseIdx k).toArray
  rw[List.eraseIdxIfInBounds_toArray]
 ·have:=zjv xs k
  omega
def rCat:R2:=λx y H Q=>∃ l b xs zs,x=.ref l/\y=.ref b/\H l=some (.lst xs)/\H b=some (.lst zs)/\xs.length+zs.length<=sizeLine/\∀ p,H p=none->Q (.ref p) (upd H p (.lst (xs++zs)))
theorem zro:OpR X (binaryOp .Add) rCat:=by
 intro pins s σ H x y v u Q I rx ry h
 obtain⟨l,b,xs,zs,rfl,rfl,hH,hB,hz,q⟩:=h
 cases rx
 cases ry
 obtain⟨z,its,n,r,hl,e⟩:=I.lstM hH
 obtain⟨z2,its2,n2,r2,hl2,e2⟩:=I.lstM hB
 refine PySem.P.add_list e e2 ?_ (by rw[zst,zst];omega)
 have ea:its.toArray++its2.toArray=(its++its2).toArray:=by simp
 rw[ea]
 exact⟨.ref _,_,I.lnew (t':=s.toks) (r.append r2) (by rw[List.length_append];omega),rfl,q _ I.fresh⟩
def rRep:R2:=λx y H Q=>∃ l k xs,x=.ref l/\y=.int k/\H l=some (.lst xs)/\-(2 ^ 63)<=k/\k<2 ^ 63/\xs.length * k.toNat<=sizeLine/\
 ∀ p,H p=none->Q (.ref p) (upd H p (.lst (List.replicate k.toNat xs).flatten))
theorem zp4(xs:List α)(k:Nat):(List.replicate k xs).flatten.length=k * xs.length:=by
 induction k with
 | zero=>simp
 | succ k ih=>rw[List.replicate_succ,List.flatten_cons,List.length_append,ih,Nat.succ_mul,Nat.add_comm]
theorem zrp:OpR X (binaryOp .Mult) rRep:=by
 intro pins s σ H x y v u Q I rx ry h
 obtain⟨l,k,xs,rfl,rfl,hH,h1,h2,hz,q⟩:=h
 cases rx
 obtain⟨t,rfl⟩:=ry
 obtain⟨z,its,n,r,hl,e⟩:=I.lstM hH
 have hlen:its.toArray.size * k.toNat<=sizeLine:=by rw[zst,<-hl];exact hz
 have hcap:¬ its.toArray.size * k.toNat>(2 ^ 63 - 1) / 8:=by
  have:(sizeLine:Nat)<=(2 ^ 63 - 1) / 8:=by decide
  omega
 have hfit:¬ (!Builtin.List.listFitsIndex k)=true:=by
  rw[fitsIndex_both h1 h2]
  exact Bool.false_ne_true
 have hlong:¬ Builtin.List.listTooLong (its.toArray.size * k.toNat)=true:=by
  rw[zlf hlen]
  exact Bool.false_ne_true
 have hnew:List.foldl (λx1 x2=>x1++x2) #[] (List.replicate (if its.toArray.isEmpty=true then 0 else k.toNat) its.toArray)=(List.replicate k.toNat its).flatten.toArray:=by
  have f0:∀ m:Nat,List.foldl (λx1 x2=>x1++x2) #[] (List.replicate m its.toArray)=(List.replicate m its).flatten.toArray:=λm=>by
   have:=zjw its m []
   rw[List.nil_append] at this
   exact this
  rw[f0]
  cases its with
  | nil=>simp
  | cons a r'=>rw[if_neg (by simp)]
 refine wpAny_binaryOp_repeat_ref (T:="list") (U:="int") (by decide) ⟨_,e,rfl⟩ (λs'=>typeIs_int s' k t) noFill_list_mul F.fills_int_mul F.slot_int_rmul repeat_list F.slot_int_index.lookup
  (call_meets F.slot_int_rmul (typeIs_int s k t) F.entry_int_rmul (F.args_int_rmul_2 _ _) (int___rmul___int_list k t l its.toArray n)
   ⟨e,rfl,⟨_,e,rfl⟩,call_meets F.slot_list_mul ⟨_,e,rfl⟩ F.entry_list_mul (F.args_list_mul_2 _ _) (AutoListH.list___mul___list_int_3 l its.toArray n k t hfit hcap hlong) ⟨e,?_⟩⟩)
 rw[hnew]
 exact⟨.ref _,_,I.lnew (t':=s.toks) (r.rep k.toNat) (by rw[zp4,Nat.mul_comm];exact hz),rfl,q _ I.fresh⟩
end

variable {w:World}{prog:Program}{E:Value->Shared->Prop}
section
set_option maxRecDepth 100000 in
end

section
end

variable {o:Option V}
section
variable {κ:Type} [DecidableEq κ]
def valV (kvs:List (κ × V))(k:κ):Option V:=(kvs.find? λkv=>decide (kv.1=k)).map (·.2)
def putK (kvs:List (κ × V))(k:κ)(v:V):List (κ × V):=
 if (kvs.any λkv=>decide (kv.1=k))=true then kvs.map (λkv=>if kv.1=k then (kv.1,v) else kv) else kvs++[(k,v)]
def zd7 (kvs:List (κ × V))(k:κ):List (κ × V):=kvs.filter λkv=>decide (kv.1≠k)
theorem zbN {p:κ × V}{r:List (κ × V)}{k:κ}(e:p.1=k):valV (p::r) k=some p.2:=by simp[valV,List.find?_cons,e]
theorem zbH {p:κ × V}{r:List (κ × V)}{k:κ}(e:¬ p.1=k):valV (p::r) k=valV r k:=by simp[valV,List.find?_cons,e]
theorem zc6 (k:κ):∀ kvs:List (κ × V),(kvs.any λkv=>decide (kv.1=k))=(valV kvs k).isSome
 | []=>rfl
 | p::r=>by
  rw[List.any_cons]
  by_cases e:p.1=k
  ·simp only[zbN e,decide_eq_true e,Bool.true_or,Option.isSome_some]
  ·rw[zbH e,decide_eq_false e,Bool.false_or];exact zc6 k r
theorem zlg (k j:κ)(y:V):∀ kvs:List (κ × V),valV (kvs.map λkv=>if kv.1=k then (kv.1,y) else kv) j=(valV kvs j).map λx=>if j=k then y else x
 | []=>rfl
 | p::r=>by
  have ih:=zlg k j y r
  rw[zmc]
  by_cases h:p.1=k
  ·rw[if_pos h]
   by_cases e:p.1=j
   ·rw[zbN (p:=(p.1,y)) e,zbN e,Option.map_some,if_pos (e.symm.trans h)]
   ·rw[zbH (p:=(p.1,y)) e,zbH e,ih]
  ·rw[if_neg h]
   by_cases e:p.1=j
   ·rw[zbN (p:=p) e,zbN e,Option.map_some,if_neg (λz=>h (e.trans z))]
   ·rw[zbH (p:=p) e,zbH e,ih]
theorem zjz (k j:κ)(y:V):∀ kvs:List (κ × V),valV kvs k=none->valV (kvs++[(k,y)]) j=if j=k then some y else valV kvs j
 | [],_=>by
  by_cases e:k=j
  ·rw[if_pos e.symm];exact zbN (p:=(k,y)) e
  ·rw[if_neg (λz=>e z.symm)];exact zbH (p:=(k,y)) e
 | p::r,hn=>by
  rw[List.cons_append]
  have hk:¬ p.1=k:=λz=>by rw[zbN z] at hn;cases hn
  rw[zbH hk] at hn
  have ih:=zjz k j y r hn
  by_cases e:p.1=j
  ·rw[zbN e,zbN e,if_neg (λz=>hk (e.trans z))]
  ·rw[zbH e,zbH e,ih]
theorem zeF (kvs:List (κ × V))(k j:κ)(y:V):valV (putK kvs k y) j=if j=k then some y else valV kvs j:=by
 unfold putK
 by_cases a:(kvs.any λkv=>decide (kv.1=k))=true
 ·rw[if_pos a,zlg]
  rw[zc6] at a
  by_cases e:j=k
  ·obtain⟨x,hx⟩:=Option.isSome_iff_exists.mp a
   rw[if_pos e,e,hx,Option.map_some,if_pos rfl]
  ·rw[if_neg e]
   cases valV kvs j with
   | none=>rfl
   | some x=>rw[Option.map_some,if_neg e]
 ·rw[if_neg a]
  refine zjz k j y kvs ?_
  rw[zc6] at a
  cases q:valV kvs k with
  | none=>rfl
  | some x=>rw[q] at a;exact (a rfl).elim
theorem ze4 (kvs:List (κ × V))(k:κ)(v:V):(putK kvs k v).length<=kvs.length+1:=by
 unfold putK
 split
 ·rw[zlm];omega
 ·rw[List.length_append,List.length_cons,List.length_nil];omega
theorem zoj {kvs:List (κ × V)}{k:κ}(v:V)(h:valV kvs k=none):putK kvs k v=kvs++[(k,v)]:=by
 unfold putK
 rw[zc6,h]
 exact if_neg (by decide)
variable {u:Option Value}
theorem RelO.isSome_eq(r:RelO o u):o.isSome=u.isSome:=by
 cases o with
 | none=>cases u with
  | none=>rfl
  | some _=>exact (show False from r).elim
 | some _=>cases u with
  | none=>exact (show False from r).elim
  | some _=>rfl
theorem RelO.getD{d:V}{d':Value}(r:RelO o u)(rd:RelV d d'):RelV (o.getD d) (u.getD d'):=by
 cases o with
 | none=>cases u with
  | none=>exact rd
  | some _=>exact (show False from r).elim
 | some _=>cases u with
  | none=>exact (show False from r).elim
  | some _=>exact r
theorem KV.val {kvs:List (κ × V)}{vs:List (κ × Value)}(r:KV kvs vs)(k:κ):RelO (valV kvs k) (valueAt vs k):=by
 unfold KV at r
 induction r with
 | nil=>exact True.intro
 | @cons p q ps qs h t ih=>
  obtain⟨h1,h2⟩:=h
  by_cases e:p.1=k
  ·have e':q.1=k:=h1.symm.trans e
   have b:valueAt (q::qs) k=some q.2:=by simp[valueAt,List.find?_cons,e']
   rw[zbN e,b];exact h2
  ·have e':¬ q.1=k:=λz=>e (h1.trans z)
   have b:valueAt (q::qs) k=valueAt qs k:=by simp[valueAt,List.find?_cons,e']
   rw[zbH e,b];exact ih
theorem KV.any {kvs:List (κ × V)}{vs:List (κ × Value)}(r:KV kvs vs)(k:κ):(kvs.any λkv=>decide (kv.1=k))=vs.any λkv=>decide (kv.1=k):=by
 unfold KV at r
 induction r with
 | nil=>rfl
 | cons h t ih=>rw[List.any_cons,List.any_cons,ih,h.1]
theorem KV.repl{kvs:List (κ × V)}{vs:List (κ × Value)}(r:KV kvs vs)(k:κ){u:Value}(ry:RelV y u):
  KV (kvs.map λkv=>if kv.1=k then (kv.1,y) else kv) (vs.map λkv=>if kv.1=k then (kv.1,u) else kv):=by
 unfold KV at r ⊢
 induction r with
 | nil=>exact .nil
 | @cons p q ps qs h t ih=>
  rw[zmc,zmc]
  refine .cons ?_ ih
  obtain⟨h1,h2⟩:=h
  by_cases e:p.1=k
  ·rw[if_pos e,if_pos (h1.symm.trans e)];exact⟨h1,ry⟩
  ·rw[if_neg e,if_neg (λz=>e (h1.trans z))];exact⟨h1,h2⟩
theorem KV.put{kvs:List (κ × V)}{vs:List (κ × Value)}(r:KV kvs vs)(k:κ){u:Value}(ry:RelV y u):KV (putK kvs k y) (stored vs k u):=by
 unfold putK stored
 rw[r.any k]
 by_cases e:(vs.any λkv=>decide (kv.1=k))=true
 ·rw[if_pos e,if_pos e];exact r.repl k ry
 ·rw[if_neg e,if_neg e];exact Paired.snoc r ⟨rfl,ry⟩
theorem KV.drop {kvs:List (κ × V)}{vs:List (κ × Value)}(r:KV kvs vs)(k:κ):KV (zd7 kvs k) (without vs k):=by
 unfold KV at r ⊢
 unfold zd7 without
 induction r with
 | nil=>exact .nil
 | @cons p q ps qs h t ih=>
  obtain⟨h1,h2⟩:=h
  rw[List.filter_cons,List.filter_cons]
  by_cases e:p.1=k
  ·have a:¬ decide (p.1≠k)=true:=by simp[e]
   have b:¬ decide (q.1≠k)=true:=by simp[h1.symm.trans e]
   rw[if_neg a,if_neg b];exact ih
  ·have e':¬ q.1=k:=λz=>e (h1.trans z)
   have a:decide (p.1≠k)=true:=by simp[e]
   have b:decide (q.1≠k)=true:=by simp[e']
   rw[if_pos a,if_pos b];exact .cons ⟨h1,h2⟩ ih
theorem KV.keys {kvs:List (κ × V)}{vs:List (κ × Value)}(r:KV kvs vs):kvs.map (·.1)=vs.map (·.1):=by
 unfold KV at r
 induction r with
 | nil=>rfl
 | cons h t ih=>rw[zmc,zmc,ih,h.1]
theorem KV.length {kvs:List (κ × V)}{vs:List (κ × Value)}(r:KV kvs vs):kvs.length=vs.length:=Paired.length r
theorem zlh (kvs:List (κ × V))(k:κ):(zd7 kvs k).length<=kvs.length:=List.length_filter_le _ _
end


variable {P:Program}
theorem zhN{k:Key}(r:RelV (kV k) u):(zbh P w).is k u=true:=by
 cases k with
 | inl i=>obtain⟨t,e⟩:=(show ∃ t,u=Value.int i t from r);subst e;exact zkv P w i t
 | inr x=>obtain⟨t,e⟩:=(show ∃ t,u=Value.str x t from r);subst e;exact zkw P w x t
theorem zjA: ∀ {ks:List Key}{us:List Value},Vals (ks.map kV) us->ItemsAre (zbh P w) ks us
 | [],_,r=>by rw[List.map_nil] at r;cases r;exact .nil
 | k::ks,_,r=>by
  rw[zmc] at r
  cases r with
  | cons h t=>exact .cons (zhN h) (zjA t)
abbrev KT (H:Hp):List (List Key × V)->List (List Key × Addr × Value)->Prop:=Paired λp q=>p.1=q.1/\H q.2.1=some (.tup (p.1.map kV))/\RelV p.2 q.2.2
variable {kvs:List (List Key × V)}
theorem KT.val{xs:List (List Key × Addr × Value)}(r:KT H kvs xs)(k:List Key):RelO (valV kvs k) ((atKey xs k).map (·.2)):=by
 induction r with
 | nil=>exact True.intro
 | @cons p q ps qs h t ih=>
  obtain⟨h1,_,h2⟩:=h
  by_cases e:p.1=k
  ·have e':q.1=k:=h1.symm.trans e
   have b:atKey (q::qs) k=some q.2:=by simp[atKey,List.find?_cons,e']
   rw[zbN e,b];exact h2
  ·have e':¬ q.1=k:=λz=>e (h1.trans z)
   have b:atKey (q::qs) k=atKey qs k:=by simp[atKey,List.find?_cons,e']
   rw[zbH e,b];exact ih
theorem KT.repl{xs:List (List Key × Addr × Value)}(r:KT H kvs xs)(k:List Key)(ry:RelV y u):
  KT H (kvs.map λkv=>if kv.1=k then (kv.1,y) else kv) (xs.map (putAt k u)):=by
 induction r with
 | nil=>exact .nil
 | @cons p q ps qs h t ih=>
  rw[zmc,zmc]
  refine .cons ?_ ih
  obtain⟨h1,h2,h3⟩:=h
  unfold putAt
  by_cases e:p.1=k
  ·rw[if_pos e,if_pos (h1.symm.trans e)];exact⟨h1,h2,ry⟩
  ·rw[if_neg e,if_neg (λz=>e (h1.trans z))];exact⟨h1,h2,h3⟩
theorem KT.put{xs:List (List Key × Addr × Value)}(r:KT H kvs xs)(k:List Key)(hb:H b=some (.tup (k.map kV)))(ry:RelV y u):
  KT H (putK kvs k y) (storedH xs k b u):=by
 have e:(kvs.any λkv=>decide (kv.1=k))=(atKey xs k).isSome:=by
  rw[zc6,(r.val k).isSome_eq,Option.isSome_map]
 unfold putK storedH
 rw[e]
 by_cases q:(atKey xs k).isSome=true
 ·rw[if_pos q,if_pos q];exact r.repl k ry
 ·rw[if_neg q,if_neg q];exact Paired.snoc r ⟨rfl,hb,ry⟩
variable {H':Hp}
theorem KT.keeps{xs:List (List Key × Addr × Value)}(r:KT H kvs xs)(ht:∀ b ys,H b=some (.tup ys)->H' b=some (.tup ys)):KT H' kvs xs:=
 Paired.mapP r λ_ _ z=>⟨z.1,ht _ _ z.2.1,z.2.2⟩
variable {kvs:List (Key × V)}{a:Addr}
section
variable {h:Heap}
theorem zrq {u:HO}(ok:HOk P w H h)(e:Rd H a u):zbU P w H h a u:=e.ok ok
theorem zkD(ok:HOk P w H h)(e:Rd H a (.dK kvs)):kvs.length<=sizeLine/\(a == sysModules)=false/\∃ vs,KV kvs vs/\h.DictOf (zbh P w) a vs:=
 show zbU P w H h a (.dK kvs) from zrq ok e
theorem zkE(ok:HOk P w H h)(e:H a=some (.dK kvs)):kvs.length<=sizeLine/\(a == sysModules)=false/\∃ vs,KV kvs vs/\h.DictOf (zbh P w) a vs:=zkD ok (.inl e)
theorem zih {ks:List Key}(ok:HOk P w H h)(e:H a=some (.tup (ks.map kV))):(tupleKind (zbh P w)).is h ks a:=by
 obtain⟨_,its,r,o,h1,h2,n,h3⟩:=(show zbU P w H h a (.tup (ks.map kV)) from ok a _ e)
 exact⟨o,its.toArray,n,h1,h2,h3,by simpa using zjA r⟩
variable {kvs:List (List Key × V)}
theorem zkF(ok:HOk P w H h)(e:Rd H a (.dT kvs)):kvs.length<=sizeLine/\(a == sysModules)=false/\
  ∃ xs,KT H kvs xs/\h.DictOfH (tupleKind (zbh P w)) a xs:=by
 obtain⟨z,y,xs,r,o,es,ep,h1,h2,h3,h4,h5⟩:=(show zbU P w H h a (.dT kvs) from zrq ok e)
 refine⟨z,y,xs,r,o,es,ep,h1,h2,h3,h4,λx hx=>?_,h5⟩
 have all:∀ {l:List (List Key × V)}{m:List (List Key × Addr × Value)},KT H l m->∀ x∈m,(tupleKind (zbh P w)).is h x.1 x.2.1:=by
  intro l m q
  induction q with
  | nil=>intro x hx;exact nomatch hx
  | @cons p q ps qs hq t ih=>
   intro x hx
   rcases List.mem_cons.mp hx with e | hx
   ·subst e
    exact zih ok (by rw[<-hq.1];exact hq.2.1)
   ·exact ih x hx
 exact all r x hx
theorem dt_of(ok:HOk P w H h)(e:H a=some (.dT kvs)):kvs.length<=sizeLine/\(a == sysModules)=false/\
  ∃ xs,KT H kvs xs/\h.DictOfH (tupleKind (zbh P w)) a xs:=zkF ok (.inl e)
end

def DGet (H:Hp)(a:Addr)(y:V)(r:Option V):Prop:=
 (∃ kvs k,Rd H a (.dK kvs)/\y=kV k/\r=valV kvs k)\/∃ kvs k b,Rd H a (.dT kvs)/\y=.ref b/\H b=some (.tup (k.map kV))/\r=valV kvs k
def DPut (H:Hp)(a:Addr)(y v:V)(H':Hp):Prop:=
 (∃ kvs k,H a=some (.dK kvs)/\y=kV k/\kvs.length<sizeLine/\H'=upd H a (.dK (putK kvs k v)))\/
 ∃ kvs k b,H a=some (.dT kvs)/\y=.ref b/\H b=some (.tup (k.map kV))/\kvs.length<sizeLine/\H'=upd H a (.dT (putK kvs k v))
theorem DGet.k{k:Key}(e:H a=some (.dK kvs)):DGet H a (kV k) (valV kvs k):=.inl ⟨kvs,k,.inl e,rfl,rfl⟩
theorem DPut.k{k:Key}{v:V}(e:H a=some (.dK kvs))(hl:kvs.length<sizeLine):DPut H a (kV k) v (upd H a (.dK (putK kvs k v))):=.inl ⟨kvs,k,e,rfl,hl,rfl⟩
variable {r:Value}{Q:Value->Shared->Prop}{h':Heap}
section
variable {v:V}

theorem Inv.big (I:Inv X pins σ H s):sysModules<s.heap.objs.size:=by
 have h:mainGlobals<s.heap.objs.size:=(I.mod.glob.keeps I.bk).lt
 exact Nat.lt_trans (by decide) h
theorem zm2(hu:A.units+1<cLine)(I:Inv X pins σ H s)(g:DGet H a y (some v))(ry:RelV y u)(h:∀ w' s',Inv X pins σ H s'->RelV v w'->Q w' s'):
  wpAny (model X.prog X.w) A (getItem (.ref a) u) Q E s:=by
 rcases g with ⟨kvs,k,e,ey,l⟩ | ⟨kvs,k,b,e,ey,eb,l⟩
 ·subst ey
  obtain⟨z,hd,vs,rel,dd⟩:=zkD I.hok e
  obtain⟨w',hw,rw'⟩:=RelO.some_of (v:=v) (o:=valueAt vs k) (by rw[l];exact rel.val k)
  exact wpAny_getItem_of (zhN ry) dd.mapOf hw (h w' _ (I.tok _) rw')
 ·subst ey
  cases (show u=Value.ref b from ry)
  obtain⟨z,hd,xs,rel,dd⟩:=zkF I.hok e
  obtain⟨w',hw,rw'⟩:=RelO.some_of (v:=v) (o:=(atKey xs k).map (·.2)) (by rw[l];exact rel.val k)
  obtain⟨p,hp,hp2⟩:=zme.mp hw
  refine wpAny_getItem_heap (tupleKind_room_in1 hu) (zih I.hok eb) dd hp ?_
  rw[hp2]
  exact h w' _ (I.tok _) rw'
theorem d_in(hu:A.units+1<cLine)(I:Inv X pins σ H s)(g:DGet H a y o)(ry:RelV y u)(h:∀ s',Inv X pins σ H s'->Q (.bool o.isSome) s'):
  wpAny (model X.prog X.w) A (compareOp .In u (.ref a)) Q E s:=by
 rcases g with ⟨kvs,k,e,ey,l⟩ | ⟨kvs,k,b,e,ey,eb,l⟩
 ·subst ey
  obtain⟨z,hd,vs,rel,dd⟩:=zkD I.hok e
  refine wpAny_in_of (zhN ry) hd dd.mapOf ?_
  rw[<-(rel.val k).isSome_eq,<-l]
  exact h _ (I.tok _)
 ·subst ey
  cases (show u=Value.ref b from ry)
  obtain⟨z,hd,xs,rel,dd⟩:=zkF I.hok e
  refine wpAny_in_heap (tupleKind_room_in1 hu) (zih I.hok eb) hd dd ?_
  have q:=(rel.val k).isSome_eq
  rw[Option.isSome_map] at q
  rw[<-q,<-l]
  exact h _ (I.tok _)
theorem zp5(hu:A.units+1<cLine)(I:Inv X pins σ H s)(g:DGet H a y o)(ry:RelV y u)(h:∀ s',Inv X pins σ H s'->Q (.bool (!o.isSome)) s'):
  wpAny (model X.prog X.w) A (compareOp .NotIn u (.ref a)) Q E s:=by
 rcases g with ⟨kvs,k,e,ey,l⟩ | ⟨kvs,k,b,e,ey,eb,l⟩
 ·subst ey
  obtain⟨z,hd,vs,rel,dd⟩:=zkD I.hok e
  refine wpAny_notIn_of (zhN ry) hd dd.mapOf ?_
  rw[<-(rel.val k).isSome_eq,<-l]
  exact h _ (I.tok _)
 ·subst ey
  cases (show u=Value.ref b from ry)
  obtain⟨z,hd,xs,rel,dd⟩:=zkF I.hok e
  refine wpAny_notIn_heap (tupleKind_room_in1 hu) (zih I.hok eb) hd dd ?_
  have q:=(rel.val k).isSome_eq
  rw[Option.isSome_map] at q
  rw[<-q,<-l]
  exact h _ (I.tok _)
theorem zg2{ob:HO}(I:Inv X pins σ H s)(mu:Mut (H a))(hs:Heap.SameBut a s.heap h')(he:∃ q,h'.get? a=some q)(new:zbU X.prog X.w (upd H a ob) h' a ob):
  Inv X pins σ (upd H a ob) {s with heap:=h',toks:=t'}:=
 I.write (x:=a) (e:=a) mu (.inl rfl) (λb q hb z=>(hs.2 b hb).trans z) he new
theorem zli{vs:List (Key × Value)}(z:kvs.length<=sizeLine)(hd:(a == sysModules)=false)(rel:KV kvs vs)(dd:h'.DictOf (zbh P w) a vs):
  zbU P w H' h' a (.dK kvs):=⟨z,hd,vs,rel,dd⟩
theorem zm3{Q:Unit->Shared->Prop}(hu:A.units+1<cLine)(I:Inv X pins σ H s)(g:DPut H a y v H')(ry:RelV y u)(rv:RelV v r)(h:∀ s',Inv X pins σ H' s'->Q () s'):
  wpAny (model X.prog X.w) A (setItem (.ref a) u r) Q E s:=by
 rcases g with ⟨kvs,k,e,ey,l,eH⟩ | ⟨kvs,k,b,e,ey,eb,l,eH⟩
 ·subst ey eH
  obtain⟨z,hd,vs,rel,dd⟩:=zkE I.hok e
  have hz:vs.length<=sizeLine:=by rw[<-rel.length];exact z
  have hl:(putK kvs k v).length<=sizeLine:=by have:=ze4 kvs k v;omega
  refine wpAny_setItem_pairs (hsz:=hz) (zhN ry) dd λh' dd' hs=>h _ ?_
  have he:∃ q,h'.get? a=some q:=let ⟨q,_,_,hq,_⟩:=dd';⟨q,hq⟩
  exact zg2 I (by rw[e];exact True.intro) hs he (zli hl hd (rel.put k rv) dd')
 ·subst ey eH
  cases (show u=Value.ref b from ry)
  obtain⟨z,hd,xs,rel,dd⟩:=dt_of I.hok e
  have hz:xs.length<=sizeLine:=by rw[<-Paired.length rel];exact z
  have hl:(putK kvs k v).length<=sizeLine:=by have:=ze4 kvs k v;omega
  refine wpAny_setItem_heap (hsz:=hz) (tupleKind_room_in1 hu) (zih I.hok eb) dd λh' dd' hs=>h _ ?_
  obtain⟨q,es,ep,hq,h2,h3,h4,_,h5⟩:=dd'
  refine zg2 I (by rw[e];exact True.intro) hs ⟨q,hq⟩ ⟨hl,hd,_,(rel.put k eb rv).keeps λc ys ec=>?_,q,es,ep,hq,h2,h3,h4,h5⟩
  rw[zai (zn4 ec e (λz=>nomatch z))]
  exact ec
end

section
variable {k:Key}
theorem zrr {Q:Unit->Shared->Prop}(I:Inv X pins σ H s)(e:H a=some (.dK kvs))(ry:RelV (kV k) u)(l:(valV kvs k).isSome=true)(h:∀ s',Inv X pins σ (upd H a (.dK (zd7 kvs k))) s'->Q () s') :
  wpAny (model X.prog X.w) A (delItem (.ref a) u) Q E s:=by
 obtain⟨z,hd,vs,rel,dd⟩:=zkE I.hok e
 refine wpAny_delItem_slot dd.typeIs (by decide) PySem.F.slot_dict_delitem
  (call_meetsIn PySem.F.slot_dict_delitem dd.typeIs PySem.F.entry_dict_delitem (PySem.F.args_dict_delitem_2 _ _) (meets_dict_delitem_pairs (zbh X.prog X.w) a (zhN ry)) ⟨vs,dd,by rw[<-rel.length];exact z,by rw[<-(rel.val k).isSome_eq];exact l,λh' dd' hs=>h _ ?_⟩)
 have he:∃ q,h'.get? a=some q:=let ⟨q,_,_,hq,_⟩:=dd';⟨q,hq⟩
 exact zg2 I (by rw[e];exact True.intro) hs he (zli (Nat.le_trans (zlh kvs k) z) hd (rel.drop k) dd')
theorem d_pop{v:V}{more:List Value}(I:Inv X pins σ H s)(e:H a=some (.dK kvs))(ry:RelV (kV k) u)(l:valV kvs k=some v)(hm:more=[]\/∃ x,more=[x])(h:∀ w' s',Inv X pins σ (upd H a (.dK (zd7 kvs k))) s'->RelV v w'->Q w' s'):wpAny (model X.prog X.w) A (call (.builtin "dict.pop") (.ref a::u::more)) Q E s:=by
 obtain⟨z,hd,vs,rel,dd⟩:=zkE I.hok e
 obtain⟨w',hw,rw'⟩:=RelO.some_of (v:=v) (o:=valueAt vs k) (by rw[<-l];exact rel.val k)
 have hp:(keyPart u).isSome=true:=by
  cases k with
  | inl i=>obtain⟨t,q⟩:=(show ∃ t,u=Value.int i t from ry);subst q;rfl
  | inr x=>obtain⟨t,q⟩:=(show ∃ t,u=Value.str x t from ry);subst q;rfl
 have ha:argsOk "dict.pop" ⟨.ref a::u::more,[]⟩:=by
  rcases hm with q | ⟨x,q⟩
  ·subst q;exact PySem.F.args_dict_pop_2 _ _
  ·subst q;exact PySem.F.args_dict_pop_3 _ _ _
 refine call_meetsIn PySem.F.slot_dict_pop dd.typeIs PySem.F.entry_dict_pop ha (meets_dict_pop_there (zbh X.prog X.w) a (zhN ry) more hm hp)
  ⟨vs,w',dd,by rw[<-rel.length];exact z,hw,λh' dd' hs=>h w' _ ?_ rw'⟩
 have he:∃ q,h'.get? a=some q:=let ⟨q,_,_,hq,_⟩:=dd';⟨q,hq⟩
 exact zg2 I (by rw[e];exact True.intro) hs he (zli (Nat.le_trans (zlh kvs k) z) hd (rel.drop k) dd')
theorem zrs(I:Inv X pins σ H s)(e:H a=some (.dK kvs))(ry:RelV (kV k) u)(l:valV kvs k=none)(h:∀ s',Inv X pins σ H s'->Q r s'):
  wpAny (model X.prog X.w) A (call (.builtin "dict.pop") [.ref a,u,r]) Q E s:=by
 obtain⟨z,hd,vs,rel,dd⟩:=zkE I.hok e
 have hn:valueAt vs k=none:=RelO.none_of (by rw[<-l];exact rel.val k)
 have hp:(keyPart u).isSome=true:=by
  cases k with
  | inl i=>obtain⟨t,q⟩:=(show ∃ t,u=Value.int i t from ry);subst q;rfl
  | inr x=>obtain⟨t,q⟩:=(show ∃ t,u=Value.str x t from ry);subst q;rfl
 exact call_meetsIn PySem.F.slot_dict_pop dd.typeIs PySem.F.entry_dict_pop (PySem.F.args_dict_pop_3 _ _ _) (meets_dict_pop_default (zbh X.prog X.w) a (zhN ry) hd hp r) ⟨vs,dd,hn,h _ (I.tok _)⟩
end


def NoSl (i:Expr):Prop:=∀ ov iv,subscripted i false ov iv=operate [ov,iv] (getItem ov iv)
variable {value:Expr}
theorem zp6{env:Env}{slice:Expr}(hl:typeLookup (.type T) "__getitem__"=pure (some (.builtin id)))(hs:NoSl slice)(h:wpAny (model prog w) A (eval value env) (λo s₁=>wpAny (model prog w) A (eval slice env) (λi s₂=>s₂.TypeIs o T/\wpAny (model prog w) A (getItem o i) Q E s₂) E s₁) E s):
  wpAny (model prog w) A (eval (.Subscript value slice pos) env) Q E s:=by
 refine Subscript_ (wpAny_mono h (λo s₁ h₁=>wpAny_mono h₁ (λi s₂ h₂=>?_) λ_ _ x=>x) λ_ _ x=>x)
 obtain⟨hT,h₂⟩:=h₂
 unfold subscriptTail
 refine wpAny_bind ?_
 rw[getitemInPython_of_ne hT.not_modules]
 refine wpAny_bind (wpAny_specialOf hT hl ?_)
 have fin:wpAny (model prog w) A (subscripted slice false o i) (λr s₃=>wpAny (model prog w) A (letTemporaryGo value o r >>= λ_=>pure r) Q E s₃) E s₂:=by
  rw[hs o i]
  exact wpAny_operating (wpAny_mono h₂ (λr s₃ h₃=>wpAny_bind (wpAny_letTemporaryGo (wpAny_pure h₃))) λ_ _ x=>x)
 first
  | exact wpAny_pure (wpAny_bind fin)
  | exact wpAny_bind (wpAny_pure (wpAny_bind fin))
  | exact wpAny_bind fin
theorem zkG(I:Inv X pins σ H s)(g:DGet H a y o):s.TypeIs (.ref a) "dict":=by
 rcases g with ⟨kvs,k,e,_,_⟩ | ⟨kvs,k,b,e,_,_,_⟩
 ·obtain⟨_,_,vs,_,dd⟩:=zkD I.hok e
  exact dd.typeIs
 ·obtain⟨_,_,xs,_,dd⟩:=zkF I.hok e
  exact dd.typeIs
def zrt (td ty:TE):TE:=λσ H Q=>td σ H λx H1=>ty σ H1 λy H2=>∃ a v,x=.ref a/\DGet H2 a y (some v)/\Q v H2
def tDIn (ty td:TE):TE:=λσ H Q=>ty σ H λy H1=>td σ H1 λx H2=>∃ a o,x=.ref a/\DGet H2 a y o/\Q (.bl o.isSome) H2
def zm4 (ty td:TE):TE:=λσ H Q=>ty σ H λy H1=>td σ H1 λx H2=>∃ a o,x=.ref a/\DGet H2 a y o/\Q (.bl (!o.isSome)) H2
def zru (td ty tv:TE):TS:=λD σ H=>tv σ H λv H1=>td σ H1 λx H2=>ty σ H2 λy H3=>∃ a H4,x=.ref a/\DPut H3 a y v H4/\D.nx σ H4
variable {tv td ty:TE}
section
variable {o i:Expr}{pos' tpos:Pos}
theorem zel (hu:X.A.units+1<cLine)(ho:PE X o td)(hi:PE X i ty)(hs:NoSl i):PE X (.Subscript o i pos) (zrt td ty):=by
 intro pins s σ H Q I h
 refine zp6 PySem.F.slot_dict_getitem.lookup hs (thn (ho pins s σ H _ I h) λu s1 ⟨x,H1,I1,rx,q1⟩=>thn (hi pins s1 σ H1 _ I1 q1) λiv s2 ⟨y,H2,I2,ry,a,v,ex,g,q2⟩=>?_)
 subst ex
 obtain rfl:u=Value.ref a:=rx
 exact⟨zkG I2 g,zm2 hu I2 g ry λw' s3 I3 rw'=>⟨v,H2,I3,rw',q2⟩⟩
theorem zm5 (hu:X.A.units+1<cLine)(hi:PE X i ty)(ho:PE X o td):PC X .In i o (tDIn ty td):=by
 intro pins s σ H Q I h
 refine thn (hi pins s σ H _ I h) λiv s1 ⟨y,H1,I1,ry,q1⟩=>thn (ho pins s1 σ H1 _ I1 q1) λu s2 ⟨x,H2,I2,rx,a,ov,ex,g,q2⟩=>?_
 subst ex
 obtain rfl:u=Value.ref a:=rx
 exact d_in hu I2 g ry λs3 I3=>⟨.bl ov.isSome,H2,I3,rfl,q2⟩
theorem zem (hu:X.A.units+1<cLine)(hi:PE X i ty)(ho:PE X o td):PC X .NotIn i o (zm4 ty td):=by
 intro pins s σ H Q I h
 refine thn (hi pins s σ H _ I h) λiv s1 ⟨y,H1,I1,ry,q1⟩=>thn (ho pins s1 σ H1 _ I1 q1) λu s2 ⟨x,H2,I2,rx,a,ov,ex,g,q2⟩=>?_
 subst ex
 obtain rfl:u=Value.ref a:=rx
 exact zp5 hu I2 g ry λs3 I3=>⟨.bl (!ov.isSome),H2,I3,rfl,q2⟩
theorem zg3 (hu:X.A.units+1<cLine)(ho:PE X o td)(hi:PE X i ty)(hv:PE X value tv)(hs:swapsWith value (some (.Subscript o i pos')) pos.line X.env=pure false) :
  PS X (.Assign [.Subscript o i pos'] value pos) (zru td ty tv):=by
 intro pins s σ H D I h
 refine wpAny_Assign_Subscript (thn (hv pins s σ H _ I h) λr s1 ⟨v,H1,I1,rv,q1⟩=>thn (ho pins s1 σ H1 _ I1 q1) λu s2 ⟨x,H2,I2,rx,q2⟩=>thn (hi pins s2 σ H2 _ I2 q2) λiv s3 ⟨y,H3,I3,ry,a,H4,ex,g,q3⟩=>?_) hs
 subst ex
 obtain rfl:u=Value.ref a:=rx
 exact zm3 hu I3 g ry rv λs4 I4=>⟨σ,H4,I4,q3⟩
end


theorem zlj(h:Heap)(hb:sysModules<h.objs.size):zbU P w H (h.push {cls:=.type "dict",data:=.dict #[]}) h.objs.size (.dK []):=
 ⟨Nat.zero_le _,beq_eq_false_iff_ne.mpr (Ne.symm (Nat.ne_of_lt hb)),[],.nil,Heap.DictOf.new h⟩
def zpl:TE:=λ_ H Q=>∀ p,H p=none->Q (.ref p) (upd H p (.dK []))
section
theorem zgE:PE X (.Dict [] [] pos) zpl:=λpins s σ H Q I h=>
 wpAny_Dict_empty ⟨.ref s.heap.objs.size,_,I.laid (a:=s.heap.objs.size) (o:=.dK []) (t':=s.toks) (λ_ _ q=>Heap.get?_push_of_some _ q) (Nat.le_refl _) (zlj s.heap I.big),rfl,h _ (I.hok.fresh (Nat.le_refl _))⟩
end

def zg4:List (TE × TE)->St->Hp->(List (V × V)->Hp->Prop)->Prop
 | [],_,H,Q=>Q [] H
 | (tk,tv)::r,σ,H,Q=>tk σ H λx H1=>tv σ H1 λy H2=>zg4 r σ H2 λps H3=>Q ((x,y)::ps) H3
abbrev VV:List (V × V)->List (Value × Value)->Prop:=Paired λp q=>RelV p.1 q.1/\RelV p.2 q.2
def PPs (X:Cx)(pos:Pos)(keys:List (Option Expr))(values:List Expr)(trs:List (TE × TE)):Prop:=
 ∀ (pins:List (Addr × Obj)) (s:Shared) (σ:St) (H:Hp) (Q:List (V × V)->Hp->Prop),Inv X pins σ H s->zg4 trs σ H Q->
  wpAny (model X.prog X.w) X.A (evalPairs (pairTrees keys values X.env pos)) (λvs s'=>∃ ps H',Inv X pins σ H' s'/\VV ps vs/\Q ps H') X.xe s
theorem zfO: PPs X pos [] [] []:=λpins s σ H Q I h=>pairTrees_nil_walk ⟨[],H,I,.nil,h⟩
variable {trs:List (TE × TE)}
theorem zb5{k v:Expr}{ks:List (Option Expr)}{vs:List Expr}{tk:TE}(hk:PE X k tk)(hv:PE X v tv)(hr:PPs X pos ks vs trs):
  PPs X pos (some k::ks) (v::vs) ((tk,tv)::trs):=λpins s σ H Q I h=>
 pairTrees_cons_walk (thn (hk pins s σ H _ I h) λu s1 ⟨x,H1,I1,rx,q1⟩=>thn (hv pins s1 σ H1 _ I1 q1) λw2 s2 ⟨y,H2,I2,ry,q2⟩=>
  thn (hr pins s2 σ H2 _ I2 q2) λws s3 ⟨ps,H3,I3,rel,q3⟩=>⟨(x,y)::ps,H3,I3,.cons ⟨rx,ry⟩ rel,q3⟩)
def zbR (kvs more:List (Key × V)):List (Key × V):=more.foldl (λacc kv=>putK acc kv.1 kv.2) kvs
theorem KV.merge:∀ {more:List (Key × V)}{rs:List (Key × Value)}{kvs:List (Key × V)}{vs:List (Key × Value)},KV more rs->KV kvs vs->KV (zbR kvs more) (merged vs rs):=by
 intro more rs kvs vs r
 unfold KV at r
 induction r generalizing kvs vs with
 | nil=>intro q;exact q
 | @cons p q ps qs h t ih=>
  intro r0
  have e:KV (putK kvs p.1 p.2) (stored vs q.1 q.2):=by
   have:=r0.put p.1 h.2
   rw[<-h.1];exact this
  exact ih e
theorem zfi:∀ (more kvs:List (Key × V)),(zbR kvs more).length<=kvs.length+more.length
 | [],kvs=>by show kvs.length<=kvs.length+0;omega
 | p::r,kvs=>by
  have h1:=zfi r (putK kvs p.1 p.2)
  have h2:=ze4 kvs p.1 p.2
  show (zbR (putK kvs p.1 p.2) r).length<=_
  rw[List.length_cons];omega
theorem zii {P:Program}{w:World} : ∀ {kvs:List (Key × V)}{ws:List (Value × Value)},VV (kvs.map λkv=>(kV kv.1,kv.2)) ws->∃ rs,Carries (zbh P w) ws rs/\KV kvs rs
 | [],_,r=>by rw[List.map_nil] at r;cases r;exact⟨[],True.intro,.nil⟩
 | p::kvs,_,r=>by
  rw[zmc] at r
  cases r with
  | @cons a b as bs h t=>
   obtain⟨rs,c,q⟩:=zii (P:=P) (w:=w) t
   obtain⟨b1,b2⟩:=b
   exact⟨(p.1,b2)::rs,⟨zhN h.1,rfl,c⟩,.cons ⟨rfl,h.2⟩ q⟩
def zrv (trs:List (TE × TE)):TE:=λσ H Q=>∀ p,H p=none->zg4 trs σ (upd H p (.dK [])) λps H2=>H2 p=some (.dK [])/\∃ kvs:List (Key × V),ps=kvs.map (λkv=>(kV kv.1,kv.2))/\kvs.length<=15/\Q (.ref p) (upd H2 p (.dK (zbR [] kvs)))
theorem zfP{keys:List (Option Expr)}{values:List Expr}(h:PPs X pos keys values trs)(hall:keys.all (·.isSome)=true)(hl:keys.length=values.length)(h0:keys≠[])(h15:keys.length<=15):PE X (.Dict keys values pos) (zrv trs):=by
 intro pins s σ H Q I q
 have hn:=I.hok.fresh (Nat.le_refl s.heap.objs.size)
 have I1:=I.laid (a:=s.heap.objs.size) (o:=.dK []) (h':=s.heap.push {cls:=.type "dict",data:=.dict #[]}) (t':=s.toks) (λ_ _ q=>Heap.get?_push_of_some _ q) (Nat.le_refl _) (zlj s.heap I.big)
 refine wpAny_Dict_walk (knd:=zbh X.prog X.w) hall hl h0 h15 (thn (h pins _ σ _ _ I1 (q _ hn)) λws s2 ⟨ps,H2,I2,rel,e,kvs,ep,lk,q2⟩=>?_)
 subst ep
 obtain⟨rs,c,rk⟩:=zii (P:=X.prog) (w:=X.w) rel
 obtain⟨z,hd,vs0,r0,dd⟩:=zkE I2.hok e
 cases r0
 refine⟨rs,c,dd,λh' dd' hs=>⟨.ref s.heap.objs.size,_,?_,rfl,q2⟩⟩
 have hz:(zbR [] kvs).length<=sizeLine:=by
  have h1:=zfi kvs []
  rw[List.length_nil] at h1
  rw[sizeLine_eq];omega
 have he:∃ q,h'.get? s.heap.objs.size=some q:=let ⟨q,_,_,hq,_⟩:=dd';⟨q,hq⟩
 exact zg2 I2 (by rw[e];exact True.intro) hs he (zli hz hd (rk.merge .nil) dd')
structure M2 (X:Cx)(o:Expr)(m:Str)(apos:Pos)(e f:Expr)(cpos:Pos):Prop where
 base:attributeBase o m X.env (eval o X.env)=eval o X.env
 few:((backTo cpos (starEach [e,f] X.env)).all (λx=>!x.1) && (backToKw cpos (keywordEach [] X.env)).all (λx=>x.1.isSome)
  && decide (([e,f]:List Expr).length+([]:List Keyword).length+(if ([]:List Keyword).isEmpty then 0 else 1)<30))=true
 line:(apos.endLine == cpos.line)=true
 trees:backTo cpos (starEach [e,f] X.env)=[(false,eval e X.env),(false,eval f X.env)]
def IsD (H:Hp)(a:Addr):Prop:=(∃ kvs,Rd H a (.dK kvs))\/∃ kvs,Rd H a (.dT kvs)
theorem zpm(I:Inv X pins σ H s)(d:IsD H a):
  s.TypeIs (.ref a) "dict" /\(∀ b,Value.ref a=.ref b->∃ ob,s.heap.get? b=some ob/\ob.dict=none)/\(a == sysModules)=false:=by
 rcases d with ⟨kvs,e⟩ | ⟨kvs,e⟩
 ·obtain⟨_,hd,vs,_,dd⟩:=zkD I.hok e
  refine⟨dd.typeIs,λb q=>?_,hd⟩
  cases q
  obtain⟨ob,_,_,h1,h2,_⟩:=dd
  exact⟨ob,h1,h2.2.1⟩
 ·obtain⟨_,hd,xs,_,dd⟩:=zkF I.hok e
  refine⟨dd.typeIs,λb q=>?_,hd⟩
  cases q
  obtain⟨ob,_,_,h1,h2,_⟩:=dd
  exact⟨ob,h1,h2.2.1⟩
section
variable {d:V}
theorem zrw(hu:A.units+1<cLine)(I:Inv X pins σ H s)(g:DGet H a y o)(ry:RelV y u)(rd:RelV d r)(h:∀ w' s',Inv X pins σ H s'->RelV (o.getD d) w'->Q w' s'):
  wpAny (model X.prog X.w) A (call (.builtin "dict.get") [.ref a,u,r]) Q E s:=by
 rcases g with ⟨kvs,k,e,ey,l⟩ | ⟨kvs,k,b,e,ey,eb,l⟩
 ·subst ey
  obtain⟨z,hd,vs,rel,dd⟩:=zkD I.hok e
  refine call_meetsIn PySem.F.slot_dict_get dd.typeIs PySem.F.entry_dict_get (PySem.F.args_dict_get_3 _ _ _) (meets_dict_get_default (zbh X.prog X.w) a (zhN ry) hd r) ⟨_,dd.mapOf,h _ _ (I.tok _) ?_⟩
  rw[l]
  exact (rel.val k).getD rd
 ·subst ey
  cases (show u=Value.ref b from ry)
  obtain⟨z,hd,xs,rel,dd⟩:=zkF I.hok e
  refine call_meetsIn PySem.F.slot_dict_get dd.typeIs PySem.F.entry_dict_get (PySem.F.args_dict_get_3 _ _ _) (meetsH_dict_get_default (tupleKind (zbh X.prog X.w)) a b hd r) ⟨tupleKind_room_in1 hu,k,xs,zih I.hok eb,dd,h _ _ (I.tok _) ?_⟩
  rw[l]
  exact (rel.val k).getD rd
end

def zpn (td ty tx:TE):TE:=λσ H Q=>td σ H λx H1=>∃ a,x=.ref a/\IsD H1 a/\ty σ H1 λy H2=>tx σ H2 λz H3=>∃ o,DGet H3 a y o/\Q (o.getD z) H3
def zpo (td ty tx:TE):TE:=λσ H Q=>td σ H λx H1=>∃ a,x=.ref a/\IsD H1 a/\ty σ H1 λy H2=>tx σ H2 λz H3=>∃ kvs k,H3 a=some (.dK kvs)/\y=kV k/\
 (∀ v,valV kvs k=some v->Q v (upd H3 a (.dK (zd7 kvs k))))/\(valV kvs k=none->Q z H3)
section
variable {o f:Expr}{tx:TE}
theorem zok (hu:X.A.units+1<cLine)(ho:PE X o td)(he:PE X e ty)(hf:PE X f tx)(m:M2 X o "get" apos e f cpos):PE X (.Call (.Attribute o "get" apos) [e,f] [] cpos) (zpn td ty tx):=by
 intro pins s σ H Q I h
 refine wpAny_Call_method m.base m.few m.line PySem.F.plainAttrs_dict PySem.F.slot_dict_get PySem.F.type_dict_get (thn (ho pins s σ H _ I h) λu s1 ⟨x,H1,I1,rx,a,ex,d,q1⟩=>?_)
 subst ex
 obtain rfl:u=Value.ref a:=rx
 obtain⟨t1,t2,_⟩:=zpm I1 d
 refine⟨t1,t2,?_⟩
 rw[m.trees]
 refine Calls.callWith_builtin rfl (Calls.evalArgs_plain (Calls.spliced_cons (thn (he pins s1 σ H1 _ I1 q1) λiv s2 ⟨y,H2,I2,ry,q2⟩=>
  Calls.spliced_cons (thn (hf pins s2 σ H2 _ I2 q2) λfv s3 ⟨z,H3,I3,rz,ov,g,q3⟩=>Calls.spliced_nil ?_))))
 exact zrw hu I3 g ry rz λw' s4 I4 rw'=>⟨_,H3,I4,rw',q3⟩
theorem zol (ho:PE X o td)(he:PE X e ty)(hf:PE X f tx)(m:M2 X o "pop" apos e f cpos):PE X (.Call (.Attribute o "pop" apos) [e,f] [] cpos) (zpo td ty tx):=by
 intro pins s σ H Q I h
 refine wpAny_Call_method m.base m.few m.line PySem.F.plainAttrs_dict PySem.F.slot_dict_pop PySem.F.type_dict_pop (thn (ho pins s σ H _ I h) λu s1 ⟨x,H1,I1,rx,a,ex,d,q1⟩=>?_)
 subst ex
 obtain rfl:u=Value.ref a:=rx
 obtain⟨t1,t2,_⟩:=zpm I1 d
 refine⟨t1,t2,?_⟩
 rw[m.trees]
 refine Calls.callWith_builtin rfl (Calls.evalArgs_plain (Calls.spliced_cons (thn (he pins s1 σ H1 _ I1 q1) λiv s2 ⟨y,H2,I2,ry,q2⟩=>
  Calls.spliced_cons (thn (hf pins s2 σ H2 _ I2 q2) λfv s3 ⟨z,H3,I3,rz,kvs,k,ea,ey,q3,q4⟩=>Calls.spliced_nil ?_))))
 subst ey
 cases l:valV kvs k with
 | some v=>exact d_pop I3 ea ry l (.inr ⟨fv,rfl⟩) λw' s4 I4 rw'=>⟨v,_,I4,rw',q3 v l⟩
 | none=>exact zrs I3 ea ry l λs4 I4=>⟨z,H3,I4,rz,q4 l⟩
end

section
end


section
end
end L2

namespace Att
open PySem PySem.W PySem.Calls PyProof.Rows

variable {P:Params}
theorem zg5{h:Heap}: ∀ (ns:List Int) (vs:List Value),WellAll P h vs (ns.map WData.int)->IntsAre vs ns:=by
 intro ns
 induction ns with
 | nil=>
  intro vs w
  rw[List.map_nil] at w
  cases w
  exact .nil
 | cons n ns ih=>
  intro vs w
  rw[zmc] at w
  cases w with
  | cons a b=>
   cases a
   exact .cons _ _ (ih _ b)
variable {l:OpenLaw}{n:Nat}
theorem zm6(hn:l.most=some n){h:Heap}{args:List WData}{vals:List Value}(hpre:l.row.toRowW.claim.pre args=true)(hwl:WellAll P h vals args):
  ∃ a vs ns,vals=[Value.ref a]/\args=[WData.list (ns.map WData.int)]/\h.get? a=some {cls:=.type "list",data:=.seq vs.toArray}/\IntsAre vs ns/\ns.length<=n:=by
 have hsh:WShape.hasAll [] args [.list .int]=true:=(pre_splitW hpre).1
 have hc:l.pre.holds [] {args:=args}=true:=(pre_splitW hpre).2
 obtain⟨d,r,rfl,h1,h2⟩:=hasAllW_cons hsh
 obtain rfl:=hasAllW_nil h2
 obtain⟨xs,rfl,h3⟩:=hasW_list h1
 obtain⟨ns,rfl⟩:=items_int h3
 have hlen:ns.length<=n:=by
  unfold OpenLaw.pre at hc
  have h4:(WTm.not (.lt (.lit (.int (n:Int))) (.len (.arg 0)))).holds [] {args:=[.list (ns.map .int)]}=true:=by
   have h4:=(holds_andW hc).1
   rw[hn] at h4
   exact h4
  have h5:=condW_of h4 (w_not (w_lt w_lit (w_len_list (w_arg rfl))))
  rw[zlm] at h5
  refine Nat.le_of_not_lt λq=>?_
  have q':(n:Int)<((ns.length:Nat):Int):=by omega
  first
   | (rw[decide_eq_true q'] at h5;exact absurd h5 (by decide))
   | (simp at h5;omega)
 cases hwl with
 | cons w1 w2=>
  cases w2
  cases w1 with
  | list ho hall=>exact⟨_,_,ns,rfl,rfl,ho,zg5 ns _ hall,hlen⟩
theorem zm7 (l:OpenLaw)(args:List WData):l.row.toRowW.claim.post args (.bool true) args=true:=
 postW_of (r:=l.row.toRowW) (X:=(true == true))
  (show WShape.has [] (.bool true) .bool=true by first | rfl | decide | simp[WShape.has,WShape.arms,WShape.armsAll])
  (show (WTm.eq .res (.lit (.bool true))).value [] {args:=args,res:=some (.bool true),after:=args}=some (.bool (true == true)) from w_eq_bool (w_res rfl) w_lit) rfl
theorem attach_call{q:Program}{loose:List Str}{XP:(Str->Option Value)->Heap->Prop}{YP:World->Heap->Prop}{d:DefRec}(hn:l.most=some n)(hdf:d.params.defaults=[])(call:∀ (w:World) (s₀ s₁:Shared) (mg mb:Str->Option Value) (fa:Addr) (o:Obj) (pm cd doc:Value) (a:Addr) (vs:List Value) (ns:List Int),
   Ground q loose [] XP w s₀ mg mb s₁.heap->YP w s₁.heap->
   s₁.heap.get? fa=some o->o.data=.func (docDef d.name d.params d.body d.scope pm cd doc)->s₁.heap.CodeRec cd d.name->mg d.name=some (.ref fa)->
   s₁.heap.get? a=some {cls:=.type "list",data:=.seq vs.toArray}->IntsAre vs ns->ns.length<=n->s₁.gens=#[]->
   codeAny (model l.prog w) callerA (.call (.ref fa) ⟨[.ref a],[]⟩) (λr s'=>r=.ok (.ret (.bool true))/\OldK s₁.heap s'.heap/\s'.os=s₁.os/\AllBare s'.gens) s₁):
  WalkO q loose XP YP l.row.toRowW d [] (λf vs=>PySem.call f vs):=by
 intro w s₀ s₁ mg mb G Y fa o pm cd doc dV kV ho hd hcd hD hmg hg args vals as hpre hlay hrd hwl hlo
 obtain rfl:dV=.none:=Dflts.none hD hdf
 obtain rfl:kV=.none:=Dflts.noKw hD
 obtain⟨a,vs,ns,rfl,rfl,hobj,hints,hlen⟩:=zm6 hn hpre hwl
 refine enter_call (codeAny_mono (call w s₀ s₁ mg mb fa o pm cd doc a vs ns G Y ho (fd_plain hd) hcd hmg hobj hints hlen hg) λr s' hq=>?_)
 obtain⟨rfl,h2,h3,h4⟩:=hq
 exact⟨.inl ⟨.bool true,.bool true,[],rfl,λ_=>rfl,.bool true,zm7 l _,λ_=>⟨List.Pairwise.nil,λ_ hm=>(nomatch hm)⟩⟩,h2,h3,h4⟩
section
variable {prog:Program}{w:World}{A:Around}{E:Value->Shared->Prop}{s:Shared}{K:Frag}

end
end Att

namespace L2
open PySem PySem.Spec PyProof.Rows

theorem zg6:∀ {vs:List Value}{ns:List Int},IntsAre vs ns->Vals (ns.map V.int) vs
 | _,_,.nil=>.nil
 | _,_,.cons n t h=>.cons ⟨t,rfl⟩ (zg6 h)
def Only (H:Hp):Prop:=∀ b,H b=none\/∃ o xs,H b=some (.frz o (.lst xs))
variable {P:Program}{w:World}{K:Fg}{mg:Str->Option Value}{CX:CXT}{a:Addr}{fd:FuncData}{x:Str}{sp:Sp}{ns:List Int}
theorem zom{mb:Str->Option Value}{k:Nat}{fa:Addr}{s₁:Shared}{vs:List Value}(KX:K.In s₁.heap)(hns:s₁.heap.Ns mainGlobals mg)(hb:s₁.heap.Ns builtinsNs mb)(hbb:∀ x:Str,x≠ "__name__" ->mb x=bootBuiltins x)(hlim:s₁.heap.NoLimit)(hg:s₁.gens=#[])(ha:s₁.heap.get? a=some {cls:=.type "list",data:=.seq vs.toArray})(hi:IntsAre vs ns)(hl:ns.length<=sizeLine)(hr:Room k callerA)(F:∀ base:Heap,K.In base->base.Ns mainGlobals mg->FnOk P w K mg base CX k fa fd [x] sp)(hbind:∀ (s:Shared) (u:Value),BindsTo s fd ⟨[u],[]⟩ [(x,u)])(hsp:∀ H:Hp,Only H->SqL K H a (ns.map V.int)->sp [.ref a] H (λv _=>v=.bl true) λ_ _ _=>False)(hCX:∀ H e s',CX [] H s₁ (λ_ _ _=>False) e s'->False):
  codeAny (model P w) callerA (.call (.ref fa) ⟨[.ref a],[]⟩) (λr s'=>r=.ok (.ret (.bool true))/\OldK s₁.heap s'.heap/\s'.os=s₁.os/\AllBare s'.gens) s₁:=by
 have rv:=zg6 hi
 have lenV:=hi.length
 -- from an abstract heap in which nothing but the script may be tracked
 have core:∀ H:Hp,Only H->SqL K H a (ns.map V.int)->HOk P w H s₁.heap->(∀ b,H b≠none->b=a)->(H a≠none->K.lookup a=none)->
   codeAny (model P w) callerA (.call (.ref fa) ⟨[.ref a],[]⟩) (λr s'=>r=.ok (.ret (.bool true))/\OldK s₁.heap s'.heap/\s'.os=s₁.os/\AllBare s'.gens) s₁:=by
  intro H hO hS hok hA hK
  have base_of:∀ {b:Addr}{o:Obj},s₁.heap.get? b=some o->H b=none->(hidT s₁.heap H).get? b=some o:=λe n=>zn5 e n
  have noA:∀ {b:Addr}{o:Obj}{es:Array DictEntry}{ep:Nat},s₁.heap.get? b=some o->o.data=.dict es ep->H b=none:=λ{b o es ep} e d=>by
   cases q:H b with
   | none=>rfl
   | some u=>
    have e':b=a:=hA b (by rw[q];simp)
    subst e'
    rw[ha] at e;cases e
    have d':Data.seq vs.toArray _=Data.dict es ep:=d
    cases d'
  have nsK:∀ {b:Addr}{m:Str->Option Value},s₁.heap.Ns b m->(hidT s₁.heap H).Ns b m:=λ{b m} ⟨o,es,ep,e,d,r⟩=>⟨o,es,ep,base_of e (noA e d),d,r⟩
  have hKb:K.In (hidT s₁.heap H):=λb o e=>base_of (KX b o e) (by
   cases q:H b with
   | none=>rfl
   | some u=>
    have e':b=a:=hA b (by rw[q];simp)
    subst e'
    rw[hK (by rw[q];simp)] at e;cases e)
  have hM:Mod K mg (hidT s₁.heap H):=⟨hKb,nsK hns,⟨mb,nsK hb,hbb⟩,let ⟨mc,h1,h2⟩:=hlim;⟨mc,nsK h1,h2⟩⟩
  have e0:Env0 P w K mg (hidT s₁.heap H) callerA [] s₁ H:=⟨rfl,hM,λb o e=>zpN e,Nat.le_of_eq (zmz _ _),trivial,λb hb=>absurd (show b∈([]:List Addr) from hb) (by simp),hok,.of_eq hg⟩
  refine codeAny_mono ((F _ hKb (nsK hns)).run callerA [] s₁ H ⟨[.ref a],[]⟩ [.ref a] [.ref a] _ _ hr e0 (hbind s₁ (.ref a)) (.cons rfl .nil) (hsp H hO hS)) λr s' h=>?_
  cases r with
  | error e=>exact (hCX H e s' h).elim
  | ok fl=>
   cases fl with
   | next=>exact False.elim h
   | brk=>exact False.elim h
   | cont=>exact False.elim h
   | ret u=>
    obtain⟨v,H',os,bare,un,hok',r',q⟩:=h
    have q':v=.bl true:=q
    subst q'
    obtain rfl:u=Value.bool true:=r'
    refine⟨rfl,OldK.of_keep λb o e=>?_,os,bare⟩
    cases q:H b with
    | none=>exact un.keep b o e q (by intro z;exact absurd (show b∈([]:List Addr) from z) (by simp)) (by simp)
    | some u=>
     rcases hO b with z | ⟨ob,xs,z⟩
     ·rw[q] at z;cases z
     ·have z2:=un.frzs b ob _ z
      obtain⟨e1,_⟩:=hok b _ z
      obtain⟨e2,_⟩:=hok' b _ z2
      rw[e] at e1;cases e1
      exact e2
 cases hk:K.lookup a with
 | some o=>
  -- the script is one of the module's own objects
  have e:=KX a o hk
  rw[ha] at e
  cases e
  refine core (λ_=>none) (λ_=>.inl rfl) (.inr ⟨_,vs.toArray,_,hk,rfl,rfl,rfl,by rw[zst,lenV];exact hl,by simpa using rv⟩) (λb u z=>by have z':(none:Option HO)=some u:=z;cases z') (λb z=>absurd rfl z) λz=>absurd rfl z
 | none=>
  refine core (λb=>if b=a then some (.frz {cls:=.type "list",data:=.seq vs.toArray} (.lst (ns.map V.int))) else none) (λb=>?_) (.inl (.inr ⟨{cls:=.type "list",data:=.seq vs.toArray},if_pos rfl⟩)) (λb u z=>?_) (λb z=>?_) λ_=>hk
  ·by_cases hb:b=a
   ·exact .inr ⟨_,_,if_pos hb⟩
   ·exact .inl (if_neg hb)
  ·by_cases hb:b=a
   ·have z':=(if_pos hb).symm.trans z
    cases z'
    subst hb
    exact⟨ha,by rw[zlm];exact hl,vs,_,rv,ha⟩
   ·have z':=(if_neg hb).symm.trans z
    cases z'
  ·by_cases hb:b=a
   ·exact hb
   ·exact absurd (if_neg hb) z



abbrev CX0:CXT:=λ_ _ _ _ _ _=>False
abbrev E0:XK:=λ_ _ _=>False
variable {X:Cx}
theorem za5: zcA CX0 X E0:=λ_ _ _ _ _ _ _ h=>h.elim
structure Fun (K:Fg)(x qual:Str)(st:Stmt)(f:Addr)(fd:FuncData):Prop where
 ex:∃ (oc:Value) (od:Option Addr) (kV doc pm:Value) (an:Option Addr) (cdv ct:Value) (osl:Array (Option Value)),
  fd=PySem.W.fnOf x qual (zdf st) (zb4 st) (zae st) .none kV doc pm an cdv ct/\K.lookup f=some ⟨oc,od,.func fd,osl⟩/\PySem.W.codeIn K cdv qual=true
 kp:PySem.W.keepIn K (.ref f)=true
variable {qual:Str}{st:Stmt}{f:Addr}{N ps:List Str}{base:Heap}
section
theorem Fun.ok{k:Nat}(F:Fun K x qual st f fd)(S:FSc N ps (zae st))(len:∀ vs H Q E,sp vs H Q E->vs.length=ps.length)(hbody:∀ (cdv:Value) (A:Around) (outer:List Env) (s:Shared) (H:Hp) (vs:List V) (Q:VK) (E:XK),Room k (A.deeper (envOfC qual (zae st) s.heap.objs.size f cdv))->sp vs H Q E->
   ∃ t,PSs (cxOf CX0 P w K mg base N qual (zae st) f cdv A outer s H E).nox (zb4 st) t/\t {nx:=λ_ H'=>Q .non H',rt:=Q} (start N vs) H):FnOk P w K mg base CX0 (k+1) f fd ps sp:=by
 obtain⟨oc,od,kV,doc,pm,an,cdv,ct,osl,rfl,lk,hcd⟩:=F.ex
 refine zrf lk hcd S len λA outer s H vs Q E hr hsp=>?_
 obtain⟨t,h,q⟩:=hbody cdv A outer s H vs Q E hr hsp
 exact⟨t,h.nox,q⟩
theorem Fun.binds(F:Fun K x qual st f fd)(h:∀ (kV doc pm:Value) (an:Option Addr) (cdv ct:Value) (us:List Value),us.length=ps.length->bindArgs (PySem.W.fnOf x qual (zdf st) (zb4 st) (zae st) .none kV doc pm an cdv ct) ⟨us,[]⟩=pure (ps.zip us)):zd6 K fd ps []:=by
 obtain⟨oc,od,kV,doc,pm,an,cdv,ct,osl,rfl,lk,hcd⟩:=F.ex
 exact .all (h kV doc pm an cdv ct)
theorem zpp{oc:Value}{od an:Option Addr}{osl:Array (Option Value)}{kV doc pm cdv ct:Value}(l:K.lookup f=some ⟨oc,od,.func (PySem.W.fnOf x qual (zdf st) (zb4 st) (zae st) .none kV doc pm an cdv ct),osl⟩)(c:PySem.W.codeIn K cdv qual=true)(k:PySem.W.keepIn K (.ref f)=true):Fun K x qual st f (PySem.W.fnOf x qual (zdf st) (zb4 st) (zae st) .none kV doc pm an cdv ct):=⟨⟨oc,od,kV,doc,pm,an,cdv,ct,osl,rfl,l,c⟩,k⟩
end
variable {n:Nat}
theorem zcq(h:n<=1000):n<sizeLine:=Nat.lt_of_le_of_lt h (by decide)
variable {pos:Pos}
section
theorem pv(i:Nat)(hN:X.N[i]?=some x:=by rfl)(hv:Vis X.env.scope x:=by first | exact Or.inl rfl | exact Or.inr (Or.inl rfl) | exact Or.inr (Or.inr rfl))(hd:(x == ("__debug__" : Str))=false:=by decide)(hcd:(x == ("__classdict__" : Str))=false:=by decide):PE X (.Name x pos) (tVar i):=zq1 hN hv hd hcd
end

variable {B A:Prop}
theorem iteF(h:B):if false=true then A else B:=by
 rw[if_neg Bool.false_ne_true]
 exact h
theorem iteT(h:A):if true=true then A else B:=by
 rw[if_pos rfl]
 exact h
theorem ite2{c:Prop}[Decidable c](h1:c->A)(h2:¬ c->B):if c then A else B:=by
 by_cases h:c
 ·rw[if_pos h]
  exact h1 h
 ·rw[if_neg h]
  exact h2 h
def Same (H H':Hp):Prop:=∀ b o,H b=some o->H' b=some o
theorem Same.refl (H:Hp):Same H H:=λ_ _ h=>h
variable {H H1 H2:Hp}
theorem Same.trans(a:Same H H1)(b:Same H1 H2):Same H H2:=λc o h=>b c o (a c o h)
variable {H':Hp}
theorem Same.free(e:Same H H'){l:Addr}(h:H' l=Option.none):H l=Option.none:=by
 cases q:H l with
 | none=>rfl
 | some o=>
  rw[e l o q] at h
  cases h
variable {xs:List V}
theorem Same.seq(e:Same H H')(h:SqL K H a xs):SqL K H' a xs:=by
 rcases h with (h | ⟨o,h⟩) | h
 ·exact .inl (.inl (e _ _ h))
 ·exact .inl (.inr ⟨o,e _ _ h⟩)
 ·exact .inr h
variable {v:V}
section
variable {κ:Type} [DecidableEq κ]
theorem zon {kvs:List (κ × V)}{k:κ}(h:valV kvs k=none):¬ k∈kvs.map (·.1):=by
 intro m
 obtain⟨p,hp,e⟩:=zmm.mp m
 have q:(kvs.any λkv=>decide (kv.1=k))=true:=List.any_eq_true.mpr ⟨p,hp,decide_eq_true e⟩
 rw[zc6,h] at q
 exact absurd q (by simp)
theorem zm8{kvs:List (κ × V)}{k:κ}(h:valV kvs k=some v):k∈kvs.map (·.1):=by
 have q:(kvs.any λkv=>decide (kv.1=k))=true:=by
  rw[zc6,h]
  all_goals rfl
 obtain⟨p,hp,e⟩:=List.any_eq_true.mp q
 exact zmm.mpr ⟨p,hp,of_decide_eq_true e⟩
theorem zm9:∀ {l:List κ}{k:κ},l.Nodup->¬ k∈l->(l++[k]).Nodup
 | [],k,_,_=>by simp
 | a::r,k,h,hk=>by
  obtain⟨h1,h2⟩:=List.nodup_cons.mp h
  show (a::(r++[k])).Nodup
  refine List.nodup_cons.mpr ⟨λm=>?_,zm9 h2 λm=>hk (List.mem_cons.mpr (Or.inr m))⟩
  rcases zma.mp m with q | q
  ·exact h1 q
  ·exact hk (List.mem_cons.mpr (Or.inl (zms.mp q).symm))
theorem zna {p:κ × V}{r:List (κ × V)}{k:κ}(e:p.1=k):zd7 (p::r) k=zd7 r k:=by
 unfold zd7
 rw[List.filter_cons,if_neg (by simp[e])]
theorem znb {p:κ × V}{r:List (κ × V)}{k:κ}(e:¬ p.1=k):zd7 (p::r) k=p::zd7 r k:=by
 unfold zd7
 rw[List.filter_cons,if_pos (by simp[e])]
end

def zdv:List Bool->St->St
 | [],_=>[]
 | _::ms,[]=>none::zdv ms []
 | b::ms,v::σ=>(if b=true then none else v)::zdv ms σ
theorem zc7:∀ (ms:List Bool) (σ:St),(zdv ms σ).length=ms.length
 | [],_=>rfl
 | _::ms,[]=>by simp[zdv,zc7 ms []]
 | _::ms,_::σ=>by simp[zdv,zc7 ms σ]
theorem zg7:∀ {ms:List Bool}{σ:St}{i:Nat}{v:V},(zdv ms σ)[i]?=some (some v)->ms[i]?=some false/\σ[i]?=some (some v)
 | [],_,_,_,h=>by simp[zdv] at h
 | b::ms,[],0,v,h=>by simp[zdv] at h
 | b::ms,[],i+1,v,h=>by
  have q:=zg7 (ms:=ms) (σ:=[]) (i:=i) (v:=v) (by simpa [zdv] using h)
  simp at q
 | b::ms,u::σ,0,v,h=>by
  cases b with
  | true=>simp[zdv] at h
  | false=>simp[zdv] at h;simp[h]
 | b::ms,u::σ,i+1,v,h=>by
  have q:=zg7 (ms:=ms) (σ:=σ) (i:=i) (v:=v) (by simpa [zdv] using h)
  simpa using q
def zcT (env:Env):List (Str × NameKind)->List (Str × Addr)->List (Str × Addr)
 | [],cs=>cs
 | (n,k)::r,cs=>zcT env r (if k=.free then (match env.cells.lookup n with | some c=>(n,c)::cs | none=>cs) else cs)
variable {env:Env}
theorem zjB: ∀ (names:List (Str × NameKind)) (cs:List (Str × Addr)),(∀ x c,cs.lookup x=some c->env.cells.lookup x=some c)->
  ∀ x c,(zcT env names cs).lookup x=some c->env.cells.lookup x=some c
 | [],cs,h,x,c,e=>h x c e
 | (n,k)::r,cs,h,x,c,e=>by
  refine zjB r _ (λy d q=>?_) x c e
  by_cases hk:k=.free
  ·rw[if_pos hk] at q
   cases hn:env.cells.lookup n with
   | none=>rw[hn] at q;exact h y d q
   | some a=>
    rw[hn] at q
    simp only[List.lookup_cons] at q
    cases hy:y == n with
    | true=>
     rw[hy] at q
     have:y=n:=by simpa using hy
     subst this
     rw[hn];exact q
    | false=>rw[hy] at q;exact h y d q
  ·rw[if_neg hk] at q;exact h y d q
theorem zg8: ∀ (names:List (Str × NameKind)) (cs:List (Str × Addr)) (x:Str),(∀ p∈names,p.2=.free->∃ c,env.cells.lookup p.1=some c)->
  ((x,NameKind.free)∈names\/∃ c,cs.lookup x=some c)->∃ c,(zcT env names cs).lookup x=some c
 | [],cs,x,_,h=>by
  rcases h with h | h
  ·cases h
  ·exact h
 | (n,k)::r,cs,x,hf,h=>by
  refine zg8 r _ x (λp hp=>hf p (List.mem_cons_of_mem _ hp)) ?_
  by_cases hk:k=.free
  ·obtain⟨c,hc⟩:=hf (n,k) List.mem_cons_self hk
   simp only at hc
   rw[if_pos hk,hc]
   rcases h with h | ⟨d,hd⟩
   ·rcases List.mem_cons.mp h with e | e
    ·cases e
     exact .inr ⟨c,by simp⟩
    ·exact .inl e
   ·refine .inr ?_
    simp only[List.lookup_cons]
    cases hy:x == n with
    | true=>exact⟨c,rfl⟩
    | false=>exact⟨d,hd⟩
  ·rw[if_neg hk]
   rcases h with h | h
   ·rcases List.mem_cons.mp h with e | e
    ·cases e;exact absurd rfl hk
    ·exact .inl e
   ·exact .inr h
theorem zg9{f:Str × NameKind->List (Str × Addr)->Sem (ForInStep (List (Str × Addr)))}(h1:∀ n c cs,env.cells.lookup n=some c->f (n,.free) cs=pure (.yield ((n,c)::cs)))(h2:∀ n k cs,k≠NameKind.free->f (n,k) cs=pure (.yield cs)):
  ∀ (names:List (Str × NameKind)) (cs:List (Str × Addr)),(∀ p∈names,p.2=.free->∃ c,env.cells.lookup p.1=some c)->forIn names cs f=pure (zcT env names cs)
 | [],cs,_=>rfl
 | (n,k)::r,cs,hf=>by
  rw[List.forIn_cons]
  by_cases hk:k=.free
  ·subst hk
   obtain⟨c,hc⟩:=hf (n,.free) List.mem_cons_self rfl
   simp only at hc
   rw[h1 n c cs hc]
   show forIn r ((n,c)::cs) f=_
   rw[zg9 h1 h2 r _ λp hp=>hf p (List.mem_cons_of_mem _ hp)]
   simp[zcT,hc]
  ·rw[h2 n k cs hk]
   show forIn r cs f=_
   rw[zg9 h1 h2 r _ λp hp=>hf p (List.mem_cons_of_mem _ hp)]
   simp[zcT,hk]
variable {scope:Scope}
theorem znc(hf:∀ p∈scope.names,p.2=.free->∃ c,env.cells.lookup p.1=some c):closureFor scope env=pure (zcT env scope.names []):=by
 simp only[closureFor]
 rw[zg9 (env:=env) (λn c cs hc=>?_) (λn k cs hk=>?_) scope.names [] hf]
 ·rfl
 ·simp[cellOf,hc]
 ·have:(k == NameKind.free)=false:=by simpa using hk
  simp[this]
theorem zgg (env:Env)(x:Str):∀ (names:List (Str × NameKind)),(names.map λ(p:Str × NameKind)=>match p with
   | (n,k)=>if (k == NameKind.free && env.scope.kind == .function && env.kindOf n == some .cell)=true then (n,NameKind.cell) else (n,k)).lookup x =
  (names.lookup x).map λk=>if (k == NameKind.free && env.scope.kind == .function && env.kindOf x == some .cell)=true then NameKind.cell else k
 | []=>rfl
 | (n,k)::r=>by
  have ih:=zgg env x r
  rw[zmc]
  by_cases hc:(k == NameKind.free && env.scope.kind == .function && env.kindOf n == some .cell)=true
  ·simp only[if_pos hc,List.lookup_cons]
   cases hx:x == n with
   | true=>
    have:x=n:=by simpa using hx
    subst this
    exact (congrArg some (if_pos hc)).symm
   | false=>exact ih
  ·simp only[if_neg hc,List.lookup_cons]
   cases hx:x == n with
   | true=>
    have:x=n:=by simpa using hx
    subst this
    exact (congrArg some (if_neg hc)).symm
   | false=>exact ih
theorem zeL (scope:Scope)(env:Env)(x:Str):(relabel scope env).names.lookup x =
  (scope.names.lookup x).map λk=>if (k == NameKind.free && env.scope.kind == .function && env.kindOf x == some .cell)=true then NameKind.cell else k:=zgg env x scope.names
structure COk (sc0:Scope)(N:List Str)(scope:Scope)(N':List Str)(ms:List Bool):Prop where
 kind:scope.kind=.function
 nocell:∀ y∈scope.names,y.2≠.cell
 nm:∀ y∈scope.names,y.2=.local->scope.names.lookup y.1=some .local
 fr:∀ y∈scope.names,y.2=.free->sc0.names.lookup y.1=some .cell\/sc0.names.lookup y.1=some .free
 len:ms.length=N'.length
 own:∀ (i:Nat) (x:Str),N'[i]?=some x->ms[i]?=some false->scope.names.lookup x≠some .local
 out:∀ (i:Nat) (x:Str),N'[i]?=some x->ms[i]?=some false->scope.names.lookup x=some .free->N[i]?=some x
def zha (N:List Str)(scope:Scope):List Str->List Bool->List (Option Str)->Bool
 | x::N',false::ms,o=>(scope.names.lookup x != some .local) && (scope.names.lookup x != some .free || o.head? == some (some x)) && zha N scope N' ms o.tail
 | _::N',true::ms,o=>zha N scope N' ms o.tail
 | _,_,_=>true
theorem zeG: ∀ (N':List Str) (ms:List Bool) (o:List (Option Str)),zha N scope N' ms o=true->∀ (i:Nat) (x:Str),N'[i]?=some x->ms[i]?=some false->
  scope.names.lookup x≠some .local/\(scope.names.lookup x=some .free->o[i]?=some (some x))
 | [],_,_,_,i,x,e,_=>by simp at e
 | _::_,[],_,_,i,x,_,e=>by simp at e
 | y::N',false::ms,o,h,i,x,e1,e2=>by
  simp only[zha,Bool.and_eq_true,bne_iff_ne,ne_eq,Bool.or_eq_true,beq_iff_eq] at h
  cases i with
  | zero=>
   simp at e1;subst e1
   refine⟨h.1.1,λq=>?_⟩
   rcases h.1.2 with z | z
   ·exact absurd q z
   ·cases o with
    | nil=>simp at z
    | cons a r=>simpa using z
  | succ i=>
   have q:=zeG N' ms o.tail h.2 i x (by simpa using e1) (by simpa using e2)
   refine⟨q.1,λz=>?_⟩
   have:=q.2 z
   cases o with
   | nil=>simp at this
   | cons a r=>simpa using this
 | y::N',true::ms,o,h,i,x,e1,e2=>by
  simp only[zha] at h
  cases i with
  | zero=>simp at e2
  | succ i=>
   have q:=zeG N' ms o.tail h i x (by simpa using e1) (by simpa using e2)
   refine⟨q.1,λz=>?_⟩
   have:=q.2 z
   cases o with
   | nil=>simp at this
   | cons a r=>simpa using this
variable {sc0:Scope}{N':List Str}{ms:List Bool}
theorem COk.mk'(kind:scope.kind=.function)(nocell:∀ y∈scope.names,y.2≠.cell)(nm:∀ y∈scope.names,y.2=.local->scope.names.lookup y.1=some .local)(fr:∀ y∈scope.names,y.2=.free->sc0.names.lookup y.1=some .cell\/sc0.names.lookup y.1=some .free)(len:ms.length=N'.length)(sl:zha N scope N' ms (N.map some)=true):COk sc0 N scope N' ms:=
 ⟨kind,nocell,nm,fr,len,λi x e1 e2=>(zeG N' ms _ sl i x e1 e2).1,λi x e1 e2 e3=>by
  have q:=(zeG N' ms _ sl i x e1 e2).2 e3
  rw[zgm] at q
  cases h:N[i]? with
  | none=>rw[h] at q;cases q
  | some a=>rw[h] at q;simpa using q⟩
def zbS (X:Cx)(N':List Str)(scope:Scope)(cl:List (Str × Addr))(C:Addr)(fp:List Addr)(s3:Shared)(H3:Hp):Cx where
 prog:=X.prog
 w:=X.w
 K:=X.K
 mg:=X.mg
 base:=X.base
 A:=X.A
 N:=N'
 s₀:=s3
 H₀:=H3
 env:=compEnvC scope cl C X.env
 outer:=X.stack
 stack:=X.stack
 ex:=fp
 fn:=λ_=>false
 calm:=X.calm
 pn:=[]
 xe:=λ_ _=>False
variable {s3 s':Shared}{h':Heap}{C:Addr}{pins' pins:List (Addr × Obj)}{σ' σ:St}{fp:List Addr}
section

theorem COk.cells (ok:COk X.env.scope X.N scope N' ms)(k:X.Ok):∀ p∈scope.names,p.2=.free->∃ c,X.env.cells.lookup p.1=some c:=λp hp e=>k.has p.1 (ok.fr p hp e)
theorem zij{c:Addr}(e:(zcT X.env scope.names []).lookup x=some c):X.env.cells.lookup x=some c:=zjB _ [] (λ_ _ q=>by cases q) x c e
theorem COk.kinds(ok:COk X.env.scope X.N scope N' ms)(h:(relabel scope X.env).names.lookup x=some .cell\/(relabel scope X.env).names.lookup x=some .free):scope.names.lookup x=some .free:=by
 rw[zeL] at h
 cases e:scope.names.lookup x with
 | none=>rw[e] at h;rcases h with h | h <;> cases h
 | some k=>
  rw[e] at h
  simp only[Option.map_some,Option.some.injEq] at h
  by_cases hk:k=.free
  ·rw[hk]
  ·have hb:(k == NameKind.free)=false:=by simpa using hk
   simp only[hb,Bool.false_and,Bool.false_eq_true,if_false] at h
   rcases h with h | h
   ·exact absurd h (ok.nocell _ (PySem.mem_of_lookup e))
   ·exact absurd h hk
theorem COk.locals(ok:COk X.env.scope X.N scope N' ms)(h:(relabel scope X.env).names.lookup x=some .local):scope.names.lookup x=some .local:=by
 rw[zeL] at h
 cases e:scope.names.lookup x with
 | none=>rw[e] at h;cases h
 | some k=>
  rw[e] at h
  simp only[Option.map_some,Option.some.injEq] at h
  split at h
  ·cases h
  ·rw[h]
theorem zp7(ok:COk X.env.scope X.N scope N' ms)(I:Inv X pins σ H s3)(hf:∀ b∈fp,FpOk X pins H b/\b<s3.heap.objs.size):
  (zbS X N' scope (zcT X.env scope.names []) s3.heap.objs.size fp s3 H).Ok where
 mod:=I.ok.mod
 kind:=ok.kind
 glob:=I.ok.glob
 blt:=I.ok.blt
 above:=Nat.le_refl _
 inj:=λx y c h1 h2=>I.ok.inj x y c (zij h1) (zij h2)
 has:=λx hx=>by
  have q:=ok.kinds hx
  exact zg8 _ [] x (ok.cells I.ok) (.inl (PySem.mem_of_lookup q))
 cab:=λx c h=>by cases h
 hd:=I.ok.hd
 frames:=I.ok.frames
 stk:=.inl rfl
 exf:=λb hb=>⟨Nat.ne_of_lt (hf b hb).2,λx c e=>(hf b hb).1.2.2.2.2.1 x c (zij e)⟩
 bs:=λb o e=>I.bs b o e
 bsz:=Nat.le_trans I.ok.bsz I.sz
 noex:=λb o e hb=>by
  rcases (hf b hb).1.2.2.2.1 with z | z
  ·exact I.ok.noex b o e z
  ·exact absurd (Nat.lt_of_lt_of_le (Nat.lt_of_lt_of_le (Heap.lt_size e) I.ok.bsz) z) (Nat.lt_irrefl _)
 exfs:=λb hb z=>by
  rcases List.mem_cons.mp (I.stkSub b z) with e | e
  ·exact (hf b hb).1.2.1 e
  ·exact (hf b hb).1.2.2.1 e
 funs:=I.stack
 frf:=I.stkFree
theorem zlk{s5:Shared}{m:Str->Option Value}(ok:COk X.env.scope X.N scope N' ms)(I:Inv X pins σ H s5)(hk:∀ b o,s5.heap.get? b=some o->h'.get? b=some o):
  ∀ (i:Nat) (x:Str) (v:V),N'[i]?=some x->(zdv ms σ)[i]?=some (some v)->Vis (relabel scope X.env) x->∃ u,RelV v u/\Look (compEnvC scope (zcT X.env scope.names []) C X.env) h' m x u:=by
 intro i x v e1 e2 e3
 obtain⟨em,ev⟩:=zg7 e2
 rcases e3 with e3 | e3
 ·exact absurd (ok.locals e3) (ok.own i x e1 em)
 ·have q:=ok.kinds e3
  have en:=ok.out i x e1 em q
  have fr:=ok.fr _ (PySem.mem_of_lookup q) rfl
  obtain⟨m0,_,hl⟩:=I.loc
  obtain⟨u,r,l⟩:=hl i x v en ev (.inr fr)
  refine⟨u,r,?_⟩
  rcases l with ⟨k,_⟩ | ⟨k,c,e,o,ho,hd⟩
  ·have k':X.env.scope.names.lookup x=some .local:=k
   rcases fr with fr | fr
   ·have fr':X.env.scope.names.lookup x=some .cell:=fr
    rw[fr'] at k';cases k'
   ·have fr':X.env.scope.names.lookup x=some .free:=fr
    rw[fr'] at k';cases k'
  ·obtain⟨c',hc'⟩:=zg8 _ [] x (ok.cells I.ok) (.inl (PySem.mem_of_lookup q))
   have z:=zij hc'
   rw[e] at z;cases z
   exact .inr ⟨e3,c,hc',o,hk c o ho,hd⟩
theorem zl2{h4:Heap}{tk:Nat}{m:Str->Option Value}(ok:COk X.env.scope X.N scope N' ms)(I:Inv X pins σ H s3)(hf:∀ b∈fp,FpOk X pins H b/\b<s3.heap.objs.size)(hn:h4.Ns s3.heap.objs.size m)(hk:∀ b o,s3.heap.get? b=some o->h4.get? b=some o):
  Inv (zbS X N' scope (zcT X.env scope.names []) s3.heap.objs.size fp s3 H) [] (zdv ms σ) H {s3 with heap:=h4,toks:=tk} where
 ok:=zp7 ok I hf
 os:=rfl
 bare:=I.bare
 base:=Un.kept hk
 loc:=⟨m,hn,zlk ok I hk⟩
 cell:=λx c e=>by
  obtain⟨v,o,ho,hd⟩:=I.cell x c (zij e)
  exact⟨v,o,hk c o ho,hd⟩
 free:=I.hok.fresh (Nat.le_refl _)
 freeC:=λx c e=>I.freeC x c (zij e)
 pin:=λp hp=>absurd (show p∈([]:List (Addr × Obj)) from hp) (by simp)
 hok:=I.hok.kept hk
 len:=by rw[zc7,ok.len];rfl
theorem zjC{cl:List (Str × Addr)}(I:Inv X pins σ H s3)(hf:∀ b∈fp,FpOk X pins H b/\b<s3.heap.objs.size)(J:Inv (zbS X N' scope cl C fp s3 H) pins' σ' H' s'):Inv X pins σ H' s':=
 I.call' J.os J.base J.hok J.bare λb hb=>by
  obtain⟨_,f1,_,f3,f4,f5⟩:=(hf b hb).1
  exact⟨f3,f1,f4,f5⟩
theorem zl3(ok:COk X.env.scope X.N scope N' ms)(I:Inv X pins σ H s3)(hf:∀ b∈fp,FpOk X pins H b/\b<s3.heap.objs.size)(J:Inv (zbS X N' scope (zcT X.env scope.names []) s3.heap.objs.size fp s3 H) pins' σ' H' s'):Inv (zbS X N' scope (zcT X.env scope.names []) s3.heap.objs.size fp s3 H) [] (zdv ms σ) H' s' where
 ok:=J.ok
 os:=J.os
 bare:=J.bare
 base:=J.base
 loc:=by
  obtain⟨m,hn,_⟩:=J.loc
  exact⟨m,hn,zlk ok (zjC I hf J) λ_ _ e=>e⟩
 cell:=J.cell
 free:=J.free
 freeC:=J.freeC
 pin:=λp hp=>absurd (show p∈([]:List (Addr × Obj)) from hp) (by simp)
 hok:=J.hok
 len:=by rw[zc7,ok.len];rfl
end

def PIfs (X:Cx)(ifs:List Expr)(t:TT):Prop:=
 ∀ (pins:List (Addr × Obj)) (s:Shared) (σ:St) (H:Hp) (Q:Bool->Hp->Prop),Inv X pins σ H s->t σ H Q->
  wpAny (model X.prog X.w) X.A (forIn ifs true λc r=>if r=true then do let ok <-isTrue c X.env (eval c X.env);pure (ForInStep.yield ok) else pure (ForInStep.yield r)) (TP X pins σ Q) X.xe s
def zp8:TT:=λ_ H Q=>Q true H
theorem zaN: PIfs X [] zp8:=λ_ _ _ H _ I h=>wpAny_tests_nil ⟨H,I,h⟩
theorem zoo{c:Expr}{t:TT}(h:PT X c t):PIfs X [c] t:=λpins s σ H Q I q=>wpAny_tests_one (h pins s σ H Q I q)
variable {A:Around}{prog:Program}{s:Shared}{elt iter:Expr}{ifs:List Expr}
theorem znd{R:Result->Shared->Prop}{target:Expr}{it acc:Value}(I:Nat->Shared->Prop)(turn:∀ n s (E:Value->Shared->Prop),I n s->wpAny (model prog w) A (pyNext it) (λr s1=>match r with
   | none=>R (.ok .next) s1
   | some v=>wpAny (model prog w) A (letOwnedTupleGo target it v) (λ_ s2=>wpAny (model prog w) A (assign target env v) (λ_ s3=>
     wpAny (model prog w) A (forIn ifs true λc r=>if r=true then do let ok <-isTrue c env (eval c env);pure (ForInStep.yield ok) else pure (ForInStep.yield r)) (λok s4=>
      if ok=true then wpAny (model prog w) A (eval elt env) (λx s5=>wpAny (model prog w) A (call (.builtin "list.append") [acc,x]) (λ_ s6=>∃ m,m<n/\I m s6) E s5) E s4
      else ∃ m,m<n/\I m s4) E s3) E s2) E s1) E s)(n:Nat)(h:I n s):codeAny (model prog w) A (.compLoop (.ListComp elt [⟨target,iter,ifs,0⟩] scope pos) 0 it acc env) R s:=by
 refine codeAny_loop rfl I (λn s hI=>?_) n h
 refine wpAny_noted (env:=env) ?_
 rw[compTurn_list]
 refine wpAny_bind (wpAny_standAt (wpAny_bind ?_))
 refine wpAny_mono (turn n s _ hI) (λr s1 h1=>?_) λ_ _ e=>e
 cases r with
 | none=>exact wpAny_pure h1
 | some v=>
  refine wpAny_bind (wpAny_mono h1 (λ_ s2 h2=>?_) λ_ _ e=>e)
  refine wpAny_bind (wpAny_mono h2 (λ_ s3 h3=>?_) λ_ _ e=>e)
  refine wpAny_bind (wpAny_mono h3 (λok s4 h4=>?_) λ_ _ e=>e)
  cases ok with
  | false=>exact wpAny_pure ⟨rfl,h4⟩
  | true=>
   refine wpAny_bind (wpAny_bind (wpAny_mono h4 (λx s5 h5=>?_) λ_ _ e=>e))
   exact wpAny_bind (wpAny_mono h5 (λ_ s6 h6=>wpAny_pure (wpAny_pure ⟨rfl,h6⟩)) λ_ _ e=>e)
def zop (ms:List Bool)(wi:TI)(g:TG)(tt:TT)(te:TE):TE:=λσ H Q=>wi σ H λJ H1=>∀ D,H1 D=none->
 ∃ W:Nat->Nat->List V->Hp->Prop,(∃ m,W 0 m [] (upd H1 D (.lst [])))/\∀ i m ys H,W i m ys H->H D=some (.lst ys)/\
  ((J.stop i H/\Q (.ref D) H)\/(J.go i H/\ys.length<sizeLine/\∃ N:List V->Hp->Prop,(∀ ys' H',N ys' H'->∃ m',m'<m/\W (i+1) m' ys' H')/\
   ∀ x H',J.yld i H x H'->g x (zdv ms σ) H' λσ2 H2=>tt σ2 H2 λb H3=>if b=true then te σ2 H3 λy H4=>H4 D=some (.lst ys)/\N (ys++[y]) (upd H4 D (.lst (ys++[y]))) else N ys H3))
variable {Q:VK}{g:TG}{te:TE}{tt:TT}{wi:TI}{tg:Expr}
section

set_option maxHeartbeats 4000000 in
theorem zjD{RR:Value->Addr->Result->Shared->Prop}(hc:X.calm=true)(ok:COk X.env.scope X.N scope N' ms)(hi:PI X tg iter wi)(hg:∀ cl C fp s3 H3,PG (zbS X N' scope cl C fp s3 H3) tg g)(ht:∀ cl C fp s3 H3,PIfs (zbS X N' scope cl C fp s3 H3) ifs tt)(he:∀ cl C fp s3 H3,PE (zbS X N' scope cl C fp s3 H3) elt te)(I:Inv X pins σ H s)(h:zop ms wi g tt te σ H Q)(hRR:∀ D C H' s' m,s'.heap.Ns C m->Inv X pins σ H' s'->FpOk X pins H' C->Q (.ref D) H'->RR (.ref D) C (.ok .next) s'):
  wpAny (model X.prog X.w) X.A (eval iter X.env) (λx s1=>wpAny (model X.prog X.w) X.A (pyIter x) (λit s2=>wpAny (model X.prog X.w) X.A (newList []) (λacc s3=>
   wpAny (model X.prog X.w) X.A (newFunctionEnv scope X.env.globals (zcT X.env scope.names []) [] X.env.qual none .none (some X.env)) (λcenv s4=>
    codeAny (model X.prog X.w) X.A (.compStart (.ListComp elt [⟨tg,iter,ifs,0⟩] scope pos) 0 it acc {cenv with scope:=relabel scope X.env}) (RR acc cenv.locals) s4) X.xe s3) X.xe s2) X.xe s1) X.xe s:=by
 refine thn (hi pins s σ H _ I h) λv s1 h1=>thn h1 λitv s2 h2=>?_
 obtain⟨it,fp,tn,J,H2,e,I2,T,st2,f2,h2⟩:=h2
 subst e
 obtain⟨W,⟨m0,w0⟩,turn⟩:=h2 s2.heap.objs.size I2.fresh
 refine wpAny_newObj_type ?_
 have I3:=I2.lnew (ys:=[]) (its:=[]) (t':=s2.toks) .nil (Nat.zero_le _)
 generalize hs3:({s2 with heap:=s2.heap.push {cls:=.type "list",data:=.seq ([]:List Value).toArray},toks:=s2.toks} : Shared)=s3 at I3
 refine wpAny_newFunctionEnv ok.nocell (by intro y hy;simp at hy) (λh4 hn4 hs4=>?_) ok.kind
 have sz:s3.heap.objs.size=s2.heap.objs.size+1:=by rw[<-hs3];exact Heap.size_push ..
 have old2:∀ b o,s2.heap.get? b=some o->s3.heap.get? b=some o:=λb o e=>by rw[<-hs3];exact Heap.get?_push_of_some _ e
 have old:∀ b o,s3.heap.get? b=some o->h4.get? b=some o:=λb o e=>hs4.extBut b o (Nat.ne_of_lt (Heap.lt_size e)) (Heap.get?_push_of_some _ e)
 have fp2:∀ b∈fp,b<s2.heap.objs.size:=λb hb=>by
  obtain⟨o,ho,_⟩:=T.obj 0 _ st2 b hb
  exact Heap.lt_size ho
 have nD:∀ b∈fp,b≠s2.heap.objs.size:=λb hb=>Nat.ne_of_lt (fp2 b hb)
 have f3:∀ b∈fp,FpOk X pins (upd H2 s2.heap.objs.size (.lst [])) b/\b<s3.heap.objs.size:=λb hb=>by
  refine⟨⟨?_,(f2 b hb).2⟩,by rw[sz];exact Nat.lt_succ_of_lt (fp2 b hb)⟩
  rw[zai (nD b hb)];exact (f2 b hb).1
 have J4:Inv (zbS X N' scope (zcT X.env scope.names []) s3.heap.objs.size fp s3 (upd H2 s2.heap.objs.size (.lst []))) [] (zdv ms σ) (upd H2 s2.heap.objs.size (.lst [])) {s3 with heap:=h4,toks:=s3.toks+0}:=
  zl2 ok I3 f3 hn4 old
 have stat:∀ {H':Hp},(∀ b∈fp,H' b=none)->∀ b∈fp,FpOk (zbS X N' scope (zcT X.env scope.names []) s3.heap.objs.size fp s3 (upd H2 s2.heap.objs.size (.lst []))) [] H' b:=λhn b hb=>
  ⟨hn b hb,(J4.ok.exf b hb).1,J4.ok.exfs b hb,.inl hb,(J4.ok.exf b hb).2,λp hp=>absurd (show p∈([]:List (Addr × Obj)) from hp) (by simp)⟩
 have loop:codeAny (model X.prog X.w) X.A (.compLoop (.ListComp elt [⟨tg,iter,ifs,0⟩] scope pos) 0 (.ref it) (.ref s2.heap.objs.size) (compEnvC scope (zcT X.env scope.names []) s3.heap.objs.size X.env))
   (RR (.ref s2.heap.objs.size) s3.heap.objs.size) {s3 with heap:=h4,toks:=s3.toks+0}:=by
  refine znd (λn s'=>∃ i H' ys,Inv (zbS X N' scope (zcT X.env scope.names []) s3.heap.objs.size fp s3 (upd H2 s2.heap.objs.size (.lst []))) [] (zdv ms σ) H' s'/\tn i s'.heap/\(∀ b∈fp,H' b=none)/\W i n ys H') ?_ m0
   ⟨0,_,[],J4,T.keep 0 _ _ st2 λb hb o e=>old b o (old2 b o e),λb hb=>(f3 b hb).1.1,w0⟩
  rintro n s5 E ⟨i,H5,ys,J5,st5,fr5,w5⟩
  obtain⟨hD,alt⟩:=turn i n ys H5 w5
  rcases alt with ⟨stop,q⟩ | ⟨go,hz,N,hN,step⟩
  ·refine thn (T.done (zbS X N' scope (zcT X.env scope.names []) s3.heap.objs.size fp s3 (upd H2 s2.heap.objs.size (.lst []))) rfl rfl rfl hc i [] s5 _ H5 E J5 (stat fr5) st5 stop) λr s6 ⟨hr,J6⟩=>?_
   subst hr
   obtain⟨m,hn,_⟩:=id J6.loc
   have I6:=zjC I3 f3 J6
   refine hRR _ _ H5 s6 m hn I6 ?_ q
   have hC:H5 s3.heap.objs.size=none:=J6.free
   obtain⟨g0,g1,g2,g3,g4,g5⟩:=I3.fpOk (b:=s3.heap.objs.size) (H':=H5) (Nat.le_refl _) hC
   exact⟨g0,g1,g2,g3,g4,g5⟩
  ·refine thn (T.item (zbS X N' scope (zcT X.env scope.names []) s3.heap.objs.size fp s3 (upd H2 s2.heap.objs.size (.lst []))) rfl rfl rfl hc i [] s5 _ H5 E J5 (stat fr5) st5 go) λr s6 ⟨u,hr,h6⟩=>?_
   subst hr
   refine thn h6 λ_ s7 ⟨x,H7,J7,r7,y7,st7,fr7⟩=>?_
   have J7':=J7.pinned (stat fr7) (T.obj _ _ st7)
   have again:∀ {σ8:St}{H8:Hp}{s8:Shared}{zs:List V},Inv (zbS X N' scope (zcT X.env scope.names []) s3.heap.objs.size fp s3 (upd H2 s2.heap.objs.size (.lst []))) ([]++zjn fp s7.heap) σ8 H8 s8->N zs H8->
     ∃ m,m<n/\∃ i H' ys,Inv (zbS X N' scope (zcT X.env scope.names []) s3.heap.objs.size fp s3 (upd H2 s2.heap.objs.size (.lst []))) [] (zdv ms σ) H' s8/\tn i s8.heap/\(∀ b∈fp,H' b=none)/\W i m ys H':=λ{σ8 H8 s8 zs} J8 n8=>by
    obtain⟨m',hm,w8⟩:=hN zs H8 n8
    refine⟨m',hm,i+1,H8,zs,zl3 ok I3 f3 J8,T.keep _ _ _ st7 λb hb o e=>(J8.pin (b,o) (List.mem_append_right _ (List.mem_append_right _ (zeD hb e)))).1,λb hb=>?_,w8⟩
    obtain⟨o,e,d⟩:=T.obj _ _ st7 b hb
    exact (J8.pin (b,o) (List.mem_append_right _ (List.mem_append_right _ (zeD hb e)))).2.1
   refine wpAny_mono (hg _ _ _ _ _ _ s7 _ H7 x u _ J7' r7 (step x H7 y7)) (λ_ s8 ⟨σ8,H8,J8,q8⟩=>?_) λ_ _ z=>False.elim z
   refine wpAny_mono (ht _ _ _ _ _ _ s8 σ8 H8 _ J8 q8) (λb s9 ⟨H9,J9,q9⟩=>?_) λ_ _ z=>False.elim z
   cases b with
   | false=>exact again J9 q9
   | true=>
    refine wpAny_mono (he _ _ _ _ _ _ s9 σ8 H9 _ J9 q9) (λv s10 ⟨y,H10,J10,r10,hD10,q10⟩=>?_) λ_ _ z=>False.elim z
    refine wpAny_mono (zjx (X:=(zbS X N' scope (zcT X.env scope.names []) s3.heap.objs.size fp s3 (upd H2 s2.heap.objs.size (.lst [])))) _ s10 σ8 H10 (.ref s2.heap.objs.size) [y] (.ref s2.heap.objs.size) [v] (λ_ H'=>H'=upd H10 s2.heap.objs.size (.lst (ys++[y]))) J10 rfl (.cons r10 .nil) ⟨_,ys,y,rfl,rfl,hD10,hz,rfl⟩)
     (λ_ s11 ⟨_,H11,J11,_,e11⟩=>?_) λ_ _ z=>False.elim z
    subst e11
    exact again J11 q10
 exact codeAny_compStart_list loop (T.self _ 0 _ _ _ (T.keep 0 _ _ st2 λb hb o e=>old b o (old2 b o e)) loop)
theorem za6 (hc:X.calm=true)(ok:COk X.env.scope X.N scope N' ms)(hi:PI X tg iter wi)
  (hg:∀ cl C fp s3 H3,PG (zbS X N' scope cl C fp s3 H3) tg g) (ht:∀ cl C fp s3 H3,PIfs (zbS X N' scope cl C fp s3 H3) ifs tt) (he:∀ cl C fp s3 H3,PE (zbS X N' scope cl C fp s3 H3) elt te)
  (hs:∀ x,foldedSetIterable iter X.env x=pure x:=by intro _;rfl):PE X (.ListComp elt [⟨tg,iter,ifs,0⟩] scope pos) (zop ms wi g tt te):=by
 intro pins s σ H Q I h
 rw[eval_ListComp]
 refine wpAny_comprehension_free (use:=none) rfl hs (znc (ok.cells I.ok)) ok.kind ok.nm ?_
 refine zjD (RR:=λacc C=>compPost (model X.prog X.w) X.A X.xe none (EP X pins σ Q) acc C) hc ok hi hg ht he I h λD C H' s' m hn I' ⟨g0,g1,g2,g3,g4,g5⟩ q=>?_
 refine⟨m,hn,λh' sb=>⟨.ref D,H',?_,rfl,q⟩⟩
 exact I'.turned (t':=s'.toks) (λb o hb e=>sb.extBut b o hb e) g0 g1 g3 g4 g5
theorem zik{y:Str}{py spos:Pos}(hN:X.N.Nodup)(hy:X.N[i]?=some y)(hl:X.env.scope.names.lookup y=some .local)(hc:X.calm=true)(ok:COk X.env.scope X.N scope N' ms)(hi:PI X tg iter wi)(hg:∀ cl C fp s3 H3,PG (zbS X N' scope cl C fp s3 H3) tg g)(ht:∀ cl C fp s3 H3,PIfs (zbS X N' scope cl C fp s3 H3) ifs tt)(he:∀ cl C fp s3 H3,PE (zbS X N' scope cl C fp s3 H3) elt te)(hsw:swapsWith (.ListComp elt [⟨tg,iter,ifs,0⟩] scope pos) (some (.Name y py)) spos.line X.env=pure true:=by rfl)(hs:∀ x,foldedSetIterable iter X.env x=pure x:=by intro _;rfl):PS X (.Assign [.Name y py] (.ListComp elt [⟨tg,iter,ifs,0⟩] scope pos) spos) (tAsg (zop ms wi g tt te) (zn6 i)):=by
 intro pins s σ H D I h
 rw[exec_Assign_Name_used _ _ _ _ hsw]
 refine wpAny_bind (wpAny_standAt (wpAny_bind ?_))
 show wpAny _ _ (do let _ <-comprehension (.ListComp elt [⟨tg,iter,ifs,0⟩] scope pos) scope X.env _ (newList []) false (eval iter X.env) (some (assign (.Name y py) X.env))) _ _ s
 refine wpAny_bind (wpAny_mono (wpAny_comprehension_free (use:=some (assign (.Name y py) X.env)) (Q:=λ_ s'=>SP X pins D .next s') rfl hs (znc (ok.cells I.ok)) ok.kind ok.nm ?_) (λ_ s' q=>wpAny_pure (wpAny_pure q)) λ_ _ e=>e)
 refine zjD (RR:=λacc C=>compPost (model X.prog X.w) X.A X.xe (some (assign (.Name y py) X.env)) (λ_ s'=>SP X pins D .next s') acc C) hc ok hi hg ht he I h λDa C H' s' m hn I' ⟨g0,g1,g2,g3,g4,g5⟩ q=>?_
 show wpAny _ _ (assign (.Name y py) X.env (.ref Da)) _ _ s'
 refine wpAny_assign_Name (zjm I' hN hy (.inl hl) (show RelV (.ref Da) (.ref Da) from rfl) (λs'' I'' ⟨a,sa,ha⟩=>?_) (.inr hl))
 have hCa:C≠a:=by
  rcases ha with e | e
  ·rw[e];exact g1
  ·exact λz=>g4 y a e z.symm
 refine⟨m,hn.sameBut sa hCa,λh' sb=>⟨σ.set i (some (.ref Da)),H',?_,q⟩⟩
 exact I''.turned (t':=s''.toks) (λb o hb e=>sb.extBut b o hb e) g0 g1 g3 g4 g5
end

section
variable {t':Nat}
theorem Inv.turnedN {ch:List Addr}(I:Inv X pins σ H s)(hch:∀ b∈ch,FpOk X pins H b)(k:∀ b o,b∉ch->s.heap.get? b=some o->h'.get? b=some o):Inv X pins σ H {s with heap:=h',toks:=t'}:=by
 have nit:∀ b u,H b=some u->b∉ch:=λb u e z=>by rw[(hch b z).1] at e;cases e
 refine I.step (g':=s.gens) (d':=s.drawn) (ch:=ch) (λb hb=>?_) (λb o _ _ hc e _=>k b o hc e) (λb o _ _ hc e _=>⟨o.slots,k b o hc e⟩) (λ_ _ _ _ n=>n) (λb o hc e=>⟨o,k b o hc e⟩) (λ_ _ e=>e) (λ_ _ _ e=>e)
  (λb ps e=>⟨#[],by rw[e];simp⟩) (λm hm=>?_) (λb u e=>?_) I.bare
 ·obtain⟨_,f1,_,f3,f4,f5⟩:=hch b hb
  exact⟨f3,f1,f4,f5⟩
 ·obtain⟨o,es,ep,ho,r⟩:=hm
  exact⟨o,es,ep,k _ o (λz=>(hch _ z).2.1 rfl) ho,r⟩
 ·refine (I.hok b u e).stay (λc v hc q=>k c v ?_ q) (λ_ q=>q) λ_ _ q=>q
  rcases hc with z | z
  ·rw[z];exact nit b u e
  ·exact nit c _ z
end

variable {b:Addr}
theorem zl4{h:Heap}{o u:Obj}(e1:h.get? a=some o)(e2:h.get? b=some u)(d:o.cls≠u.cls):a≠b:=λz=>by
 subst z;rw[e1] at e2;cases e2;exact d rfl
variable {T:String}
theorem zen{h:Heap}{its:Array Value}{u:Obj}(e1:h.IsList a its)(e2:h.get? b=some u)(c:u.cls=.type T)(d:T≠ "list"):a≠b:=by
 obtain⟨o,ho,hc,_⟩:=e1
 refine zl4 ho e2 ?_
 rw[hc,c]
 intro z
 injection z with z
 exact d z.symm
def Itz (K:Fg)(a b:Addr):It:=
  ⟨λi H=>∃ xs ys x y,SqL K H a xs/\SqL K H b ys/\xs[i]?=some x/\ys[i]?=some y,
   λi H v H'=>∃ T,H T=none/\v=.ref T/\∀ xs ys x y,SqL K H a xs->SqL K H b ys->xs[i]?=some x->ys[i]?=some y->H'=upd H T (.tup [x,y]),
   λi H=>∃ xs ys,SqL K H a xs/\SqL K H b ys/\(xs[i]?=none\/ys[i]?=none)⟩
structure Zap (z TI TO i1 i2:Addr):Prop where
 a1:TI≠z
 a2:TO≠z
 a3:i1≠z
 a4:i2≠z
 a5:TI≠TO
 a6:TI≠i1
 a7:TI≠i2
 a8:TO≠i1
 a9:TO≠i2
 a10:i1≠i2
theorem zp9 (n:Nat):Zap (n+4) (n+2) (n+3) n (n+1):=by constructor <;> (show (_:Nat)≠_;omega)
def zrx (z TI TO i1 i2 a b:Addr)(i:Nat)(h:Heap):Prop:=IsZip h z TI TO .none/\IsPair h TI (.ref i1) (.ref i2)/\(∃ p q,IsPair h TO p q)/\h.IsListIter i1 a i/\h.IsListIter i2 b i
variable {z i1 i2:Addr}
theorem zpq{h:Heap}{TI TO:Addr}{xs ys:Array Value}(D:Zap z TI TO i1 i2)(t:zrx z TI TO i1 i2 a b i h)(hx:h.IsList a xs)(hy:h.IsList b ys):ZipApart z TI TO i1 i2 a b:=by
 obtain⟨hz,hI,⟨p,q,hO⟩,⟨o1,e1,c1,_⟩,⟨o2,e2,c2,_⟩⟩:=t
 exact⟨D.a1,D.a2,D.a3,D.a4,D.a5,D.a6,D.a7,D.a8,D.a9,D.a10,zen hx hz rfl (by decide),zen hx hO rfl (by decide),zen hx e1 c1 (by decide),zen hx e2 c2 (by decide),zen hy hz rfl (by decide),zen hy hO rfl (by decide),zen hy e1 c1 (by decide),zen hy e2 c2 (by decide)⟩
variable {elts:List Expr}{kx:Nat}{tpos:Pos}
theorem zoq{TI TO:Addr}(a b:Addr)(D:Zap z TI TO i1 i2):
  Turn P w K (.Tuple elts kx tpos) (Itz K a b) [z,TI,TO,i1,i2] z (zrx z TI TO i1 i2 a b) where
 mem:=by simp
 obj:=λi h st c hb=>by
  obtain⟨hz,hI,⟨p,q,hO⟩,⟨o1,e1,c1,d1⟩,⟨o2,e2,c2,d2⟩⟩:=st
  simp only[List.mem_cons,List.not_mem_nil,or_false] at hb
  rcases hb with rfl | rfl | rfl | rfl | rfl
  ·exact⟨_,hz,λv x=>by cases x⟩
  ·exact⟨_,hI,λv x=>by cases x⟩
  ·exact⟨_,hO,λv x=>by cases x⟩
  ·exact⟨_,e1,λv x=>by rw[d1] at x;cases x⟩
  ·exact⟨_,e2,λv x=>by rw[d2] at x;cases x⟩
 keep:=λi h h' st k=>by
  obtain⟨hz,hI,⟨p,q,hO⟩,h1,h2⟩:=st
  exact⟨k z (by simp) _ hz,k TI (by simp) _ hI,⟨p,q,k TO (by simp) _ hO⟩,h1.at λo e=>k i1 (by simp) o e,h2.at λo e=>k i2 (by simp) o e⟩
 item:=by
  intro X hP hw hK hc i pins s σ H E I hf st hg
  subst hP hw hK
  obtain⟨xs,ys,x,y,hx,hy,ex,ey⟩:=hg
  obtain⟨its,rx,px,zx⟩:=I.list hx
  obtain⟨jts,ry,py,zy⟩:=I.list hy
  obtain⟨u,eu,ru⟩:=rx.get ex
  obtain⟨v,ev,rv⟩:=ry.get ey
  have Z:=zpq D st px.isList py.isList
  obtain⟨hz,hI,⟨p,q,hO⟩,h1,h2⟩:=id st
  refine wpAny_pyNext_zip_item Z hz hI hO h1 h2 px.isList py.isList (x:=u) (y:=v) (by simpa using eu) (by simpa using ev) λh' z1 o1 l1 l2 t1 sz k1=>?_
  refine⟨_,rfl,wpAny_letOwnedTupleGo_zip (s:={s with heap:=h'}) z1 λh'' z2 sb=>?_⟩
  have nT:H s.heap.objs.size=none:=I.hok.fresh (Nat.le_refl _)
  have IT:Inv X pins σ (upd H s.heap.objs.size (.tup [x,y])) {s with heap:=s.heap.push {cls:=.type "tuple",data:=.seq #[u,v]},toks:=s.toks}:=
   I.laid (λb o e=>Heap.get?_push_of_some _ e) (Nat.le_refl _) (show zbU X.prog X.w _ _ _ (.tup [x,y]) from ⟨by show 2<=sizeLine;decide,[u,v],.cons ru (.cons rv .nil),IsTup.new _ _⟩)
  have nz:z≠s.heap.objs.size:=Nat.ne_of_lt (Heap.lt_size hz)
  have fT:∀ c∈[z,TI,TO,i1,i2],FpOk X pins (upd H s.heap.objs.size (.tup [x,y])) c:=λc hcm=>by
   obtain⟨g0,gr⟩:=hf c hcm
   refine⟨?_,gr⟩
   obtain⟨o,ho,_⟩:∃ o,s.heap.get? c=some o/\True:=by
    simp only[List.mem_cons,List.not_mem_nil,or_false] at hcm
    rcases hcm with rfl | rfl | rfl | rfl | rfl
    ·exact⟨_,hz,trivial⟩
    ·exact⟨_,hI,trivial⟩
    ·exact⟨_,hO,trivial⟩
    ·obtain⟨o,e,_⟩:=h1;exact⟨o,e,trivial⟩
    ·obtain⟨o,e,_⟩:=h2;exact⟨o,e,trivial⟩
   rw[zai (Nat.ne_of_lt (Heap.lt_size ho))]
   exact g0
  have up:∀ c o,c∉[z,TI,TO,i1,i2]->(s.heap.push {cls:=.type "tuple",data:=.seq #[u,v]}).get? c=some o->h''.get? c=some o:=λc o hn e=>by
   simp only[List.mem_cons,List.not_mem_nil,or_false,not_or] at hn
   refine sb.extBut c o hn.1 ?_
   by_cases hcs:c=s.heap.objs.size
   ·subst hcs
    rw[Heap.get?_push_size _ rfl] at e
    cases e
    exact t1
   ·refine k1 c o hn.1 hn.2.2.1 hn.2.2.2.1 hn.2.2.2.2 ?_
    rw[Heap.get?_push_ne _ _ _ hcs] at e
    exact e
  refine⟨.ref s.heap.objs.size,_,IT.turnedN (h':=h'') (t':=s.toks) fT up,rfl,⟨_,nT,rfl,λxs' ys' x' y' q1 q2 q3 q4=>?_⟩,?_,λc hcm=>(fT c hcm).1⟩
  ·rw[I.list_inj q1 hx,ex] at q3
   rw[I.list_inj q2 hy,ey] at q4
   cases q3;cases q4;rfl
  ·refine⟨z2,sb.extBut _ _ D.a1 (k1 _ _ D.a1 D.a5 D.a6 D.a7 hI),⟨_,_,sb.extBut _ _ D.a2 o1⟩,l1.extBut sb.extBut D.a3,l2.extBut sb.extBut D.a4⟩
 done:=by
  intro X hP hw hK hc i pins s σ H E I hf st hg
  subst hP hw hK
  obtain⟨xs,ys,hx,hy,en⟩:=hg
  obtain⟨its,rx,px,zx⟩:=I.list hx
  obtain⟨jts,ry,py,zy⟩:=I.list hy
  have Z:=zpq D st px.isList py.isList
  obtain⟨hz,hI,⟨p,q,hO⟩,h1,h2⟩:=id st
  have en':its.toArray[i]?=none\/jts.toArray[i]?=none:=by
   rcases en with e | e
   ·exact .inl (by simpa using rx.none_of e)
   ·exact .inr (by simpa using ry.none_of e)
  exact wpAny_pyNext_zip_end (I.ok.hd hc) Z hz hI hO h1 h2 px.isList py.isList en' λh' k1=>⟨rfl,I.turnedN (t':=s.toks) hf λc o hn e=>by
   simp only[List.mem_cons,List.not_mem_nil,or_false,not_or] at hn
   exact k1 c o hn.1 hn.2.2.1 hn.2.2.2.1 hn.2.2.2.2 e⟩
 self:=λ_ _ _ _ _ st h=>wpAny_pyIter_zip st.1 h
def iZip (K:Fg)(ta:TA):TI:=λσ H R=>ta σ H λvs H1=>∃ a b,vs=[.ref a,.ref b]/\(∃ xs,SqL K H1 a xs)/\(∃ ys,SqL K H1 b ys)/\R (Itz K a b) H1
theorem zor:bootBuiltins "zip"=some (.type "zip"):=by decide +kernel
theorem zhO:bootBuiltins "enumerate"=some (.type "enumerate"):=by decide +kernel
variable {p:Pos}
section
theorem zry{a b:Expr}{ta:TA}(hg:Gl X "zip")(hm:X.mg "zip"=none)(ha:PA X [a,b] ta)(hs:starEach [a,b] X.env=[(false,eval a X.env),(false,eval b X.env)]:=by rfl)(hs2:starEach [b] X.env=[(false,eval b X.env)]:=by rfl):
  PI X (.Tuple elts kx tpos) (.Call (.Name "zip" p) [a,b] [] pos) (iZip X.K ta):=by
 intro pins s σ H R I h
 refine Call_ (zid I hg hm zor (PyProof.Rows.callWith_type1 (thn (ha pos pins s σ H _ I h) λus s1 ⟨vs,H1,I1,r1,q1⟩=>?_) (by rw[hs,hs2]) (by rw[hs2];rfl)))
 obtain⟨l1,l2,e,⟨xs,hx⟩,⟨ys,hy⟩,q⟩:=q1
 subst e
 obtain⟨u,v,e,ru,rv⟩:=r1.two
 subst e
 cases ru;cases rv
 obtain⟨its,rx,px,zx⟩:=I1.list hx
 obtain⟨jts,ry,py,zy⟩:=I1.list hy
 refine call_zip_2 px.isList py.isList λh' z1 p1 p2 i1 i2 sz k=>?_
 refine wpAny_pyIter_zip (s:={s1 with heap:=h'}) z1 ?_
 have I2:Inv X pins σ H1 {s1 with heap:=h',toks:=s1.toks}:=I1.kept k
 have D:=zp9 s1.heap.objs.size
 refine⟨_,_,_,_,H1,rfl,I2,zoq l1 l2 D,⟨z1,p1,⟨_,_,p2⟩,i1,i2⟩,λc hc=>?_,q⟩
 have le:s1.heap.objs.size<=c:=by
  simp only[List.mem_cons,List.not_mem_nil,or_false] at hc
  first
   | (rcases hc with rfl | rfl | rfl | rfl | rfl <;> first | exact Nat.le_refl _ | exact Nat.le_add_right _ _)
   | (rcases hc with rfl | rfl <;> first | exact Nat.le_refl _ | exact Nat.le_add_right _ _)
 exact I1.fpOk le (I1.hok.fresh le)
end

def Itn (K:Fg)(a:Addr):It:=
  ⟨λi H=>∃ xs x,SqL K H a xs/\xs[i]?=some x,
   λi H v H'=>∃ T,H T=none/\v=.ref T/\∀ xs x,SqL K H a xs->xs[i]?=some x->H'=upd H T (.tup [.int i,x]),
   λi H=>∃ xs,SqL K H a xs/\xs.length<=i⟩
def zrz (e it a:Addr)(i:Nat)(h:Heap):Prop:=(∃ old,IsEnum h e it ((i:Nat):Int) old)/\h.IsListIter it a i
theorem zne{e it:Addr}(a:Addr)(D:e≠it):
  Turn P w K (.Tuple elts kx tpos) (Itn K a) [e,it] e (zrz e it a) where
 mem:=by simp
 obj:=λi h st c hb=>by
  obtain⟨⟨old,he⟩,⟨o1,e1,c1,d1⟩⟩:=st
  simp only[List.mem_cons,List.not_mem_nil,or_false] at hb
  rcases hb with rfl | rfl
  ·exact⟨_,he,λv x=>by cases x⟩
  ·exact⟨_,e1,λv x=>by rw[d1] at x;cases x⟩
 keep:=λi h h' st k=>by
  obtain⟨⟨old,he⟩,h1⟩:=st
  exact⟨⟨old,k e (by simp) _ he⟩,h1.at λo e=>k it (by simp) o e⟩
 item:=by
  intro X hP hw hK hc i pins s σ H E I hf st hg
  subst hP hw hK
  obtain⟨xs,x,hx,ex⟩:=hg
  obtain⟨its,rx,px,zx⟩:=I.list hx
  obtain⟨u,eu,ru⟩:=rx.get ex
  obtain⟨⟨old,he⟩,h1⟩:=id st
  refine wpAny_pyNext_enum_item he h1 px.isList (x:=u) (by simpa using eu) D λh' z1 l1 t1 sz k1=>?_
  refine⟨_,rfl,wpAny_letOwnedTupleGo_enum (s:={s with heap:=h',toks:=s.toks+1}) z1 λh'' z2 sb=>?_⟩
  have nT:H s.heap.objs.size=none:=I.hok.fresh (Nat.le_refl _)
  have IT:Inv X pins σ (upd H s.heap.objs.size (.tup [.int i,x])) {s with heap:=s.heap.push {cls:=.type "tuple",data:=.seq #[.int i s.toks,u]},toks:=s.toks}:=
   I.laid (λb o e=>Heap.get?_push_of_some _ e) (Nat.le_refl _) (show zbU X.prog X.w _ _ _ (.tup [.int i,x]) from ⟨by show 2<=sizeLine;decide,[.int i s.toks,u],.cons ⟨_,rfl⟩ (.cons ru .nil),IsTup.new _ _⟩)
  have fT:∀ c∈[e,it],FpOk X pins (upd H s.heap.objs.size (.tup [.int i,x])) c:=λc hcm=>by
   obtain⟨g0,gr⟩:=hf c hcm
   refine⟨?_,gr⟩
   obtain⟨o,ho,_⟩:∃ o,s.heap.get? c=some o/\True:=by
    simp only[List.mem_cons,List.not_mem_nil,or_false] at hcm
    rcases hcm with rfl | rfl
    ·exact⟨_,he,trivial⟩
    ·obtain⟨o,e,_⟩:=h1;exact⟨o,e,trivial⟩
   rw[zai (Nat.ne_of_lt (Heap.lt_size ho))]
   exact g0
  have up:∀ c o,c∉[e,it]->(s.heap.push {cls:=.type "tuple",data:=.seq #[.int i s.toks,u]}).get? c=some o->h''.get? c=some o:=λc o hn e2=>by
   simp only[List.mem_cons,List.not_mem_nil,or_false,not_or] at hn
   refine sb.extBut c o hn.1 ?_
   by_cases hcs:c=s.heap.objs.size
   ·subst hcs
    rw[Heap.get?_push_size _ rfl] at e2
    cases e2
    exact t1
   ·refine k1 c o hn.1 hn.2 ?_
    rw[Heap.get?_push_ne _ _ _ hcs] at e2
    exact e2
  refine⟨.ref s.heap.objs.size,_,IT.turnedN (h':=h'') (t':=s.toks+1) fT up,rfl,⟨_,nT,rfl,λxs' x' q1 q3=>?_⟩,?_,λc hcm=>(fT c hcm).1⟩
  ·rw[I.list_inj q1 hx,ex] at q3
   cases q3;rfl
  ·refine⟨⟨_,by rw[show (((i+1:Nat):Nat):Int)=(i:Int)+1 by omega];exact z2⟩,l1.extBut sb.extBut (Ne.symm D)⟩
 done:=by
  intro X hP hw hK hc i pins s σ H E I hf st hg
  subst hP hw hK
  obtain⟨xs,hx,en⟩:=hg
  obtain⟨its,rx,px,zx⟩:=I.list hx
  obtain⟨⟨old,he⟩,h1⟩:=id st
  have hl:=rx.length
  exact wpAny_pyNext_enum_end (I.ok.hd hc) he h1 px.isList (by simp;omega) λh' k1=>⟨rfl,I.turnedN (t':=s.toks) hf λc o hn e2=>by
   simp only[List.mem_cons,List.not_mem_nil,or_false,not_or] at hn
   exact k1 c o hn.2 e2⟩
 self:=λ_ _ _ _ _ st h=>by
  obtain⟨⟨old,he⟩,_⟩:=st
  exact wpAny_pyIter_enum he h
def zqa (K:Fg)(ta:TA):TI:=λσ H R=>ta σ H λvs H1=>∃ a xs,vs=[.ref a]/\H1 a=some (.lst xs)/\R (Itn K a) H1
section
theorem zqb{a:Expr}{ta:TA}(hg:Gl X "enumerate")(hm:X.mg "enumerate"=none)(ha:PA X [a] ta)(hs:starEach [a] X.env=[(false,eval a X.env)]:=by rfl):
  PI X (.Tuple elts kx tpos) (.Call (.Name "enumerate" p) [a] [] pos) (zqa X.K ta):=by
 intro pins s σ H R I h
 refine Call_ (zid I hg hm zhO (PyProof.Rows.callWith_type1 (thn (ha pos pins s σ H _ I h) λus s1 ⟨vs,H1,I1,r1,q1⟩=>?_) hs rfl))
 obtain⟨l1,xs,e,hx,q⟩:=q1
 subst e
 obtain⟨u,e,ru⟩:=zhM r1
 subst e
 cases ru
 obtain⟨z,its,n,r,hl,e⟩:=I1.lstM hx
 refine call_enumerate_1 e λh' z1 i1 sz k=>?_
 refine wpAny_pyIter_enum (s:={s1 with heap:=h'}) z1 ?_
 have I2:Inv X pins σ H1 {s1 with heap:=h',toks:=s1.toks}:=I1.kept k
 refine⟨_,_,_,_,H1,rfl,I2,zne l1 (e:=s1.heap.objs.size+1) (it:=s1.heap.objs.size) (Nat.succ_ne_self _),⟨⟨_,z1⟩,i1⟩,λc hc=>?_,q⟩
 have le:s1.heap.objs.size<=c:=by
  simp only[List.mem_cons,List.not_mem_nil,or_false] at hc
  first
   | (rcases hc with rfl | rfl | rfl | rfl | rfl <;> first | exact Nat.le_refl _ | exact Nat.le_add_right _ _)
   | (rcases hc with rfl | rfl <;> first | exact Nat.le_refl _ | exact Nat.le_add_right _ _)
 exact I1.fpOk le (I1.hok.fresh le)
end

section
theorem zjE{bs:List Bool}{its:List Value}(r:Vals (bs.map V.bl) its){v:Value}(e:its[i]?=some v):∃ b,bs[i]?=some b/\v=.bool b:=by
 have hl:=r.length
 rw[zlm] at hl
 have hi:i<bs.length:=by
  have:=(zge.mp e).1
  omega
 obtain⟨u,hu,ru⟩:=r.get (i:=i) (x:=V.bl bs[i]) (by simp[hi])
 rw[e] at hu;cases hu
 exact⟨bs[i],by simp[hi],ru⟩
theorem znf{bs:List Bool}(h:n=bs.length):(List.range n).all (λi=>bs[i]?.getD false)=bs.all id:=by
 subst h
 rw[Bool.eq_iff_iff]
 simp only[List.all_eq_true,List.mem_range,id]
 constructor
 ·intro q x hx
  obtain⟨i,hi,rfl⟩:=List.getElem_of_mem hx
  have:=q i hi
  simpa [hi] using this
 ·intro q i hi
  simpa [hi] using q bs[i] (List.getElem_mem hi)
theorem zng{bs:List Bool}(h:n=bs.length):(List.range n).any (λi=>bs[i]?.getD false)=bs.any id:=by
 subst h
 rw[Bool.eq_iff_iff]
 simp only[List.any_eq_true,List.mem_range,id]
 constructor
 ·rintro⟨i,hi,q⟩
  exact⟨bs[i],List.getElem_mem hi,by simpa [hi] using q⟩
 ·rintro⟨x,hx,q⟩
  obtain⟨i,hi,rfl⟩:=List.getElem_of_mem hx
  exact⟨i,hi,by simpa [hi] using q⟩
theorem zos (hc:X.calm=true):zb3 X (.builtin "all") (λxs H Q=>∃ (p:Addr) (bs:List Bool),xs=[.ref p]/\SqL X.K H p (bs.map V.bl)/\Q (.bl (bs.all id)) H):=by
 intro pins s σ H xs us Q I r h
 obtain⟨p,bs,rfl,hq,q⟩:=h
 obtain⟨u,rfl,rx⟩:=zhM r
 cases rx
 obtain⟨its,rv,pl,hz⟩:=I.list hq
 have hl:=rv.length
 rw[zlm] at hl
 refine call_all_walk (wpAny_pyIter_list pl.isList ?_)
 have hne:p≠s.heap.objs.size:=by
  obtain⟨o,ho,_⟩:=pl.isList
  exact Nat.ne_of_lt (Heap.lt_size ho)
 refine⟨s.heap.objs.size,_,_,_,_,_,λi=>bs[i]?.getD false,rfl,Walks.list (show X.A.in1.handled=none from I.ok.hd hc) s.heap.objs.size p hne its.toArray,⟨⟨_,Heap.get?_push_size _ rfl,rfl,rfl⟩,Heap.IsList.push pl.isList _⟩,λi v s' Q' E' hP hQ=>?_,λh' tk hk=>?_⟩
 ·obtain⟨b,hb,rfl⟩:=zjE rv (i:=i) (v:=v) (by simpa using hP)
  refine wpAny_truthy_bool ?_
  simpa [hb] using hQ
 ·rw[znf (by rw[zst];exact hl.symm)]
  refine⟨.bl _,H,I.kept λb o e=>hk b o ?_ (Heap.get?_push_of_some _ e),rfl,q⟩
  simp only[List.mem_cons,List.not_mem_nil,or_false]
  exact Nat.ne_of_lt (Heap.lt_size e)
theorem zot (hc:X.calm=true):zb3 X (.builtin "any") (λxs H Q=>∃ (p:Addr) (bs:List Bool),xs=[.ref p]/\SqL X.K H p (bs.map V.bl)/\Q (.bl (bs.any id)) H):=by
 intro pins s σ H xs us Q I r h
 obtain⟨p,bs,rfl,hq,q⟩:=h
 obtain⟨u,rfl,rx⟩:=zhM r
 cases rx
 obtain⟨its,rv,pl,hz⟩:=I.list hq
 have hl:=rv.length
 rw[zlm] at hl
 refine call_any_walk (wpAny_pyIter_list pl.isList ?_)
 have hne:p≠s.heap.objs.size:=by
  obtain⟨o,ho,_⟩:=pl.isList
  exact Nat.ne_of_lt (Heap.lt_size ho)
 refine⟨s.heap.objs.size,_,_,_,_,_,λi=>bs[i]?.getD false,rfl,Walks.list (show X.A.in1.handled=none from I.ok.hd hc) s.heap.objs.size p hne its.toArray,⟨⟨_,Heap.get?_push_size _ rfl,rfl,rfl⟩,Heap.IsList.push pl.isList _⟩,λi v s' Q' E' hP hQ=>?_,λh' tk hk=>?_⟩
 ·obtain⟨b,hb,rfl⟩:=zjE rv (i:=i) (v:=v) (by simpa using hP)
  refine wpAny_truthy_bool ?_
  simpa [hb] using hQ
 ·rw[zng (by rw[zst];exact hl.symm)]
  refine⟨.bl _,H,I.kept λb o e=>hk b o ?_ (Heap.get?_push_of_some _ e),rfl,q⟩
  simp only[List.mem_cons,List.not_mem_nil,or_false]
  exact Nat.ne_of_lt (Heap.lt_size e)
end
open PySem.SeqAt

inductive D where
 | non | bl (b:Bool) | int (i:Int) | str (x:Str) | lst (xs:List D) | tup (xs:List D)
mutual
def dep:D->Nat
 | .lst xs=>deps xs+1
 | .tup xs=>deps xs+1
 | _=>0
def deps:List D->Nat
 | []=>0
 | d::ds=>max (dep d) (deps ds)
end
mutual
def pyEq:D->D->Bool
 | .non,.non=>true
 | .bl a,.bl b=>a == b
 | .int a,.int b=>a == b
 | .bl a,.int b=>(if a then 1 else 0) == b
 | .int a,.bl b=>a == (if b then 1 else 0)
 | .str a,.str b=>a == b
 | .lst xs,.lst ys=>zb0 xs ys
 | .tup xs,.tup ys=>zb0 xs ys
 | _,_=>false
def zb0:List D->List D->Bool
 | [],[]=>true
 | x::xs,y::ys=>pyEq x y && zb0 xs ys
 | _,_=>false
end
mutual
def Rep (K:Fg)(H:Hp):D->V->Prop
 | .non,v=>v=.non
 | .bl b,v=>v=.bl b
 | .int i,v=>v=.int i
 | .str x,v=>v=.str x
 | .lst ds,v=>∃ a xs,v=.ref a/\SqL K H a xs/\Reps K H ds xs
 | .tup ds,v=>∃ a xs,v=.ref a/\SqT K H a xs/\Reps K H ds xs
def Reps (K:Fg)(H:Hp):List D->List V->Prop
 | [],vs=>vs=[]
 | d::ds,vs=>∃ v r,vs=v::r/\Rep K H d v/\Reps K H ds r
end
theorem zfj:∀ {ds:List D}{d:D},d∈ds->dep d<=deps ds
 | d::ds,e,h=>by
  rcases List.mem_cons.mp h with h | h
  ·subst h;unfold deps;exact Nat.le_max_left _ _
  ·have:=zfj h
   unfold deps
   exact Nat.le_trans this (Nat.le_max_right _ _)
theorem Reps.length: ∀ {ds:List D}{vs:List V},Reps K H ds vs->ds.length=vs.length
 | [],vs,h=>by unfold Reps at h;subst h;rfl
 | d::ds,vs,h=>by
  unfold Reps at h
  obtain⟨v,r,rfl,_,h⟩:=h
  simp[Reps.length h]
theorem Reps.get: ∀ {ds:List D}{vs:List V}{i:Nat}{d:D},Reps K H ds vs->ds[i]?=some d->∃ v,vs[i]?=some v/\Rep K H d v
 | [],vs,i,d,h,e=>by simp at e
 | c::ds,vs,i,d,h,e=>by
  unfold Reps at h
  obtain⟨v,r,rfl,h1,h⟩:=h
  cases i with
  | zero=>simp at e;subst e;exact⟨v,rfl,h1⟩
  | succ i=>
   obtain⟨w,e1,e2⟩:=Reps.get h (show ds[i]?=some d by simpa using e)
   exact⟨w,by simpa using e1,e2⟩
variable {vs:List V}{ds:List D}
theorem Reps.get'(h:Reps K H ds vs)(e:vs[i]?=some v):∃ d,ds[i]?=some d/\Rep K H d v:=by
 have hl:=h.length
 have hi:=(zge.mp e).1
 obtain⟨w,e1,e2⟩:=h.get (i:=i) (d:=ds[i]) (by simp)
 rw[e] at e1;cases e1
 exact⟨ds[i],by simp,e2⟩
theorem Reps.of: ∀ {ds:List D}{vs:List V},ds.length=vs.length->(∀ (i:Nat) d v,ds[i]?=some d->vs[i]?=some v->Rep K H d v)->Reps K H ds vs
 | [],[],_,_=>by unfold Reps;rfl
 | d::ds,v::vs,hl,h=>by
  unfold Reps
  exact⟨v,vs,rfl,h 0 d v rfl rfl,Reps.of (by simpa using hl) λi e w e1 e2=>h (i+1) e w (by simpa using e1) (by simpa using e2)⟩
theorem Reps.ints: ∀ {ns:List Int}{vs:List V},Reps K H (ns.map D.int) vs↔vs=ns.map V.int
 | [],vs=>by unfold List.map Reps;rfl
 | n::ns,vs=>by
  rw[zmc]
  unfold Reps
  constructor
  ·rintro⟨v,r,rfl,h1,h⟩
   unfold Rep at h1
   subst h1
   rw[Reps.ints.mp h];rfl
  ·rintro rfl
   exact⟨_,_,rfl,by unfold Rep;rfl,Reps.ints.mpr rfl⟩
theorem Same.tup(e:Same H H')(h:SqT K H a xs):SqT K H' a xs:=by
 rcases h with (h | ⟨o,h⟩) | h
 ·exact .inl (.inl (e _ _ h))
 ·exact .inl (.inr ⟨o,e _ _ h⟩)
 ·exact .inr h
mutual
theorem Rep.same {K:Fg}{H H':Hp}(e:Same H H'):∀ (d:D) {v:V},Rep K H d v->Rep K H' d v
 | .non,_,h=>by unfold Rep at *;exact h
 | .bl _,_,h=>by unfold Rep at *;exact h
 | .int _,_,h=>by unfold Rep at *;exact h
 | .str _,_,h=>by unfold Rep at *;exact h
 | .lst ds,_,h=>by
  unfold Rep at *
  obtain⟨a,xs,h1,h2,h3⟩:=h
  exact⟨a,xs,h1,e.seq h2,Reps.same e ds h3⟩
 | .tup ds,_,h=>by
  unfold Rep at *
  obtain⟨a,xs,h1,h2,h3⟩:=h
  exact⟨a,xs,h1,e.tup h2,Reps.same e ds h3⟩
theorem Reps.same {K:Fg}{H H':Hp}(e:Same H H'):∀ (ds:List D) {vs:List V},Reps K H ds vs->Reps K H' ds vs
 | [],_,h=>by unfold Reps at *;exact h
 | d::ds,_,h=>by
  unfold Reps at *
  obtain⟨v,r,h1,h2,h3⟩:=h
  exact⟨v,r,h1,Rep.same e d h2,Reps.same e ds h3⟩
end

mutual
theorem zeo:∀ d:D,pyEq d d=true
 | .non=>by unfold pyEq;rfl
 | .bl _=>by unfold pyEq;simp
 | .int _=>by unfold pyEq;simp
 | .str _=>by unfold pyEq;simp
 | .lst ds=>by unfold pyEq;exact zfQ ds
 | .tup ds=>by unfold pyEq;exact zfQ ds
theorem zfQ:∀ ds:List D,zb0 ds ds=true
 | []=>by unfold zb0;rfl
 | d::ds=>by unfold zb0;rw[zeo d,zfQ ds];rfl
end
theorem zep:∀ {xs ys:List D},zb0 xs ys=true->xs.length=ys.length
 | [],[],_=>rfl
 | [],_::_,h=>by unfold zb0 at h;cases h
 | _::_,[],h=>by unfold zb0 at h;cases h
 | x::xs,y::ys,h=>by
  unfold zb0 at h
  rw[Bool.and_eq_true] at h
  simp[zep h.2]
theorem zeq:∀ {xs ys:List D},xs.length=ys.length->(List.range xs.length).all (λj=>pyEq (xs.getD j .non) (ys.getD j .non))=zb0 xs ys
 | [],[],_=>by unfold zb0;rfl
 | x::xs,y::ys,h=>by
  have ih:=zeq (xs:=xs) (ys:=ys) (by simpa using h)
  unfold zb0
  rw[List.length_cons,List.range_succ_eq_map,List.all_cons,List.all_map,<-ih]
  rfl
theorem zfR:∀ {ms ns:List Int},zb0 (ms.map D.int) (ns.map D.int)=decide (ms=ns)
 | [],[]=>by unfold List.map zb0;rfl
 | [],_::_=>by rw[zmc];unfold List.map zb0;simp
 | _::_,[]=>by rw[zmc];unfold List.map zb0;simp
 | m::ms,n::ns=>by
  rw[zmc,zmc]
  unfold zb0 pyEq
  rw[zfR,Bool.eq_iff_iff]
  simp
mutual
theorem Rep.inj {X:Cx}{pins:List (Addr × Obj)}{σ:St}{H:Hp}{s:Shared}(I:Inv X pins σ H s):∀ (d e:D) {v:V},Rep X.K H d v->Rep X.K H e v->d=e
 | .non,e,v,h,q=>by unfold Rep at h;subst h;cases e <;> unfold Rep at q <;> first | rfl | (cases q;done) | (obtain⟨_,_,q,_⟩:=q;cases q)
 | .bl _,e,v,h,q=>by unfold Rep at h;subst h;cases e <;> unfold Rep at q <;> first | (cases q;rfl) | (cases q;done) | (obtain⟨_,_,q,_⟩:=q;cases q)
 | .int _,e,v,h,q=>by unfold Rep at h;subst h;cases e <;> unfold Rep at q <;> first | (cases q;rfl) | (cases q;done) | (obtain⟨_,_,q,_⟩:=q;cases q)
 | .str _,e,v,h,q=>by unfold Rep at h;subst h;cases e <;> unfold Rep at q <;> first | (cases q;rfl) | (cases q;done) | (obtain⟨_,_,q,_⟩:=q;cases q)
 | .lst ds,e,v,h,q=>by
  unfold Rep at h
  obtain⟨a,xs,rfl,h1,h2⟩:=h
  cases e with
  | lst es=>
   unfold Rep at q
   obtain⟨b,ys,e1,q1,q2⟩:=q
   cases e1
   cases I.list_inj h1 q1
   rw[Reps.inj I ds es h2 q2]
  | tup es=>
   unfold Rep at q
   obtain⟨b,ys,e1,q1,q2⟩:=q
   cases e1
   obtain⟨_,_,p1,_⟩:=I.list h1
   obtain⟨_,_,p2,_⟩:=I.tuple q1
   exact absurd rfl (ne_of_list_tuple (s:=s) p1.isList p2)
  | _=>unfold Rep at q;cases q
 | .tup ds,e,v,h,q=>by
  unfold Rep at h
  obtain⟨a,xs,rfl,h1,h2⟩:=h
  cases e with
  | tup es=>
   unfold Rep at q
   obtain⟨b,ys,e1,q1,q2⟩:=q
   cases e1
   cases I.tuple_inj h1 q1
   rw[Reps.inj I ds es h2 q2]
  | lst es=>
   unfold Rep at q
   obtain⟨b,ys,e1,q1,q2⟩:=q
   cases e1
   obtain⟨_,_,p1,_⟩:=I.list q1
   obtain⟨_,_,p2,_⟩:=I.tuple h1
   exact absurd rfl (ne_of_list_tuple (s:=s) p1.isList p2)
  | _=>unfold Rep at q;cases q
theorem Reps.inj {X:Cx}{pins:List (Addr × Obj)}{σ:St}{H:Hp}{s:Shared}(I:Inv X pins σ H s):∀ (ds es:List D) {vs:List V},Reps X.K H ds vs->Reps X.K H es vs->ds=es
 | [],es,vs,h,q=>by
  unfold Reps at h;subst h
  cases es with
  | nil=>rfl
  | cons e es=>unfold Reps at q;obtain⟨_,_,q,_⟩:=q;cases q
 | d::ds,es,vs,h,q=>by
  unfold Reps at h
  obtain⟨v,r,rfl,h1,h2⟩:=h
  cases es with
  | nil=>unfold Reps at q;cases q
  | cons e es=>
   unfold Reps at q
   obtain⟨w,r',e1,q1,q2⟩:=q
   cases e1
   rw[Rep.inj I d e h1 q1,Reps.inj I ds es h2 q2]
end

variable {y:V}{ys:List V}{d:D}{us:List Value}
section
variable {x:V}
theorem ziK(h:Rep X.K H d x)(f:zeJ x=true):(∃ b,d=.bl b/\x=.bl b)\/(∃ i,d=.int i/\x=.int i)\/(∃ z,d=.str z/\x=.str z)\/(d=.non/\x=.non):=by
 cases d with
 | non=>unfold Rep at h;exact .inr (.inr (.inr ⟨rfl,h⟩))
 | bl b=>unfold Rep at h;exact .inl ⟨b,rfl,h⟩
 | int b=>unfold Rep at h;exact .inr (.inl ⟨b,rfl,h⟩)
 | str b=>unfold Rep at h;exact .inr (.inr (.inl ⟨b,rfl,h⟩))
 | lst ds=>unfold Rep at h;obtain⟨a,xs,rfl,_⟩:=h;cases f
 | tup ds=>unfold Rep at h;obtain⟨a,xs,rfl,_⟩:=h;cases f
variable {e:D}
theorem zou(h:Rep X.K H d x)(q:Rep X.K H e y)(fx:zeJ x=true)(fy:zeJ y=true):eqV x y=pyEq d e:=by
 rcases ziK h fx with ⟨b,rfl,rfl⟩ | ⟨b,rfl,rfl⟩ | ⟨b,rfl,rfl⟩ | ⟨rfl,rfl⟩ <;> rcases ziK q fy with ⟨c,rfl,rfl⟩ | ⟨c,rfl,rfl⟩ | ⟨c,rfl,rfl⟩ | ⟨rfl,rfl⟩ <;> unfold pyEq eqV <;> rfl
theorem zgF{es:List D}{vs:List Value}(hd:Reps X.K H ds xs)(he:Reps X.K H es ys)(ru:Vals xs us)(rv:Vals ys vs)(ih:∀ (d e:D) (x y:V) (u v:Value),d∈ds->Rep X.K H d x->Rep X.K H e y->RelV x u->RelV y v->EqAt A s u v (pyEq d e)):
  ∀ j (h1:j<us.toArray.size) (h2:j<vs.toArray.size),EqAt A s us.toArray[j] vs.toArray[j] (pyEq (ds.getD j .non) (es.getD j .non)):=by
 intro j h1 h2
 simp only[zst] at h1 h2
 have l1:=hd.length
 have l2:=he.length
 have l3:=ru.length
 have l4:=rv.length
 have j1:j<ds.length:=by omega
 have j2:j<es.length:=by omega
 obtain⟨x,ex,rx⟩:=hd.get (i:=j) (d:=ds[j]) (by simp[j1])
 obtain⟨y,ey,ry⟩:=he.get (i:=j) (d:=es[j]) (by simp[j2])
 obtain⟨u,eu,ru'⟩:=ru.get ex
 obtain⟨v,ev,rv'⟩:=rv.get ey
 have e1:us.toArray[j]=u:=by
  obtain⟨_,q⟩:=zge.mp eu
  simpa using q
 have e2:vs.toArray[j]=v:=by
  obtain⟨_,q⟩:=zge.mp ev
  simpa using q
 rw[e1,e2,show ds.getD j .non=ds[j] by simp[List.getD,j1],show es.getD j .non=es[j] by simp[List.getD,j2]]
 exact ih _ _ x y u v (List.getElem_mem j1) rx ry ru' rv'
theorem zpr (I:Inv X pins σ H s):∀ (n:Nat) (d e:D) (A:Around) (x y:V) (u v:Value),dep d<=n->A.units+n<cLine->Rep X.K H d x->Rep X.K H e y->RelV x u->RelV y v->EqAt A s u v (pyEq d e):=by
 intro n
 induction n with
 | zero=>
  intro d e A x y u v hn hu hd he ru rv
  have fx:zeJ x=true:=by
   cases d with
   | non=>unfold Rep at hd;subst hd;rfl
   | bl b=>unfold Rep at hd;subst hd;rfl
   | int b=>unfold Rep at hd;subst hd;rfl
   | str b=>unfold Rep at hd;subst hd;rfl
   | lst ds=>unfold dep at hn;omega
   | tup ds=>unfold dep at hn;omega
  by_cases fy:zeJ y=true
  ·rw[<-zou hd he fx fy]
   exact zpf ru rv fx fy
  ·cases e with
   | non=>unfold Rep at he;subst he;exact absurd rfl fy
   | bl b=>unfold Rep at he;subst he;exact absurd rfl fy
   | int b=>unfold Rep at he;subst he;exact absurd rfl fy
   | str b=>unfold Rep at he;subst he;exact absurd rfl fy
   | lst es=>
    unfold Rep at he
    obtain⟨a,ys,rfl,hq,_⟩:=he
    cases rv
    obtain⟨_,_,p,_⟩:=I.list hq
    rcases ziK hd fx with ⟨b,rfl,rfl⟩ | ⟨b,rfl,rfl⟩ | ⟨b,rfl,rfl⟩ | ⟨rfl,rfl⟩
    ·cases ru;unfold pyEq;exact EqAt.bool_list b p.isList (by omega)
    ·obtain⟨t,rfl⟩:=ru;unfold pyEq;exact EqAt.int_list b t p.isList (by omega)
    ·obtain⟨t,rfl⟩:=ru;unfold pyEq;exact EqAt.str_list b t p.isList (by omega)
    ·cases ru;unfold pyEq;exact EqAt.none_list p.isList (by omega)
   | tup es=>
    unfold Rep at he
    obtain⟨a,ys,rfl,hq,_⟩:=he
    cases rv
    obtain⟨_,_,p,_⟩:=I.tuple hq
    rcases ziK hd fx with ⟨b,rfl,rfl⟩ | ⟨b,rfl,rfl⟩ | ⟨b,rfl,rfl⟩ | ⟨rfl,rfl⟩
    ·cases ru;unfold pyEq;exact EqAt.bool_tuple b p (by omega)
    ·obtain⟨t,rfl⟩:=ru;unfold pyEq;exact EqAt.int_tuple b t p (by omega)
    ·obtain⟨t,rfl⟩:=ru;unfold pyEq;exact EqAt.str_tuple b t p (by omega)
    ·cases ru;unfold pyEq;exact EqAt.none_tuple p (by omega)
 | succ n ih=>
  intro d e A x y u v hn hu hd he ru rv
  by_cases h0:dep d<=n
  ·exact ih d e A x y u v h0 (by omega) hd he ru rv
  ·cases d with
   | non=>unfold dep at h0;omega
   | bl b=>unfold dep at h0;omega
   | int b=>unfold dep at h0;omega
   | str b=>unfold dep at h0;omega
   | lst ds=>
    unfold dep at hn
    have hd0:=hd
    unfold Rep at hd
    obtain⟨a,xs,rfl,hx,rx⟩:=hd
    cases ru
    obtain⟨its,vx,px,zx⟩:=I.list hx
    cases e with
    | non=>unfold Rep at he;subst he;cases rv;unfold pyEq;exact EqAt.list_none px.isList (by omega)
    | bl b=>unfold Rep at he;subst he;cases rv;unfold pyEq;exact EqAt.list_bool b px.isList (by omega)
    | int b=>unfold Rep at he;subst he;obtain⟨t,rfl⟩:=rv;unfold pyEq;exact EqAt.list_int b t px.isList (by omega)
    | str b=>unfold Rep at he;subst he;obtain⟨t,rfl⟩:=rv;unfold pyEq;exact EqAt.list_str b t px.isList (by omega)
    | tup es=>
     unfold Rep at he
     obtain⟨b,ys,rfl,hy,ry⟩:=he
     cases rv
     obtain⟨jts,vy,py,zy⟩:=I.tuple hy
     unfold pyEq
     exact EqAt.list_tuple px.isList py (by omega)
    | lst es=>
     have he0:=he
     unfold Rep at he
     obtain⟨b,ys,rfl,hy,ry⟩:=he
     cases rv
     obtain⟨jts,vy,py,zy⟩:=I.list hy
     by_cases hab:a=b
     ·subst hab
      rw[Rep.inj I _ _ hd0 he0,zeo]
      exact EqAt.same _
     ·refine EqAt.of_refs hab ?_
      unfold pyEq
      have l1:=rx.length
      have l2:=ry.length
      have l3:=vx.length
      have l4:=vy.length
      by_cases hl:ds.length=es.length
      ·have q:=RcAt.lists (A:=A) (e:=λj=>pyEq (ds.getD j .non) (es.getD j .non)) px.isList py.isList (by simp only[zst];omega) (by omega)
        (zgF rx ry vx vy λd e x y u v hm h1 h2 h3 h4=>ih d e A.in1 x y u v (Nat.le_trans (zfj hm) (by omega)) (by show A.units+1+n<cLine;omega) h1 h2 h3 h4)
       rw[show its.toArray.size=ds.length by rw[zst];omega,zeq hl] at q
       exact q
      ·rw[show zb0 ds es=false by
        cases h:zb0 ds es with
        | false=>rfl
        | true=>exact absurd (zep h) hl]
       exact RcAt.lists_lengths px.isList py.isList (by simp only[zst,bne_iff_ne];omega) (by omega)
   | tup ds=>
    unfold dep at hn
    have hd0:=hd
    unfold Rep at hd
    obtain⟨a,xs,rfl,hx,rx⟩:=hd
    cases ru
    obtain⟨its,vx,px,zx⟩:=I.tuple hx
    cases e with
    | non=>unfold Rep at he;subst he;cases rv;unfold pyEq;exact EqAt.tuple_none px (by omega)
    | bl b=>unfold Rep at he;subst he;cases rv;unfold pyEq;exact EqAt.tuple_bool b px (by omega)
    | int b=>unfold Rep at he;subst he;obtain⟨t,rfl⟩:=rv;unfold pyEq;exact EqAt.tuple_int b t px (by omega)
    | str b=>unfold Rep at he;subst he;obtain⟨t,rfl⟩:=rv;unfold pyEq;exact EqAt.tuple_str b t px (by omega)
    | lst es=>
     unfold Rep at he
     obtain⟨b,ys,rfl,hy,ry⟩:=he
     cases rv
     obtain⟨jts,vy,py,zy⟩:=I.list hy
     unfold pyEq
     exact EqAt.tuple_list px py.isList (by omega)
    | tup es=>
     have he0:=he
     unfold Rep at he
     obtain⟨b,ys,rfl,hy,ry⟩:=he
     cases rv
     obtain⟨jts,vy,py,zy⟩:=I.tuple hy
     by_cases hab:a=b
     ·subst hab
      rw[Rep.inj I _ _ hd0 he0,zeo]
      exact EqAt.same _
     ·refine EqAt.of_refs hab ?_
      unfold pyEq
      have l1:=rx.length
      have l2:=ry.length
      have l3:=vx.length
      have l4:=vy.length
      have q:=RcAt.tuples (A:=A) (e:=λj=>pyEq (ds.getD j .non) (es.getD j .non)) px py (by omega)
        (zgF rx ry vx vy λd e x y u v hm h1 h2 h3 h4=>ih d e A.in1 x y u v (Nat.le_trans (zfj hm) (by omega)) (by show A.units+1+n<cLine;omega) h1 h2 h3 h4)
      by_cases hl:ds.length=es.length
      ·rw[show min its.toArray.size jts.toArray.size=ds.length by rw[zst,zst];omega,zeq hl,show (its.toArray.size == jts.toArray.size)=true by rw[zst,zst,beq_iff_eq];omega,Bool.and_true] at q
       exact q
      ·rw[show zb0 ds es=false by
        cases h:zb0 ds es with
        | false=>rfl
        | true=>exact absurd (zep h) hl]
       rw[show (its.toArray.size == jts.toArray.size)=false by rw[zst,zst,beq_eq_false_iff_ne];omega,Bool.and_false] at q
       exact q
theorem zps(I:Inv X pins σ H s)(hn:dep d<=n)(hu:A.units+n<cLine)(hd:Rep X.K H d (.ref a))(he:Rep X.K H e (.ref b)):RcAt A s (.ref a) (.ref b) (pyEq d e)/\RcNeAt A s (.ref a) (.ref b) (!pyEq d e):=by
 cases d with
 | non=>unfold Rep at hd;cases hd
 | bl _=>unfold Rep at hd;cases hd
 | int _=>unfold Rep at hd;cases hd
 | str _=>unfold Rep at hd;cases hd
 | lst ds=>
  unfold dep at hn
  unfold Rep at hd
  obtain⟨_,xs,e1,hx,rx⟩:=hd
  cases e1
  obtain⟨its,vx,px,zx⟩:=I.list hx
  cases e with
  | non=>unfold Rep at he;cases he
  | bl _=>unfold Rep at he;cases he
  | int _=>unfold Rep at he;cases he
  | str _=>unfold Rep at he;cases he
  | tup es=>
   unfold Rep at he
   obtain⟨_,ys,e1,hy,ry⟩:=he
   cases e1
   obtain⟨jts,vy,py,zy⟩:=I.tuple hy
   unfold pyEq
   exact⟨RcAt.list_tuple px.isList py (by omega),RcNeAt.list_tuple px.isList py (by omega)⟩
  | lst es=>
   unfold Rep at he
   obtain⟨_,ys,e1,hy,ry⟩:=he
   cases e1
   obtain⟨jts,vy,py,zy⟩:=I.list hy
   unfold pyEq
   have l1:=rx.length
   have l2:=ry.length
   have l3:=vx.length
   have l4:=vy.length
   by_cases hl:ds.length=es.length
   ·have it:=zgF (s:=s) (A:=A.in1) rx ry vx vy λd e x y u v hm h1 h2 h3 h4=>zpr I (n - 1) d e A.in1 x y u v (Nat.le_trans (zfj hm) (by omega)) (by show A.units+1+(n - 1)<cLine;omega) h1 h2 h3 h4
    have q:=RcAt.lists (A:=A) px.isList py.isList (by simp only[zst];omega) (by omega) it
    have q2:=RcNeAt.lists (A:=A) px.isList py.isList (by simp only[zst];omega) (by omega) it
    rw[show its.toArray.size=ds.length by rw[zst];omega,zeq hl] at q q2
    exact⟨q,q2⟩
   ·rw[show zb0 ds es=false by
     cases h:zb0 ds es with
     | false=>rfl
     | true=>exact absurd (zep h) hl]
    exact⟨RcAt.lists_lengths px.isList py.isList (by simp only[zst,bne_iff_ne];omega) (by omega),RcNeAt.lists_lengths px.isList py.isList (by simp only[zst,bne_iff_ne];omega) (by omega)⟩
 | tup ds=>
  unfold dep at hn
  unfold Rep at hd
  obtain⟨_,xs,e1,hx,rx⟩:=hd
  cases e1
  obtain⟨its,vx,px,zx⟩:=I.tuple hx
  cases e with
  | non=>unfold Rep at he;cases he
  | bl _=>unfold Rep at he;cases he
  | int _=>unfold Rep at he;cases he
  | str _=>unfold Rep at he;cases he
  | lst es=>
   unfold Rep at he
   obtain⟨_,ys,e1,hy,ry⟩:=he
   cases e1
   obtain⟨jts,vy,py,zy⟩:=I.list hy
   unfold pyEq
   exact⟨RcAt.tuple_list px py.isList (by omega),RcNeAt.tuple_list px py.isList (by omega)⟩
  | tup es=>
   unfold Rep at he
   obtain⟨_,ys,e1,hy,ry⟩:=he
   cases e1
   obtain⟨jts,vy,py,zy⟩:=I.tuple hy
   unfold pyEq
   have l1:=rx.length
   have l2:=ry.length
   have l3:=vx.length
   have l4:=vy.length
   have it:=zgF (s:=s) (A:=A.in1) rx ry vx vy λd e x y u v hm h1 h2 h3 h4=>zpr I (n - 1) d e A.in1 x y u v (Nat.le_trans (zfj hm) (by omega)) (by show A.units+1+(n - 1)<cLine;omega) h1 h2 h3 h4
   have q:=RcAt.tuples (A:=A) px py (by omega) it
   have q2:=RcNeAt.tuples (A:=A) px py (by omega) it
   by_cases hl:ds.length=es.length
   ·rw[show min its.toArray.size jts.toArray.size=ds.length by rw[zst,zst];omega,zeq hl,show (its.toArray.size == jts.toArray.size)=true by rw[zst,zst,beq_iff_eq];omega,Bool.and_true] at q q2
    exact⟨q,q2⟩
   ·rw[show zb0 ds es=false by
     cases h:zb0 ds es with
     | false=>rfl
     | true=>exact absurd (zep h) hl]
    rw[show (its.toArray.size == jts.toArray.size)=false by rw[zst,zst,beq_eq_false_iff_ne];omega,Bool.and_false] at q q2
    exact⟨q,q2⟩
end

def rEqD (K:Fg)(neg:Bool):R2:=λx y H Q=>∃ a b d e,x=.ref a/\y=.ref b/\Rep K H d (.ref a)/\Rep K H e (.ref b)/\dep d<=60/\Q (.bl (if neg then !pyEq d e else pyEq d e)) H
section
variable {k:Nat}
theorem zrA (hr:Room k X.A):OpR X (compareOp .Eq) (rEqD X.K false):=by
 intro pins s σ H x y v u Q I rx ry h
 obtain⟨a,b,d,e,rfl,rfl,hd,he,hn,q⟩:=h
 cases rx;cases ry
 exact (zps I (A:=X.A) hn (by have:=hr.units;omega) hd he).1 X.prog X.w X.xe _ ⟨.bl _,H,I,rfl,q⟩
theorem zrB (hr:Room k X.A):OpR X (compareOp .NotEq) (rEqD X.K true):=by
 intro pins s σ H x y v u Q I rx ry h
 obtain⟨a,b,d,e,rfl,rfl,hd,he,hn,q⟩:=h
 cases rx;cases ry
 exact (zps I (A:=X.A) hn (by have:=hr.units;omega) hd he).2 X.prog X.w X.xe _ ⟨.bl _,H,I,rfl,q⟩
theorem zkH:zb3 X (.builtin "isinstance") (λxs H Q=>∃ x c t b,xs=[x,.ty c]/\TyOf X.K H x t/\PySem.W.kitOne X.K t (.type c)=some b/\Q (.bl b) H):=by
 intro pins s σ H xs us Q I r h
 obtain⟨x,c,t,b,rfl,ty,e,q⟩:=h
 obtain⟨u,v,rfl,ru,rv⟩:=zoc r
 cases rv
 exact zmS I ru ty e λtk=>⟨.bl b,H,I.tok tk,rfl,q⟩
end

mutual
def RepF (H:Hp):D->V->List Addr->Prop
 | .non,v,fp=>v=.non/\fp=[]
 | .bl b,v,fp=>v=.bl b/\fp=[]
 | .int i,v,fp=>v=.int i/\fp=[]
 | .str x,v,fp=>v=.str x/\fp=[]
 | .lst ds,v,fp=>∃ a xs r,v=.ref a/\fp=a::r/\H a=some (.lst xs)/\zaj H ds xs r
 | .tup ds,v,fp=>∃ a xs,v=.ref a/\H a=some (.tup xs)/\zaj H ds xs fp
def zaj (H:Hp):List D->List V->List Addr->Prop
 | [],vs,fp=>vs=[]/\fp=[]
 | d::ds,vs,fp=>∃ v r f g,vs=v::r/\fp=f++g/\RepF H d v f/\zaj H ds r g
end
mutual
theorem RepF.rep {K:Fg}{H:Hp} : ∀ (d:D) {v:V}{fp:List Addr},RepF H d v fp->Rep K H d v
 | .non,_,_,h=>by unfold RepF at h;unfold Rep;exact h.1
 | .bl _,_,_,h=>by unfold RepF at h;unfold Rep;exact h.1
 | .int _,_,_,h=>by unfold RepF at h;unfold Rep;exact h.1
 | .str _,_,_,h=>by unfold RepF at h;unfold Rep;exact h.1
 | .lst ds,_,_,h=>by
  unfold RepF at h;unfold Rep
  obtain⟨a,xs,r,h1,_,h2,h3⟩:=h
  exact⟨a,xs,h1,SqL.of h2,zaj.reps ds h3⟩
 | .tup ds,_,_,h=>by
  unfold RepF at h;unfold Rep
  obtain⟨a,xs,h1,h2,h3⟩:=h
  exact⟨a,xs,h1,SqT.of h2,zaj.reps ds h3⟩
theorem zaj.reps {K:Fg}{H:Hp} : ∀ (ds:List D) {vs:List V}{fp:List Addr},zaj H ds vs fp->Reps K H ds vs
 | [],_,_,h=>by unfold zaj at h;unfold Reps;exact h.1
 | d::ds,_,_,h=>by
  unfold zaj at h;unfold Reps
  obtain⟨v,r,f,g,h1,_,h2,h3⟩:=h
  exact⟨v,r,h1,RepF.rep d h2,zaj.reps ds h3⟩
end
def Tups (H H':Hp):Prop:=∀ b xs,H b=some (.tup xs)->H' b=some (.tup xs)
theorem Same.tups(e:Same H H'):Tups H H':=λ_ _ h=>e _ _ h
theorem Tups.trans(a:Tups H H1)(b:Tups H1 H2):Tups H H2:=λc o h=>b c o (a c o h)
variable {o:HO}
theorem zgG(h:∀ xs,H a≠some (.tup xs)):Tups H (upd H a o):=λb xs e=>by rw[zai (λz=>h xs (by rw[<-z];exact e))];exact e
theorem zc8(h:H a=some (.lst ys)):Tups H (upd H a o):=zgG λxs e=>by rw[h] at e;cases e
mutual
theorem RepF.frame {H H':Hp}(tk:Tups H H'):∀ (d:D) {v:V}{fp:List Addr},(∀ a∈fp,H' a=H a)->RepF H d v fp->RepF H' d v fp
 | .non,_,_,_,h=>by unfold RepF at *;exact h
 | .bl _,_,_,_,h=>by unfold RepF at *;exact h
 | .int _,_,_,_,h=>by unfold RepF at *;exact h
 | .str _,_,_,_,h=>by unfold RepF at *;exact h
 | .lst ds,_,_,k,h=>by
  unfold RepF at *
  obtain⟨a,xs,r,h1,h0,h2,h3⟩:=h
  subst h0
  exact⟨a,xs,r,h1,rfl,(k a List.mem_cons_self).trans h2,zaj.frame tk ds (λb hb=>k b (List.mem_cons_of_mem _ hb)) h3⟩
 | .tup ds,_,_,k,h=>by
  unfold RepF at *
  obtain⟨a,xs,h1,h2,h3⟩:=h
  exact⟨a,xs,h1,tk _ _ h2,zaj.frame tk ds k h3⟩
theorem zaj.frame {H H':Hp}(tk:Tups H H'):∀ (ds:List D) {vs:List V}{fp:List Addr},(∀ a∈fp,H' a=H a)->zaj H ds vs fp->zaj H' ds vs fp
 | [],_,_,_,h=>by unfold zaj at *;exact h
 | d::ds,_,_,k,h=>by
  unfold zaj at *
  obtain⟨v,r,f,g,h1,h0,h2,h3⟩:=h
  subst h0
  exact⟨v,r,f,g,h1,rfl,RepF.frame tk d (λb hb=>k b (List.mem_append_left _ hb)) h2,zaj.frame tk ds (λb hb=>k b (List.mem_append_right _ hb)) h3⟩
end
mutual
theorem RepF.has {H:Hp} : ∀ (d:D) {v:V}{fp:List Addr},RepF H d v fp->∀ a∈fp,∃ o,H a=some o
 | .non,_,_,h,a,m=>by unfold RepF at h;rw[h.2] at m;cases m
 | .bl _,_,_,h,a,m=>by unfold RepF at h;rw[h.2] at m;cases m
 | .int _,_,_,h,a,m=>by unfold RepF at h;rw[h.2] at m;cases m
 | .str _,_,_,h,a,m=>by unfold RepF at h;rw[h.2] at m;cases m
 | .lst ds,_,_,h,b,m=>by
  unfold RepF at h
  obtain⟨a,xs,r,h1,h0,h2,h3⟩:=h
  subst h0
  rcases List.mem_cons.mp m with m | m
  ·subst m;exact⟨_,h2⟩
  ·exact zaj.has ds h3 b m
 | .tup ds,_,_,h,b,m=>by
  unfold RepF at h
  obtain⟨a,xs,h1,h2,h3⟩:=h
  exact zaj.has ds h3 b m
theorem zaj.has {H:Hp} : ∀ (ds:List D) {vs:List V}{fp:List Addr},zaj H ds vs fp->∀ a∈fp,∃ o,H a=some o
 | [],_,_,h,a,m=>by unfold zaj at h;rw[h.2] at m;cases m
 | d::ds,_,_,h,b,m=>by
  unfold zaj at h
  obtain⟨v,r,f,g,h1,h0,h2,h3⟩:=h
  subst h0
  rcases zma.mp m with m | m
  ·exact RepF.has d h2 b m
  ·exact zaj.has ds h3 b m
end
theorem zaj.length: ∀ {ds:List D}{vs:List V}{fp:List Addr},zaj H ds vs fp->ds.length=vs.length
 | [],_,_,h=>by unfold zaj at h;rw[h.1];rfl
 | d::ds,_,_,h=>by
  unfold zaj at h
  obtain⟨v,r,f,g,rfl,_,_,h3⟩:=h
  simp[zaj.length h3]
theorem zaj.snoc: ∀ {ds:List D}{vs:List V}{fp:List Addr}{d:D}{v:V}{f:List Addr},zaj H ds vs fp->RepF H d v f->zaj H (ds++[d]) (vs++[v]) (fp++f)
 | [],_,_,d,v,f,h,q=>by
  unfold zaj at h
  obtain⟨rfl,rfl⟩:=h
  show zaj H [d] [v] ([]++f)
  unfold zaj
  exact⟨v,[],f,[],rfl,by simp,q,by unfold zaj;exact⟨rfl,rfl⟩⟩
 | c::ds,_,_,d,v,f,h,q=>by
  unfold zaj at h
  obtain⟨u,r,f1,g1,rfl,rfl,h2,h3⟩:=h
  rw[List.cons_append,List.cons_append,List.append_assoc]
  unfold zaj
  exact⟨u,_,f1,_,rfl,rfl,h2,zaj.snoc h3 q⟩
theorem zaj.ints: ∀ {ns:List Int},zaj H (ns.map D.int) (ns.map V.int) []
 | []=>by unfold List.map zaj;exact⟨rfl,rfl⟩
 | n::ns=>by
  rw[zmc,zmc]
  unfold zaj
  exact⟨_,_,[],[],rfl,rfl,by unfold RepF;exact⟨rfl,rfl⟩,zaj.ints⟩
theorem zaj.ints_eq: ∀ {ns:List Int}{vs:List V}{fp:List Addr},zaj H (ns.map D.int) vs fp->vs=ns.map V.int/\fp=[]
 | [],_,_,h=>by unfold List.map zaj at h;exact h
 | n::ns,_,_,h=>by
  rw[zmc] at h
  unfold zaj at h
  obtain⟨v,r,f,g,rfl,rfl,h1,h2⟩:=h
  unfold RepF at h1
  obtain⟨rfl,rfl⟩:=h1
  obtain⟨rfl,rfl⟩:=zaj.ints_eq h2
  exact⟨rfl,rfl⟩
theorem ziL:∀ ns:List Int,dep (.lst (ns.map D.int))<=1
 | []=>by unfold List.map dep deps;exact Nat.le_refl _
 | n::ns=>by
  have ih:=ziL ns
  unfold dep at ih ⊢
  rw[zmc]
  unfold deps dep
  omega
def New (H H':Hp)(d:D)(v:V):Prop:=∃ fp,RepF H' d v fp/\fp.Nodup/\∀ a∈fp,H a=none
abbrev nums (ns:List Int):D:=.lst (ns.map D.int)
theorem New.rep(h:New H H' d v):Rep K H' d v:=let ⟨_,h,_⟩:=h;RepF.rep d h
variable {i:Int}
theorem New.int: New H H' (.int i) (.int i):=⟨[],by unfold RepF;exact⟨rfl,rfl⟩,List.nodup_nil,λ_ m=>by cases m⟩
theorem New.bl{i:Bool}: New H H' (.bl i) (.bl i):=⟨[],by unfold RepF;exact⟨rfl,rfl⟩,List.nodup_nil,λ_ m=>by cases m⟩
theorem New.str{i:Str}: New H H' (.str i) (.str i):=⟨[],by unfold RepF;exact⟨rfl,rfl⟩,List.nodup_nil,λ_ m=>by cases m⟩
theorem New.non: New H H' .non .non:=⟨[],by unfold RepF;exact⟨rfl,rfl⟩,List.nodup_nil,λ_ m=>by cases m⟩
variable {H0:Hp}
theorem New.back(e:Same H0 H)(h:New H H' d v):New H0 H' d v:=by
 obtain⟨fp,h1,h2,h3⟩:=h
 exact⟨fp,h1,h2,λa m=>e.free (h3 a m)⟩
theorem New.same(e:Same H' H2)(h:New H H' d v):New H H2 d v:=by
 obtain⟨fp,h1,h2,h3⟩:=h
 refine⟨fp,RepF.frame e.tups d (λa m=>?_) h1,h2,h3⟩
 obtain⟨o,ho⟩:=RepF.has d h1 a m
 rw[ho,e a o ho]
theorem New.iif: New H H' (nums ns) v↔∃ a,v=.ref a/\H a=none/\H' a=some (.lst (ns.map V.int)):=by
 constructor
 ·rintro⟨fp,h1,h2,h3⟩
  unfold RepF at h1
  obtain⟨a,xs,r,e1,e2,e3,e4⟩:=h1
  obtain⟨rfl,rfl⟩:=zaj.ints_eq e4
  subst e2
  exact⟨a,e1,h3 a List.mem_cons_self,e3⟩
 ·rintro⟨a,e1,e2,e3⟩
  refine⟨[a],?_,by simp,λb m=>by rw[zms.mp m];exact e2⟩
  unfold RepF
  exact⟨a,_,[],e1,rfl,e3,zaj.ints⟩
theorem zbd: Rep K H (nums ns) v↔∃ a,v=.ref a/\SqL K H a (ns.map V.int):=by
 unfold Rep
 constructor
 ·rintro⟨a,xs,e1,e2,e3⟩
  rw[Reps.ints.mp e3] at e2
  exact⟨a,e1,e2⟩
 ·rintro⟨a,e1,e2⟩
  exact⟨a,_,e1,e2,Reps.ints.mpr rfl⟩
theorem zah{p:Addr}(h:H p=none)(o:HO):Same H (upd H p o):=λb u q=>by rw[zai (zao q h)];exact q
theorem New.lst(h:zaj H' ds vs fp)(nd:fp.Nodup)(hf:∀ b∈fp,H1 b=none)(ha:H1 a=none)(na:a∉fp)(hH:H' a=some (.lst vs)):New H1 H' (.lst ds) (.ref a):=by
 refine⟨a::fp,?_,List.nodup_cons.mpr ⟨na,nd⟩,λb m=>?_⟩
 ·unfold RepF;exact⟨a,vs,fp,rfl,rfl,hH,h⟩
 ·rcases List.mem_cons.mp m with m | m
  ·subst m;exact ha
  ·exact hf b m
theorem New.tup(h:zaj H' ds vs fp)(nd:fp.Nodup)(hf:∀ b∈fp,H1 b=none)(hH:H' a=some (.tup vs)):New H1 H' (.tup ds) (.ref a):=by
 refine⟨fp,?_,nd,hf⟩
 unfold RepF;exact⟨a,vs,rfl,hH,h⟩
structure Goes (J:It)(H1:Hp)(n:Nat)(P:Nat->V->Hp->Prop):Prop where
 go:∀ i H,i<n->Same H1 H->J.go i H
 stop:∀ H,Same H1 H->J.stop n H
 yld:∀ i H x H',i<n->Same H1 H->J.yld i H x H'->Same H H'/\P i x H'
theorem zaZ(h:SqL K H1 a xs):Goes (Itl K a) H1 xs.length (λi x _=>xs[i]?=some x) where
 go:=λi H hi e=>⟨xs,xs[i],e.seq h,by simp[hi]⟩
 stop:=λH e=>⟨xs,e.seq h,Nat.le_refl _⟩
 yld:=λi H x H' hi e q=>by
  obtain⟨rfl,q⟩:=q
  exact⟨Same.refl _,q xs (e.seq h)⟩
theorem zfk(h:SqT K H1 a xs):Goes (Itt K a) H1 xs.length (λi x _=>xs[i]?=some x) where
 go:=λi H hi e=>⟨xs,xs[i],e.tup h,by simp[hi]⟩
 stop:=λH e=>⟨xs,e.tup h,Nat.le_refl _⟩
 yld:=λi H x H' hi e q=>by
  obtain⟨rfl,q⟩:=q
  exact⟨Same.refl _,q xs (e.tup h)⟩
variable {lo:Int}
theorem zfS: Goes (Itr lo n) H1 n (λi x _=>x=.int (lo+i)) where
 go:=λi H hi e=>hi
 stop:=λH e=>Nat.le_refl _
 yld:=λi H x H' hi e q=>by
  obtain⟨rfl,q⟩:=q
  exact⟨Same.refl _,q⟩
theorem zgH(h:SqL K H1 a xs)(h2:SqL K H1 b ys)(hn:n=min xs.length ys.length):
  Goes (Itz K a b) H1 n (λi v H=>∃ T x y,v=.ref T/\H T=some (.tup [x,y])/\xs[i]?=some x/\ys[i]?=some y) where
 go:=λi H hi e=>⟨xs,ys,xs[i]'(by omega),ys[i]'(by omega),e.seq h,e.seq h2,by simp,by simp⟩
 stop:=λH e=>⟨xs,ys,e.seq h,e.seq h2,by
  rcases Nat.le_total xs.length ys.length with z | z
  ·exact .inl (by simp;omega)
  ·exact .inr (by simp;omega)⟩
 yld:=λi H x H' hi e q=>by
  obtain⟨T,nT,rfl,q⟩:=q
  have i1:i<xs.length:=by omega
  have i2:i<ys.length:=by omega
  have:=q xs ys xs[i] ys[i] (e.seq h) (e.seq h2) (by simp) (by simp)
  subst this
  exact⟨zah nT _,T,_,_,rfl,zac,by simp,by simp⟩
theorem znh(h:SqL K H1 a xs):
  Goes (Itn K a) H1 xs.length (λi v H=>∃ T x,v=.ref T/\H T=some (.tup [.int i,x])/\xs[i]?=some x) where
 go:=λi H hi e=>⟨xs,xs[i],e.seq h,by simp[hi]⟩
 stop:=λH e=>⟨xs,e.seq h,Nat.le_refl _⟩
 yld:=λi H x H' hi e q=>by
  obtain⟨T,nT,rfl,q⟩:=q
  have:=q xs xs[i] (e.seq h) (by simp)
  subst this
  exact⟨zah nT _,T,_,rfl,zac,by simp⟩
def zll (J:It)(g:TG)(tt:TT)(te:TE)(σ0:St)(H1:Hp)(Q:VK):Prop:=∀ D,H1 D=none->
 ∃ W:Nat->Nat->List V->Hp->Prop,(∃ m,W 0 m [] (upd H1 D (.lst [])))/\∀ i m ys H,W i m ys H->H D=some (.lst ys)/\
  ((J.stop i H/\Q (.ref D) H)\/(J.go i H/\ys.length<sizeLine/\∃ N:List V->Hp->Prop,(∀ ys' H',N ys' H'->∃ m',m'<m/\W (i+1) m' ys' H')/\
   ∀ x H',J.yld i H x H'->g x σ0 H' λσ2 H2=>tt σ2 H2 λb H3=>if b=true then te σ2 H3 λy H4=>H4 D=some (.lst ys)/\N (ys++[y]) (upd H4 D (.lst (ys++[y]))) else N ys H3))
def zov (J:It)(g:TG)(tb:TS)(D:Ends)(σ:St)(H1:Hp):Prop:=∃ W:Nat->Nat->St->Hp->Prop,(∃ m,W 0 m σ H1)/\∀ i m σ H,W i m σ H->
 (J.stop i H/\D.nx σ H)\/(J.go i H/\∃ N:St->Hp->Prop,(∀ σ' H',N σ' H'->∃ m',m'<m/\W (i+1) m' σ' H')/\∀ x H',J.yld i H x H'->g x σ H' λσ2 H2=>tb {D with nx:=N,ct:=N,bk:=D.nx} σ2 H2)
variable {J:It}{σ0:St}
theorem zaW{P:Nat->V->Hp->Prop}(wk:Goes J H1 n P)(ds:List D)(hn:ds.length=n)(hz:n<=sizeLine)(step:∀ i x d H' (R:VK),i<n->ds[i]?=some d->Same H1 H'->P i x H'->(∀ y H3,Same H' H3->New H' H3 d y->R y H3)->g x σ0 H' λσ2 H2=>te σ2 H2 R)(fin:∀ v H',Same H1 H'->New H1 H' (.lst ds) v->Q v H'):
  zll J g zp8 te σ0 H1 Q:=by
 intro Da hD
 refine⟨λi m ys H=>m=n - i/\i<=n/\Same H1 H/\H Da=some (.lst ys)/\∃ fp,zaj H (ds.take i) ys fp/\fp.Nodup/\Da∉fp/\∀ b∈fp,H1 b=none,⟨n,rfl,Nat.zero_le _,zah hD _,zac,[],?_,List.nodup_nil,by simp,λ_ m=>by cases m⟩,?_⟩
 ·rw[List.take_zero];unfold zaj;exact⟨rfl,rfl⟩
 rintro i m ys H ⟨rfl,hi,hs,hH,fp,hr,nd,na,hf⟩
 refine⟨hH,?_⟩
 have hl:=hr.length
 rw[List.length_take] at hl
 by_cases hlt:i<n
 ·refine .inr ⟨wk.go i H hlt hs,by omega,λys' H'=>(n - (i+1)<n - i/\i+1<=n/\Same H1 H'/\H' Da=some (.lst ys')/\∃ fp,zaj H' (ds.take (i+1)) ys' fp/\fp.Nodup/\Da∉fp/\∀ b∈fp,H1 b=none),λys' H' ⟨q1,q2,q3,q4,q5⟩=>⟨n - (i+1),q1,rfl,q2,q3,q4,q5⟩,λx H' hy=>?_⟩
  obtain⟨s1,hp⟩:=wk.yld i H x H' hlt hs hy
  have hi':i<ds.length:=by omega
  refine step i x ds[i] H' _ hlt (by simp) (hs.trans s1) hp λy H3 s3 hn3=>?_
  have hD3:H3 Da=some (.lst ys):=s3 _ _ (s1 _ _ hH)
  refine⟨hD3,by omega,hlt,?_,zac,?_⟩
  ·intro b o e
   rw[zai (zao e hD)]
   exact s3 _ _ (s1 _ _ (hs _ _ e))
  ·obtain⟨fq,h1,h2,h3⟩:=hn3
   have keep:∀ b∈fp,(upd H3 Da (.lst (ys++[y]))) b=H b:=λb hb=>by
    obtain⟨o,ho⟩:=zaj.has _ hr b hb
    rw[zai (show b≠Da from λz=>na (by rw[<-z];exact hb)),ho]
    exact s3 _ _ (s1 _ _ ho)
   have nDq:Da∉fq:=λz=>by
    have:=h3 Da z
    rw[s1 _ _ hH] at this;cases this
   have tk2:Tups H3 (upd H3 Da (.lst (ys++[y]))):=zc8 hD3
   have tk1:Tups H (upd H3 Da (.lst (ys++[y]))):=((s1.trans s3).tups).trans tk2
   have keep2:∀ b∈fq,(upd H3 Da (.lst (ys++[y]))) b=H3 b:=λb hb=>by rw[zai (show b≠Da from λz=>nDq (by rw[<-z];exact hb))]
   refine⟨fp++fq,?_,?_,?_,?_⟩
   ·have:=(zaj.frame tk1 _ keep hr).snoc (RepF.frame tk2 _ keep2 h1)
    rw[List.take_add_one,show ds[i]?.toList=[ds[i]] by simp[hi']]
    exact this
   ·refine List.nodup_append.mpr ⟨nd,h2,λa ha b hb z=>?_⟩
    subst z
    obtain⟨o,ho⟩:=zaj.has _ hr a ha
    have:=h3 a hb
    rw[s1 _ _ ho] at this;cases this
   ·exact λz=>(zma.mp z).elim na nDq
   ·intro b hb
    rcases zma.mp hb with z | z
    ·exact hf b z
    ·exact (hs.trans s1).free (h3 b z)
 ·have e:i=n:=by omega
  subst e
  refine .inl ⟨wk.stop H hs,fin _ _ hs ?_⟩
  rw[List.take_of_length_le (by omega)] at hr
  exact New.lst hr nd hf hD na hH
theorem zni{P:Nat->V->Hp->Prop}(wk:Goes J H1 n P)(k:Nat->Bool)(d:Nat->D)(hz:n<=sizeLine)(step:∀ i x H' (R1:VK) (R2:Hp->Prop),i<n->Same H1 H'->P i x H'->(k i=true->∀ y H3,Same H' H3->New H' H3 (d i) y->R1 y H3)->(k i=false->∀ H3,Same H' H3->R2 H3)->
   g x σ0 H' λσ2 H2=>tt σ2 H2 λb H3=>if b=true then te σ2 H3 R1 else R2 H3)(fin:∀ v H',Same H1 H'->New H1 H' (.lst (((List.range n).filter k).map d)) v->Q v H'):
  zll J g tt te σ0 H1 Q:=by
 intro Da hD
 refine⟨λi m ys H=>m=n - i/\i<=n/\Same H1 H/\H Da=some (.lst ys)/\∃ fp,zaj H (((List.range i).filter k).map d) ys fp/\fp.Nodup/\Da∉fp/\∀ b∈fp,H1 b=none,⟨n,rfl,Nat.zero_le _,zah hD _,zac,[],?_,List.nodup_nil,by simp,λ_ m=>by cases m⟩,?_⟩
 ·simp only[List.range_zero,List.filter_nil,List.map_nil];unfold zaj;exact⟨rfl,rfl⟩
 rintro i m ys H ⟨rfl,hi,hs,hH,fp,hr,nd,na,hf⟩
 refine⟨hH,?_⟩
 have hl:=hr.length
 have hl2:((List.range i).filter k).length<=i:=by
  have:=List.length_filter_le k (List.range i)
  rwa [List.length_range] at this
 rw[zlm] at hl
 by_cases hlt:i<n
 ·refine .inr ⟨wk.go i H hlt hs,by omega,λys' H'=>(n - (i+1)<n - i/\i+1<=n/\Same H1 H'/\H' Da=some (.lst ys')/\∃ fp,zaj H' (((List.range (i+1)).filter k).map d) ys' fp/\fp.Nodup/\Da∉fp/\∀ b∈fp,H1 b=none),λys' H' ⟨q1,q2,q3,q4,q5⟩=>⟨n - (i+1),q1,rfl,q2,q3,q4,q5⟩,λx H' hy=>?_⟩
  obtain⟨s1,hp⟩:=wk.yld i H x H' hlt hs hy
  refine step i x H' _ _ hlt (hs.trans s1) hp (λhk y H3 s3 hn3=>?_) (λhk H3 s3=>?_)
  ·have hD3:H3 Da=some (.lst ys):=s3 _ _ (s1 _ _ hH)
   refine⟨hD3,by omega,hlt,?_,zac,?_⟩
   ·intro b o e
    rw[zai (zao e hD)]
    exact s3 _ _ (s1 _ _ (hs _ _ e))
   ·obtain⟨fq,h1,h2,h3⟩:=hn3
    have keep:∀ b∈fp,(upd H3 Da (.lst (ys++[y]))) b=H b:=λb hb=>by
     obtain⟨o,ho⟩:=zaj.has _ hr b hb
     rw[zai (show b≠Da from λz=>na (by rw[<-z];exact hb)),ho]
     exact s3 _ _ (s1 _ _ ho)
    have nDq:Da∉fq:=λz=>by
     have:=h3 Da z
     rw[s1 _ _ hH] at this;cases this
    have tk2:Tups H3 (upd H3 Da (.lst (ys++[y]))):=zc8 hD3
    have tk1:Tups H (upd H3 Da (.lst (ys++[y]))):=((s1.trans s3).tups).trans tk2
    have keep2:∀ b∈fq,(upd H3 Da (.lst (ys++[y]))) b=H3 b:=λb hb=>by rw[zai (show b≠Da from λz=>nDq (by rw[<-z];exact hb))]
    refine⟨fp++fq,?_,?_,?_,?_⟩
    ·have:=(zaj.frame tk1 _ keep hr).snoc (RepF.frame tk2 _ keep2 h1)
     rw[List.range_succ,List.filter_append,List.map_append,List.filter_cons,hk]
     exact this
    ·refine List.nodup_append.mpr ⟨nd,h2,λa ha b hb z=>?_⟩
     subst z
     obtain⟨o,ho⟩:=zaj.has _ hr a ha
     have:=h3 a hb
     rw[s1 _ _ ho] at this;cases this
    ·exact λz=>(zma.mp z).elim na nDq
    ·intro b hb
     rcases zma.mp hb with z | z
     ·exact hf b z
     ·exact (hs.trans s1).free (h3 b z)
  ·refine⟨by omega,hlt,hs.trans (s1.trans s3),s3 _ _ (s1 _ _ hH),fp,?_,nd,na,hf⟩
   rw[List.range_succ,List.filter_append,List.map_append,List.filter_cons,hk]
   simp only[Bool.false_eq_true,if_false,List.filter_nil,List.map_nil,List.append_nil]
   refine zaj.frame (s1.trans s3).tups _ (λb hb=>?_) hr
   obtain⟨o,ho⟩:=zaj.has _ hr b hb
   rw[ho]
   exact s3 _ _ (s1 _ _ ho)
 ·have e:i=n:=by omega
  subst e
  exact .inl ⟨wk.stop H hs,fin _ _ hs (New.lst hr nd hf hD na hH)⟩
variable {tb:TS}
theorem zfT{P:Nat->V->Hp->Prop}{D:Ends}(wk:Goes J H1 n P)(Pv:Nat->St->Hp->Prop)(h0:Pv 0 σ H1)(hl:∀ i σ H,Pv i σ H->Same H1 H)(hs:∀ i x σ H H',i<n->Pv i σ H->Same H H'->P i x H'->g x σ H' λσ2 H2=>tb {D with nx:=Pv (i+1),ct:=Pv (i+1),bk:=D.nx} σ2 H2)(hd:∀ σ H,Pv n σ H->D.nx σ H):
  zov J g tb D σ H1:=by
 refine⟨λi m σ H=>m=n - i/\i<=n/\Pv i σ H,⟨n,by simp,Nat.zero_le _,h0⟩,?_⟩
 rintro i m σ H ⟨rfl,hi,p⟩
 have e:=hl i σ H p
 by_cases hlt:i<n
 ·refine .inr ⟨wk.go i H hlt e,Pv (i+1),λσ' H' p'=>⟨n - (i+1),by omega,rfl,hlt,p'⟩,λx H' y=>?_⟩
  obtain⟨s1,hp⟩:=wk.yld i H x H' hlt e y
  exact hs i x σ H H' hlt p s1 hp
 ·have e':i=n:=by omega
  subst e'
  exact .inl ⟨wk.stop H e,hd σ H p⟩

inductive E3 {α1 α2 α3:Type}(p:α1->α2->α3->Prop):Prop
 | mk (a1:α1) (a2:α2) (a3:α3) (h:p a1 a2 a3):E3 p
inductive E4 {α1 α2 α3 α4:Type}(p:α1->α2->α3->α4->Prop):Prop
 | mk (a1:α1) (a2:α2) (a3:α3) (a4:α4) (h:p a1 a2 a3 a4):E4 p
inductive A3 (p1 p2 p3:Prop):Prop
 | mk (h1:p1) (h2:p2) (h3:p3):A3 p1 p2 p3
inductive A4 (p1 p2 p3 p4:Prop):Prop
 | mk (h1:p1) (h2:p2) (h3:p3) (h4:p4):A4 p1 p2 p3 p4
inductive A5 (p1 p2 p3 p4 p5:Prop):Prop
 | mk (h1:p1) (h2:p2) (h3:p3) (h4:p4) (h5:p5):A5 p1 p2 p3 p4 p5
inductive A6 (p1 p2 p3 p4 p5 p6:Prop):Prop
 | mk (h1:p1) (h2:p2) (h3:p3) (h4:p4) (h5:p5) (h6:p6):A6 p1 p2 p3 p4 p5 p6
inductive A7 (p1 p2 p3 p4 p5 p6 p7:Prop):Prop
 | mk (h1:p1) (h2:p2) (h3:p3) (h4:p4) (h5:p5) (h6:p6) (h7:p7):A7 p1 p2 p3 p4 p5 p6 p7
inductive A8 (p1 p2 p3 p4 p5 p6 p7 p8:Prop):Prop
 | mk (h1:p1) (h2:p2) (h3:p3) (h4:p4) (h5:p5) (h6:p6) (h7:p7) (h8:p8):A8 p1 p2 p3 p4 p5 p6 p7 p8
inductive A9 (p1 p2 p3 p4 p5 p6 p7 p8 p9:Prop):Prop
 | mk (h1:p1) (h2:p2) (h3:p3) (h4:p4) (h5:p5) (h6:p6) (h7:p7) (h8:p8) (h9:p9):A9 p1 p2 p3 p4 p5 p6 p7 p8 p9
inductive A10 (p1 p2 p3 p4 p5 p6 p7 p8 p9 p10:Prop):Prop
 | mk (h1:p1) (h2:p2) (h3:p3) (h4:p4) (h5:p5) (h6:p6) (h7:p7) (h8:p8) (h9:p9) (h10:p10):A10 p1 p2 p3 p4 p5 p6 p7 p8 p9 p10
structure Fn (P:Program)(w:World)(K:Fg)(mg:Str->Option Value)(base:Heap)(x:Str)(ps:List Str)(k:Nat)(sp:Sp):Prop where
 ex:∃ f fd,FnOk P w K mg base CX0 k f fd ps sp/\zd6 K fd ps []/\PySem.W.keepIn K (.ref f)=true/\mg x=some (.ref f)
variable {e:Expr}{es:List Expr}
section
variable {k j:Nat}{t:TA}
theorem zap (G:Fn X.prog X.w X.K X.mg X.base x ps j sp)(hr:Room k X.A)(hg:Gl X x)(ha:PA X (e::es) t)(hj:j<=k:=by decide)(hdb:(x == ("__debug__" : Str))=false:=by decide)
  (he:starEach (e::es) X.env=(false,eval e X.env)::starEach es X.env:=by rfl) (hpl:(backTo pos (starEach es X.env)).any (·.1)=false:=by rfl):PE X (.Call (.Name x p) (e::es) [] pos) (ziG sp [] E0 t):=by
 obtain⟨f,fd,F,hb,hk,hm⟩:=G.ex
 exact zmU (F.mono hj) hr hg hm hk hb .nil za5 ha hdb he hpl
end
theorem Fn.of{k:Nat}(F:Fun K x x st f fd)(S:FSc N ps (zae st))(m:mg x=some (.ref f))(hb:∀ (kV doc pm:Value) (an:Option Addr) (cdv ct:Value) (us:List Value),us.length=ps.length->bindArgs (PySem.W.fnOf x x (zdf st) (zb4 st) (zae st) .none kV doc pm an cdv ct) ⟨us,[]⟩=pure (ps.zip us))(len:∀ vs H Q E,sp vs H Q E->vs.length=ps.length)(hbody:∀ (cdv:Value) (A:Around) (outer:List Env) (s:Shared) (H:Hp) (vs:List V) (Q:VK) (E:XK),Room k (A.deeper (envOfC x (zae st) s.heap.objs.size f cdv))->sp vs H Q E->
   ∃ t,PSs (cxOf CX0 P w K mg base N x (zae st) f cdv A outer s H E).nox (zb4 st) t/\t {nx:=λ_ H'=>Q .non H',rt:=Q} (start N vs) H):Fn P w K mg base x ps (k+1) sp:=
 ⟨f,fd,F.ok S len hbody,F.binds hb,F.kp,m⟩
section
variable {k:Nat}
def zl5 (K:Fg):R2:=λx y H Q=>rI0 (λi j=>.int (i+j)) x y H Q\/rCat x y H Q\/zrj K x y H Q
theorem zqc:OpR X (binaryOp .Add) (zl5 X.K):=zq9.or (zro.or zpZ)
def zpt:R2:=λx y H Q=>rI CMul (λi j=>.int (i * j)) x y H Q\/rRep x y H Q
theorem zc9:OpR X (binaryOp .Mult) zpt:=zra.or zrp
def rEqA (K:Fg):R2:=λx y H Q=>rEq x y H Q\/rEqD K false x y H Q
def rNeA (K:Fg):R2:=λx y H Q=>rNe x y H Q\/rEqD K true x y H Q
theorem zrC (hr:Room k X.A):OpR X (compareOp .Eq) (rEqA X.K):=op_eq.or (zrA hr)
theorem zrD (hr:Room k X.A):OpR X (compareOp .NotEq) (rNeA X.K):=zrb.or (zrB hr)
end

def rLen (K:Fg):List V->Hp->VK->Prop:=λxs H Q=>∃ p ys,xs=[.ref p]/\(SqL K H p ys\/SqT K H p ys)/\Q (.int ys.length) H
def zkI (K:Fg):List V->Hp->VK->Prop:=λxs H Q=>∃ p ys,xs=[.ref p]/\(SqL K H p ys\/SqT K H p ys)/\∀ l,H l=none->Q (.ref l) (upd H l (.lst ys))
def znj (K:Fg):List V->Hp->VK->Prop:=λxs H Q=>∃ p ys,xs=[.ref p]/\((SqL K H p ys/\∀ l,H l=none->Q (.ref l) (upd H l (.tup ys)))\/(SqT K H p ys/\Q (.ref p) H))
def rIsi (K:Fg):List V->Hp->VK->Prop:=λxs H Q=>∃ x c t b,xs=[x,.ty c]/\TyOf K H x t/\PySem.W.kitOne K t (.type c)=some b/\Q (.bl b) H
def rAll (K:Fg):List V->Hp->VK->Prop:=λxs H Q=>∃ (p:Addr) (bs:List Bool),xs=[.ref p]/\SqL K H p (bs.map V.bl)/\Q (.bl (bs.all id)) H
def rAny (K:Fg):List V->Hp->VK->Prop:=λxs H Q=>∃ (p:Addr) (bs:List Bool),xs=[.ref p]/\SqL K H p (bs.map V.bl)/\Q (.bl (bs.any id)) H
def rMin:List V->Hp->VK->Prop:=λxs H Q=>∃ i j,xs=[.int i,.int j]/\Q (.int (if j<i then j else i)) H
def rInt:List V->Hp->VK->Prop:=λxs H Q=>(∃ i,xs=[.int i]/\Q (.int i) H)\/∃ k,xs=[.bl k]/\Q (.int (if k then 1 else 0)) H
section
theorem c_len:zb3 X (.builtin "len") (rLen X.K):=zjt
theorem zrE:zb3 X (.type "list") (zkI X.K):=zju
theorem zqd:zb3 X (.type "tuple") (znj X.K):=ziJ
theorem c_isi:zb3 X (.builtin "isinstance") (rIsi X.K):=zkH
theorem c_all (hc:X.calm=true):zb3 X (.builtin "all") (rAll X.K):=zos hc
theorem c_any (hc:X.calm=true):zb3 X (.builtin "any") (rAny X.K):=zot hc
theorem c_min (hc:X.calm=true):zb3 X (.builtin "min") rMin:=zmO hc
theorem c_int:zb3 X (.type "int") rInt:=zmP
end

variable {c:TT}{ta tc:TE}{r:R2}{j:Int}{α:Type}
section
variable {tb:TE}{D:Ends}
theorem zrF{i:Nat}(h:σ[i]?=some (some v))(q:Q v H):tVar i σ H Q:=⟨v,h,q⟩
theorem i_c(q:Q v H):tC v σ H Q:=q
theorem i_op(h:ta σ H λx H1=>tb σ H1 λy H2=>r x y H2 Q):tOp r ta tb σ H Q:=h
theorem i_un {r:V->Hp->VK->Prop}(h:ta σ H λx H1=>r x H1 Q):tUn r ta σ H Q:=h
theorem i_rI0{g:Int->Int->V}(q:Q (g i j) H):rI0 g (.int i) (.int j) H Q:=⟨i,j,rfl,rfl,q⟩
theorem i_mod(c:0<j)(q:Q (.int (i % j)) H):rI (λ_ j=>0<j) (λi j=>.int (i % j)) (.int i) (.int j) H Q:=⟨i,j,rfl,rfl,c,q⟩
theorem zow (q:Q (.int 1000000000) H):rI CPow (λi j=>.int (i ^ j.toNat)) (.int 10) (.int 9) H Q:=⟨10,9,rfl,rfl,⟨by decide,by decide,by decide⟩,q⟩
theorem zrG(c:0<j)(c2:j<1073741824)(q:Q (.int (i / j)) H):rI CDiv (λi j=>.int (i / j)) (.int i) (.int j) H Q:=⟨i,j,rfl,rfl,⟨c,c2⟩,q⟩
theorem i_pow(c:0<=j)(c2:j<=1000000)(c3:i.natAbs<2 ^ 64)(q:Q (.int (i ^ j.toNat)) H):rI CPow (λi j=>.int (i ^ j.toNat)) (.int i) (.int j) H Q:=⟨i,j,rfl,rfl,⟨c,c2,c3⟩,q⟩
theorem i_rU{g:Int->V}(q:Q (g i) H):rU g (.int i) H Q:=⟨i,rfl,q⟩
theorem zqe(q:Q (.int (i+j)) H):zl5 K (.int i) (.int j) H Q:=.inl ⟨i,j,rfl,rfl,q⟩
theorem zbt(h1:H a=some (.lst xs))(h2:H b=some (.lst ys))(z:xs.length+ys.length<=sizeLine)(q:∀ p,H p=none->Q (.ref p) (upd H p (.lst (xs++ys)))):zl5 K (.ref a) (.ref b) H Q:=.inr (.inl ⟨a,b,xs,ys,rfl,rfl,h1,h2,z,q⟩)
theorem ziM(c:CMul i j)(q:Q (.int (i * j)) H):zpt (.int i) (.int j) H Q:=.inl ⟨i,j,rfl,rfl,c,q⟩
theorem zrH(q:Q (.bl (decide (i=j))) H):rEqA K (.int i) (.int j) H Q:=.inl ⟨rfl,by
 rw[show decide (V.int i=V.int j)=decide (i=j) by rw[decide_eq_decide];exact⟨λz=>by cases z;rfl,λz=>by rw[z]⟩];exact q⟩
theorem i_neI(q:Q (.bl (!decide (i=j))) H):rNeA K (.int i) (.int j) H Q:=.inl ⟨rfl,by
 rw[show decide (V.int i=V.int j)=decide (i=j) by rw[decide_eq_decide];exact⟨λz=>by cases z;rfl,λz=>by rw[z]⟩];exact q⟩
theorem i_eqS {i j:Str}(q:Q (.bl (decide (i=j))) H):rEqA K (.str i) (.str j) H Q:=.inl ⟨rfl,by
 rw[show decide (V.str i=V.str j)=decide (i=j) by rw[decide_eq_decide];exact⟨λz=>by cases z;rfl,λz=>by rw[z]⟩];exact q⟩
variable {d e:L2.D}
theorem zox(h1:Rep K H d (.ref a))(h2:Rep K H e (.ref b))(n:dep d<=60)(q:Q (.bl (pyEq d e)) H):rEqA K (.ref a) (.ref b) H Q:=.inr ⟨a,b,d,e,rfl,rfl,h1,h2,n,q⟩
theorem i_neD(h1:Rep K H d (.ref a))(h2:Rep K H e (.ref b))(n:dep d<=60)(q:Q (.bl (!pyEq d e)) H):rNeA K (.ref a) (.ref b) H Q:=.inr ⟨a,b,d,e,rfl,rfl,h1,h2,n,q⟩
theorem zrI {Q:Bool->Hp->Prop}(h:ta σ H λx H'=>∃ k,x=.bl k/\Q k H'):zpT ta σ H Q:=h
theorem i_B {Q:Bool->Hp->Prop}(h:ta σ H λx H'=>∃ k,x=.bl k/\Q k H'):tB ta σ H Q:=h
theorem i_bl {P:Bool->Prop}{b:Bool}(h:P b):∃ k,V.bl b=.bl k/\P k:=⟨b,rfl,h⟩
theorem i_nil {Q:List V->Hp->Prop}(h:Q [] H):tNil σ H Q:=h
theorem zrJ {Q:List V->Hp->Prop}{tr:TA}(h:ta σ H λx H1=>tr σ H1 λxs H2=>Q (x::xs) H2):zc1 ta tr σ H Q:=h
theorem zrK{t:TA}(h:t σ H λvs H1=>sp vs H1 Q E0):ziG sp [] E0 t σ H Q:=by
 have e:(λ(vs:List V) (H1:Hp)=>sp (vs++[]) H1 Q E0)=λvs H1=>sp vs H1 Q E0:=by funext vs H1;rw[List.append_nil]
 show t σ H λvs H1=>sp (vs++[]) H1 Q E0
 rw[e];exact h
theorem i_CB {r:List V->Hp->VK->Prop}{t:TA}(h:t σ H λvs H1=>r vs H1 Q):tCB r t σ H Q:=h
theorem i_lst {t:TA}(h:t σ H λxs H1=>xs.length<=sizeLine/\∀ p,H1 p=none->Q (.ref p) (upd H1 p (.lst xs))):tLst t σ H Q:=h
theorem i_tup {t:TA}(h:t σ H λxs H1=>xs.length<=sizeLine/\∀ p,H1 p=none->Q (.ref p) (upd H1 p (.tup xs))):tTup t σ H Q:=h
theorem i_asg(h:ta σ H λx H1=>g x σ H1 D.nx):tAsg ta g D σ H:=h
theorem zqf{i:Nat}{Q:St->Hp->Prop}(h:Q (σ.set i (some v)) H):zn6 i v σ H Q:=h
theorem i_ret (h:ta σ H D.rt):tRet ta D σ H:=h
theorem zrL (h:ta σ H λ_ H1=>D.nx σ H1):zmD ta D σ H:=h
theorem zrM (h:D.nx σ H):zpO D σ H:=h
theorem i_if(h:c σ H λb H1=>if b=true then ta σ H1 Q else tb σ H1 Q):tIf c ta tb σ H Q:=h
theorem zer(h:SqL K H a xs\/SqT K H a xs)(q:Q (.int xs.length) H):rLen K [.ref a] H Q:=⟨a,xs,rfl,h,q⟩
theorem ix0{x:α}{xs:List α}: ixN (x::xs).length 0=some 0:=by
 unfold ixN
 rw[if_pos (Int.le_refl 0),if_pos (by rw[List.length_cons];omega)]
 rfl
theorem zbs{x:α}{xs:List α}: atI (x::xs) (0:Int)=some x:=zaB (j:=0) rfl
theorem zbX(h:SqL K H a xs)(e:atI xs i=some v)(q:Q v H):rIx K (.ref a) (.int i) H Q:=.inl ⟨a,xs,i,v,rfl,rfl,h,e,q⟩
theorem zaL(h:SqT K H a xs)(e:atI xs i=some v)(q:Q v H):rIx K (.ref a) (.int i) H Q:=.inr (.inl ⟨a,xs,i,v,rfl,rfl,h,e,q⟩)
end
variable {R:It->Hp->Prop}{tl to:TE}
section
variable {tb:TE}{D:Ends}
variable {p:Addr}
theorem ziN{bs:List Bool}(h:SqL K H p (bs.map V.bl))(q:Q (.bl (bs.all id)) H):rAll K [.ref p] H Q:=⟨p,bs,rfl,h,q⟩
theorem i_any{bs:List Bool}(h:SqL K H p (bs.map V.bl))(q:Q (.bl (bs.any id)) H):rAny K [.ref p] H Q:=⟨p,bs,rfl,h,q⟩
theorem i_min(q:Q (.int (if j<i then j else i)) H):rMin [.int i,.int j] H Q:=⟨i,j,rfl,q⟩
variable {b:Bool}
theorem zrN(q:Q (.int (if b then 1 else 0)) H):rInt [.bl b] H Q:=.inr ⟨b,rfl,q⟩
theorem zrO (h:ta σ H λx H1=>∃ c,x=.bl c/\if c=true then tb σ H1 Q else Q (.bl false) H1):zq3 ta tb σ H Q:=h
variable {u:TT}
theorem i_and{t:TT}{Q:Bool->Hp->Prop}(h:t σ H λc H1=>if c=true then u σ H1 Q else Q false H1):tAnd t u σ H Q:=h
theorem i_or{t:TT}{Q:Bool->Hp->Prop}(h:t σ H λc H1=>if c=true then Q true H1 else u σ H1 Q):tOr t u σ H Q:=h
theorem i_not {t:TT}{Q:Bool->Hp->Prop}(h:t σ H λc H1=>Q (!c) H1):tNot t σ H Q:=h
theorem zoy{x:V}{t:Value}{c:String}(ty:TyOf K H x t)(e:PySem.W.kitOne K t (.type c)=some b)(q:Q (.bl b) H):
  rIsi K [x,.ty c] H Q:=⟨x,c,t,b,rfl,ty,e,q⟩
theorem i_for{tb:TS}(h:wi σ H λJ H1=>zov J g tb D σ H1):tFor wi g tb D σ H:=h
theorem zrP(h:wi σ H λJ H1=>zll J g tt te (zdv ms σ) H1 Q):zop ms wi g tt te σ H Q:=h
theorem zqg(h:tl σ H λx H1=>∃ a,x=.ref a/\(∃ xs,SqL K H1 a xs)/\R (Itl K a) H1):zpQ K tl σ H R:=h
theorem zrQ(h:tl σ H λx H1=>∃ a,x=.ref a/\(∃ xs,SqT K H1 a xs)/\R (Itt K a) H1):iTup K tl σ H R:=h
theorem i_zip{t:TA}(h:t σ H λvs H1=>∃ a b,vs=[.ref a,.ref b]/\(∃ xs,SqL K H1 a xs)/\(∃ ys,SqL K H1 b ys)/\R (Itz K a b) H1):iZip K t σ H R:=h
theorem zrR{t:TA}(h:t σ H λvs H1=>∃ a xs,vs=[.ref a]/\H1 a=some (.lst xs)/\R (Itn K a) H1):zqa K t σ H R:=h
theorem zrS{t:TA}(h:t σ H λvs H1=>∃ j:Int,vs=[.int j]/\-(2 ^ 62)<=j/\j<2 ^ 62/\R (Itr 0 j.toNat) H1):zq8 t σ H R:=h
variable {P:Int->Prop}
theorem zhb(h1:-(2 ^ 62)<=j)(h2:j<2 ^ 62)(h:P j):∃ k:Int,[V.int j]=[.int k]/\-(2 ^ 62)<=k/\k<2 ^ 62/\P k:=⟨j,rfl,h1,h2,h⟩
theorem i_sl {r:V->Option Int->Option Int->Hp->VK->Prop}{tl th:TO}(h:ta σ H λx H1=>tl σ H1 λl H2=>th σ H2 λu H3=>r x l u H3 Q):tSl r ta tl th σ H Q:=h
theorem zoz {Q:Option Int->Hp->Prop}(h:Q none H):zmY σ H Q:=h
theorem zrT {Q:Option Int->Hp->Prop}(h:ta σ H λx H1=>∃ i,x=.int i/\Q (some i) H1):zrh ta σ H Q:=h
theorem zqh(h:P i):∃ j,V.int i=.int j/\P j:=⟨i,rfl,h⟩
theorem zrU{ti:TE}{t:TSet}{Q:St->Hp->Prop}(h:to σ H λo H1=>ti σ H1 λi H2=>t o i v H2 λH3=>Q σ H3):gSub to ti t v σ H Q:=h
theorem zln{k:Int}{j:Nat}{Q:Hp->Prop}(h:H a=some (.lst xs))(e:ixN xs.length k=some j)(q:Q (upd H a (.lst (xs.set j v)))):zrn (.ref a) (.int k) v H Q:=⟨a,xs,k,j,rfl,rfl,h,e,q⟩
theorem zgI(h:SqL K H a ys\/SqT K H a ys)(q:∀ l,H l=none->Q (.ref l) (upd H l (.lst ys))):
  zkI K [.ref a] H Q:=⟨a,ys,rfl,h,q⟩
end
section
variable {k:Nat}
theorem zaX (K:Fg)(hK:X.K=K:=by rfl):OpR X (binaryOp .Add) (zl5 K):=by subst hK;exact zqc
theorem k_eq (K:Fg)(hr:Room k X.A)(hK:X.K=K:=by rfl):OpR X (compareOp .Eq) (rEqA K):=by subst hK;exact zrC hr
theorem k_ne (K:Fg)(hr:Room k X.A)(hK:X.K=K:=by rfl):OpR X (compareOp .NotEq) (rNeA K):=by subst hK;exact zrD hr
theorem k_in (K:Fg)(hK:X.K=K:=by rfl):OpR X (compareOp .In) (rIn K false):=by subst hK;exact zm0
theorem k_ix (K:Fg)(hK:X.K=K:=by rfl):IxR X (rIx K):=by subst hK;exact zrm
def rSl (K:Fg):V->Option Int->Option Int->Hp->VK->Prop:=λx lo hi H Q=>rSlL K x lo hi H Q\/rSlT K x lo hi H Q
theorem k_sl (K:Fg)(hK:X.K=K:=by rfl):SlR X (rSl K):=by subst hK;exact zp2.or zri
theorem zdV (K:Fg)(hK:X.K=K:=by rfl):zb3 X (.builtin "len") (rLen K):=by subst hK;exact c_len
theorem zlo (K:Fg)(hK:X.K=K:=by rfl):zb3 X (.type "list") (zkI K):=by subst hK;exact zrE
theorem zqi (K:Fg)(hK:X.K=K:=by rfl):zb3 X (.type "tuple") (znj K):=by subst hK;exact zqd
theorem k_isi (K:Fg)(hK:X.K=K:=by rfl):zb3 X (.builtin "isinstance") (rIsi K):=by subst hK;exact c_isi
theorem ziO (K:Fg)(hc:X.calm=true)(hK:X.K=K:=by rfl):zb3 X (.builtin "all") (rAll K):=by subst hK;exact c_all hc
theorem zrV (K:Fg)(hc:X.calm=true)(hK:X.K=K:=by rfl):zb3 X (.builtin "any") (rAny K):=by subst hK;exact c_any hc
variable {l:Expr}
theorem za8(K:Fg)(hl:PE X l tl)(hK:X.K=K:=by rfl):PI X tg l (zpQ K tl):=by subst hK;exact zpR hl
theorem zjF(K:Fg)(hl:PE X l tl)(hK:X.K=K:=by rfl):PI X tg l (iTup K tl):=by subst hK;exact zq7 hl
variable {a:Expr}{ta:TA}
theorem zlp(K:Fg){b:Expr}(hg:Gl X "zip")(hm:X.mg "zip"=none)(ha:PA X [a,b] ta)(hK:X.K=K:=by rfl)(hs:starEach [a,b] X.env=[(false,eval a X.env),(false,eval b X.env)]:=by rfl)(hs2:starEach [b] X.env=[(false,eval b X.env)]:=by rfl):
  PI X (.Tuple elts kx tpos) (.Call (.Name "zip" p) [a,b] [] pos) (iZip K ta):=by subst hK;exact zry hg hm ha hs hs2
theorem zqj(K:Fg)(hg:Gl X "enumerate")(hm:X.mg "enumerate"=none)(ha:PA X [a] ta)(hK:X.K=K:=by rfl)(hs:starEach [a] X.env=[(false,eval a X.env)]:=by rfl):
  PI X (.Tuple elts kx tpos) (.Call (.Name "enumerate" p) [a] [] pos) (zqa K ta):=by subst hK;exact zqb hg hm ha hs
theorem zjG(K:Fg){kk:Nat}{t:TGs}(hc:X.calm=true)(h:PGs X es t)(hK:X.K=K:=by rfl)(hn:(assignEach es X.env).length=n:=by rfl)(hst:(assignEach es X.env).findIdx? (·.1)=none:=by rfl):
  PG X (.Tuple es kk pos) (gTup K n t):=by subst hK;exact zq5 hc h hn hst
theorem zay(K:Fg){f:Str}{ta:TE}(he:PE X e ta)(hb:attributeBase e f X.env (eval e X.env)=eval e X.env)(hK:X.K=K:=by rfl):PE X (.Attribute e f pos) (tFld K ta f):=by subst hK;exact zre he hb
end
theorem zjH{f:Nat->D}{i:Nat}(h:((List.range n).map f)[i]?=some d):d=f i:=by
 rw[zgm] at h
 obtain⟨j,hj,rfl⟩:=zme.mp h
 have hl:=(zge.mp hj).1
 rw[List.length_range] at hl
 have hi:i<n:=hl
 rw[List.getElem?_range hi] at hj
 cases hj;rfl
theorem za9(hg:Gl X x)(hm:∃ t,X.mg x=some (.int i t))(hd:(x == ("__debug__" : Str))=false:=by decide):PE X (.Name x pos) (tC (.int i)):=by
 obtain⟨t,hm⟩:=hm
 exact zmA hg hm ⟨t,rfl⟩ hd
theorem iteNT{A:Prop}(h:B):if (!true)=true then A else B:=iteF h
theorem iteNF{A:Prop}(h:A):if (!false)=true then A else B:=iteT h
theorem zaq(h:n<=1000):n<=sizeLine:=Nat.le_of_lt (zcq h)
theorem sl(h:Nat.ble n 1000=true):n<=sizeLine:=zaq (Nat.le_of_ble_eq_true h)
theorem i_bm{r:V->List V->Hp->VK->Prop}{t:TA}(h:to σ H λx H1=>tyV K T x H1/\t σ H1 λxs H2=>r x xs H2 Q):tBM K T r to t σ H Q:=h
theorem tyL(h:H a=some (.lst xs)):tyV K "list" (.ref a) H:=.inl ⟨rfl,_,SqL.of h⟩
theorem i_app(h:H a=some (.lst xs))(z:xs.length<sizeLine)(q:Q .non (upd H a (.lst (xs++[y])))):zm1 (.ref a) [y] H Q:=⟨a,xs,y,rfl,rfl,h,z,q⟩
theorem zaj.bls_eq: ∀ {bs:List Bool}{vs:List V}{fp:List Addr},zaj H (bs.map D.bl) vs fp->vs=bs.map V.bl/\fp=[]
 | [],_,_,h=>by unfold List.map zaj at h;exact h
 | n::ns,_,_,h=>by
  rw[zmc] at h
  unfold zaj at h
  obtain⟨v,r,f,g,rfl,rfl,h1,h2⟩:=h
  unfold RepF at h1
  obtain⟨rfl,rfl⟩:=h1
  obtain⟨rfl,rfl⟩:=zaj.bls_eq h2
  exact⟨rfl,rfl⟩
theorem New.bls{bs:List Bool}(h:New H H' (.lst (bs.map D.bl)) v):∃ a,v=.ref a/\H a=none/\H' a=some (.lst (bs.map V.bl)):=by
 obtain⟨fp,h1,h2,h3⟩:=h
 unfold RepF at h1
 obtain⟨a,xs,r,e1,e2,e3,e4⟩:=h1
 obtain⟨rfl,rfl⟩:=zaj.bls_eq e4
 subst e2
 exact⟨a,e1,h3 a List.mem_cons_self,e3⟩
theorem New.lso(h:New H H' (.lst ds) v):∃ a vs fp,v=.ref a/\H a=none/\H' a=some (.lst vs)/\zaj H' ds vs fp/\fp.Nodup/\a∉fp/\∀ b∈fp,H b=none:=by
 obtain⟨fp,h1,h2,h3⟩:=h
 unfold RepF at h1
 obtain⟨a,xs,r,e1,e2,e3,e4⟩:=h1
 subst e2
 exact⟨a,xs,r,e1,h3 a List.mem_cons_self,e3,e4,(List.nodup_cons.mp h2).2,(List.nodup_cons.mp h2).1,λb m=>h3 b (List.mem_cons_of_mem _ m)⟩
theorem znk{D:Ends}(Pv:Nat->St->Hp->Prop)(h0:Pv 0 σ H)(hs:∀ i σ H,i<n->Pv i σ H->g (.int (lo+i)) σ H λσ2 H2=>tb {D with nx:=Pv (i+1),ct:=Pv (i+1),bk:=D.nx} σ2 H2)(hd:∀ σ H,Pv n σ H->D.nx σ H):zov (Itr lo n) g tb D σ H:=zmH Pv h0 hs hd
theorem ziP{D:Ends}(Pv:Nat->St->Hp->Prop)(h0:Pv 0 σ H)(hl:∀ i σ H,i<=xs.length->Pv i σ H->SqL K H a xs)(hs:∀ i x σ H,xs[i]?=some x->Pv i σ H->g x σ H λσ2 H2=>tb {D with nx:=Pv (i+1),ct:=Pv (i+1),bk:=D.nx} σ2 H2)(hd:∀ σ H,Pv xs.length σ H->D.nx σ H):zov (Itl K a) g tb D σ H:=zn8 Pv h0 hl hs hd
theorem znl: ∀ {ds:List D},(∀ d∈ds,dep d<=n)->deps ds<=n
 | [],_=>by unfold deps;exact Nat.zero_le _
 | d::ds,h=>by
  unfold deps
  exact Nat.max_le.mpr ⟨h d List.mem_cons_self,znl λe he=>h e (List.mem_cons_of_mem _ he)⟩
theorem zjI (ls:List (List Int)):dep (.lst (ls.map nums))<=2:=by
 unfold dep
 refine Nat.succ_le_succ (znl λd hd=>?_)
 obtain⟨l,_,rfl⟩:=zmm.mp hd
 exact ziL l
theorem boot_len:bootBuiltins "len"=some (.builtin "len"):=PySem.boot_len
theorem zdw:bootBuiltins "list"=some (.type "list"):=by decide +kernel
theorem zl6:bootBuiltins "tuple"=some (.type "tuple"):=by decide +kernel
theorem zoA:bootBuiltins "int"=some (.type "int"):=by decide +kernel
theorem zbj:bootBuiltins "isinstance"=some (.builtin "isinstance"):=by decide +kernel
theorem zcG:bootBuiltins "all"=some (.builtin "all"):=by decide +kernel
theorem zlq:bootBuiltins "any"=some (.builtin "any"):=by decide +kernel
theorem zoB:bootBuiltins "min"=some (.builtin "min"):=by decide +kernel
theorem zoC{t:Value}: PySem.W.kitOne K t t=some true:=by unfold PySem.W.kitOne;simp
structure Mkr (P:Program)(w:World)(K:Fg)(mg:Str->Option Value)(base:Heap)(x:Str)(C:Addr)(ps:List Str)(k:Nat)(sp:Sp):Prop where
 ex:∃ f fd,Mk K C f/\FnOk P w K mg base CX0 k f fd ps sp/\zd6 K fd ps []/\mg x=some (.ref C)
section
variable {k j:Nat}{t:TA}
theorem zoD (G:Mkr X.prog X.w X.K X.mg X.base x C ps j sp)(hr:Room k X.A)(hg:Gl X x)(ha:PA X (e::es) t)(hj:j+1<=k:=by decide)(hdb:(x == ("__debug__" : Str))=false:=by decide)
  (he:starEach (e::es) X.env=(false,eval e X.env)::starEach es X.env:=by rfl) (hpl:(backTo pos (starEach es X.env)).any (·.1)=false:=by rfl):PE X (.Call (.Name x p) (e::es) [] pos) (zkA C sp [] E0 t):=by
 obtain⟨f,fd,M,F,hb,hm⟩:=G.ex
 exact zmV M F (hr.mono hj) hg hm hb .nil za5 ha hdb he hpl
theorem zrW(h:t σ H λvs H1=>∀ y dx,H1 y=none->H1 dx=none->dx≠y->sp (.ref y::vs) (upd (upd H1 dx (.own y)) y (.ins C dx [])) (λv H2=>v=.non/\Q (.ref y) H2) E0):zkA C sp [] E0 t σ H Q:=by
 have e:(λ(vs:List V) (H1:Hp)=>∀ y dx,H1 y=none->H1 dx=none->dx≠y->sp (.ref y::(vs++[])) (upd (upd H1 dx (.own y)) y (.ins C dx [])) (λv H2=>v=.non/\Q (.ref y) H2) E0)
   = λvs H1=>∀ y dx,H1 y=none->H1 dx=none->dx≠y->sp (.ref y::vs) (upd (upd H1 dx (.own y)) y (.ins C dx [])) (λv H2=>v=.non/\Q (.ref y) H2) E0:=by funext vs H1;rw[List.append_nil]
 show t σ H λvs H1=>∀ y dx,H1 y=none->H1 dx=none->dx≠y->sp (.ref y::(vs++[])) (upd (upd H1 dx (.own y)) y (.ins C dx [])) (λv H2=>v=.non/\Q (.ref y) H2) E0
 rw[e];exact h
end
variable {tv:TE}
section
variable {D:Ends}{f:Str}
theorem i_fld (h:ta σ H λx H1=>FldI K f x H1 Q):tFld K ta f σ H Q:=h
theorem zrX (h:tv σ H λy H1=>ta σ H1 λx H2=>FldS K f y x H2 (D.nx σ)):sFld K ta tv f D σ H:=h
end
theorem zqk{r':R2}{tb:TE}(h:ta σ H λx H1=>tb σ H1 λy H2=>r x y H2 λz H3=>∃ k,z=.bl k/\if k=true then tc σ H3 λw H4=>r' y w H4 Q else Q (.bl false) H3):zmN r r' ta tb tc σ H Q:=h
theorem zaj.nil: zaj H [] [] []:=by unfold zaj;exact⟨rfl,rfl⟩
theorem zaj.cint(h:zaj H ds xs fp):zaj H (.int i::ds) (.int i::xs) fp:=by
 unfold zaj;exact⟨_,_,[],fp,rfl,rfl,by unfold RepF;exact⟨rfl,rfl⟩,h⟩
theorem zaj.cany{f:List Addr}(q:RepF H d v f)(h:zaj H ds xs fp):zaj H (d::ds) (v::xs) (f++fp):=by
 unfold zaj;exact⟨_,_,f,fp,rfl,rfl,q,h⟩
theorem RepF.line(h:H a=some (.lst (ns.map V.int))):RepF H (nums ns) (.ref a) [a]:=by
 unfold RepF;exact⟨a,_,[],rfl,rfl,h,zaj.ints⟩
theorem RepF.pair{t:Addr}(h:H t=some (.tup [.int i,.int j])):RepF H (.tup [.int i,.int j]) (.ref t) []:=by
 unfold RepF;exact⟨t,_,rfl,h,zaj.nil.cint.cint⟩
theorem zaj.lines: ∀ {ls:List (List Int)}{vs:List V}{fp:List Addr},zaj H (ls.map nums) vs fp->vs=fp.map V.ref/\fp.length=ls.length/\∀ (i:Nat) (a:Addr),fp[i]?=some a->∃ l,ls[i]?=some l/\H a=some (.lst (l.map V.int))
 | [],_,_,h=>by
  rw[List.map_nil] at h;unfold zaj at h
  obtain⟨rfl,rfl⟩:=h
  exact⟨rfl,rfl,λi a e=>by simp at e⟩
 | l::ls,_,_,h=>by
  rw[zmc] at h;unfold zaj at h
  obtain⟨v,r,f,g,rfl,rfl,h1,h2⟩:=h
  obtain⟨rfl,e2,e3⟩:=zaj.lines h2
  unfold RepF at h1
  obtain⟨a,xs,r,rfl,rfl,e4,e5⟩:=h1
  obtain⟨rfl,rfl⟩:=zaj.ints_eq e5
  refine⟨rfl,by simp[e2],λi b e=>?_⟩
  cases i with
  | zero=>simp at e;subst e;exact⟨l,rfl,e4⟩
  | succ i=>exact e3 i b (by simpa using e)
theorem zjJ: PySem.W.kitOne K (.type "int") (.type "list")=some false:=by rfl
theorem zjK: PySem.W.kitOne K (.type "str") (.type "list")=some false:=by rfl
theorem zhP: PySem.W.kitOne K (.type "tuple") (.type "list")=some false:=by rfl
theorem zoE(h:SqL K H a ys)(q:∀ l,H l=none->Q (.ref l) (upd H l (.tup ys))):znj K [.ref a] H Q:=⟨a,ys,rfl,.inl ⟨h,q⟩⟩
theorem i_in{neg:Bool}{x:V}(h:SqL K H a xs\/SqT K H a xs)(f1:zeJ x=true)(f2:xs.all zeJ=true)(q:Q (.bl (if neg then !inV x xs else inV x xs)) H):rIn K neg x (.ref a) H Q:=⟨a,xs,rfl,h,f1,f2,q⟩
theorem zb1(hg:Gl X x)(hm:X.mg x=some (.ref a))(hd:(x == ("__debug__" : Str))=false:=by decide):PE X (.Name x pos) (tC (.ref a)):=zmA hg hm rfl hd
def News (H H':Hp)(ds:List D)(vs:List V):Prop:=∃ fp,zaj H' ds vs fp/\fp.Nodup/\∀ a∈fp,H a=none
theorem News.nil: News H H' [] []:=⟨[],zaj.nil,List.nodup_nil,λ_ m=>by cases m⟩
theorem New.news(h:New H H' (.lst ds) v):∃ a vs,v=.ref a/\H a=none/\H' a=some (.lst vs)/\News H H' ds vs:=by
 obtain⟨a,vs,fp,e1,e2,e3,e4,e5,_,e6⟩:=New.lso h
 exact⟨a,vs,e1,e2,e3,fp,e4,e5,e6⟩
def seqO:HO->Bool
 | .lst _=>true
 | .tup _=>true
 | .frz _ _=>true
 | _=>false
def Sq (H H':Hp):Prop:=∀ b o,H b=some o->seqO o=true->H' b=some o
theorem Same.sq(e:Same H H'):Sq H H':=λb o h _=>e b o h
theorem Sq.trans(a:Sq H H1)(b:Sq H1 H2):Sq H H2:=λc o h q=>b c o (a c o h q) q
theorem zeM{p:Addr}{u:HO}(h:H p=some u)(n:seqO u=false):Sq H (upd H p o):=λb w e q=>by
 rw[zai (λz=>by rw[z,h] at e;cases e;rw[n] at q;cases q)];exact e
theorem Sq.lst(e:Sq H H')(h:SqL K H a xs):SqL K H' a xs:=by
 rcases h with (h | ⟨o,h⟩) | h
 ·exact .inl (.inl (e _ _ h rfl))
 ·exact .inl (.inr ⟨o,e _ _ h rfl⟩)
 ·exact .inr h
theorem Sq.tup(e:Sq H H')(h:SqT K H a xs):SqT K H' a xs:=by
 rcases h with (h | ⟨o,h⟩) | h
 ·exact .inl (.inl (e _ _ h rfl))
 ·exact .inl (.inr ⟨o,e _ _ h rfl⟩)
 ·exact .inr h
mutual
theorem Rep.sq {K:Fg}{H H':Hp}(e:Sq H H'):∀ (d:D) {v:V},Rep K H d v->Rep K H' d v
 | .non,_,h=>by unfold Rep at *;exact h
 | .bl _,_,h=>by unfold Rep at *;exact h
 | .int _,_,h=>by unfold Rep at *;exact h
 | .str _,_,h=>by unfold Rep at *;exact h
 | .lst ds,_,h=>by
  unfold Rep at *
  obtain⟨a,xs,h1,h2,h3⟩:=h
  exact⟨a,xs,h1,e.lst h2,Reps.sq e ds h3⟩
 | .tup ds,_,h=>by
  unfold Rep at *
  obtain⟨a,xs,h1,h2,h3⟩:=h
  exact⟨a,xs,h1,e.tup h2,Reps.sq e ds h3⟩
theorem Reps.sq {K:Fg}{H H':Hp}(e:Sq H H'):∀ (ds:List D) {vs:List V},Reps K H ds vs->Reps K H' ds vs
 | [],_,h=>by unfold Reps at *;exact h
 | d::ds,_,h=>by
  unfold Reps at *
  obtain⟨v,r,h1,h2,h3⟩:=h
  exact⟨v,r,h1,Rep.sq e d h2,Reps.sq e ds h3⟩
end
mutual
theorem RepF.sq {H H':Hp}(e:Sq H H'):∀ (d:D) {v:V}{fp:List Addr},RepF H d v fp->RepF H' d v fp
 | .non,_,_,h=>by unfold RepF at *;exact h
 | .bl _,_,_,h=>by unfold RepF at *;exact h
 | .int _,_,_,h=>by unfold RepF at *;exact h
 | .str _,_,_,h=>by unfold RepF at *;exact h
 | .lst ds,_,_,h=>by
  unfold RepF at *
  obtain⟨a,xs,r,h1,h0,h2,h3⟩:=h
  exact⟨a,xs,r,h1,h0,e _ _ h2 rfl,zaj.sq e ds h3⟩
 | .tup ds,_,_,h=>by
  unfold RepF at *
  obtain⟨a,xs,h1,h2,h3⟩:=h
  exact⟨a,xs,h1,e _ _ h2 rfl,zaj.sq e ds h3⟩
theorem zaj.sq {H H':Hp}(e:Sq H H'):∀ (ds:List D) {vs:List V}{fp:List Addr},zaj H ds vs fp->zaj H' ds vs fp
 | [],_,_,h=>by unfold zaj at *;exact h
 | d::ds,_,_,h=>by
  unfold zaj at *
  obtain⟨v,r,f,g,h1,h0,h2,h3⟩:=h
  exact⟨v,r,f,g,h1,h0,RepF.sq e d h2,zaj.sq e ds h3⟩
end
def Free (H H':Hp):Prop:=∀ a,H' a=none->H a=none
theorem Same.fr(e:Same H H'):Free H H':=λ_ h=>e.free h
theorem Free.trans(a:Free H H1)(b:Free H1 H2):Free H H2:=λc h=>a c (b c h)
theorem zda{p:Addr}: Free H (upd H p o):=λa h=>by
 by_cases e:a=p
 ·subst e;rw[zac] at h;cases h
 ·rw[zai e] at h;exact h
theorem News.sq(e:Sq H1 H2)(h:News H H1 ds vs):News H H2 ds vs:=by
 obtain⟨fp,h1,h2,h3⟩:=h
 exact⟨fp,zaj.sq e ds h1,h2,h3⟩
theorem New.sq(e:Sq H1 H2)(h:New H H1 d v):New H H2 d v:=by
 obtain⟨fp,h1,h2,h3⟩:=h
 exact⟨fp,RepF.sq e d h1,h2,h3⟩
theorem News.snoc'(h:News H H1 ds vs)(e:Free H H1)(e2:Same H1 H2)(n:New H1 H2 d v):News H H2 (ds++[d]) (vs++[v]):=by
 obtain⟨fp,h1,h2,h3⟩:=h
 obtain⟨fq,g1,g2,g3⟩:=n
 refine⟨fp++fq,(zaj.sq e2.sq ds h1).snoc g1,List.nodup_append.mpr ⟨h2,g2,λa ha b hb z=>?_⟩,λa m=>?_⟩
 ·subst z
  obtain⟨o,ho⟩:=zaj.has ds h1 a ha
  have:=g3 a hb
  rw[ho] at this;cases this
 ·rcases zma.mp m with m | m
  ·exact h3 a m
  ·exact e a (g3 a m)
def Part (H:Hp)(d:D)(x:V):Prop:=(∃ i,d=.int i/\x=.int i)\/(∃ s,d=.str s/\x=.str s)\/(∃ b l,d=nums l/\x=.ref b/\H b=some (.lst (l.map V.int)))\/∃ b i j,d=.tup [.int i,.int j]/\x=.ref b/\H b=some (.tup [.int i,.int j])
def zch (H:Hp)(d:D)(v:V):Prop:=∃ t xs ds,d=.tup ds/\v=.ref t/\H t=some (.tup xs)/\ds.length=xs.length/\ds.length<=8/\∀ (i:Nat) dd x,ds[i]?=some dd->xs[i]?=some x->Part H dd x
theorem Part.sq(e:Sq H H'){x:V}(h:Part H d x):Part H' d x:=by
 rcases h with h | h | ⟨b,l,h1,h2,h3⟩ | ⟨b,i,j,h1,h2,h3⟩
 ·exact .inl h
 ·exact .inr (.inl h)
 ·exact .inr (.inr (.inl ⟨b,l,h1,h2,e _ _ h3 rfl⟩))
 ·exact .inr (.inr (.inr ⟨b,i,j,h1,h2,e _ _ h3 rfl⟩))
theorem zch.sq(e:Sq H H')(h:zch H d v):zch H' d v:=by
 obtain⟨t,xs,ds,h1,h2,h3,h4,h5,h6⟩:=h
 exact⟨t,xs,ds,h1,h2,e _ _ h3 rfl,h4,h5,λi dd x e1 e2=>(h6 i dd x e1 e2).sq e⟩
def znm (d:D):Prop:=(∃ i,d=.int i)\/(∃ s,d=.str s)\/(∃ l,l.length=9/\d=nums l)\/∃ i j,d=.tup [.int i,.int j]
theorem zql(s:znm d)(h:RepF H d v fp):Part H d v:=by
 rcases s with ⟨i,rfl⟩ | ⟨i,rfl⟩ | ⟨l,_,rfl⟩ | ⟨i,j,rfl⟩
 ·unfold RepF at h;exact .inl ⟨i,rfl,h.1⟩
 ·unfold RepF at h;exact .inr (.inl ⟨i,rfl,h.1⟩)
 ·unfold RepF at h
  obtain⟨a,xs,r,h1,_,h2,h3⟩:=h
  obtain⟨rfl,_⟩:=zaj.ints_eq h3
  exact .inr (.inr (.inl ⟨a,l,rfl,h1,h2⟩))
 ·unfold RepF at h
  obtain⟨a,xs,h1,h2,h3⟩:=h
  have q:=zaj.ints_eq (ns:=[i,j]) h3
  rw[q.1] at h2
  exact .inr (.inr (.inr ⟨a,i,j,rfl,h1,h2⟩))
theorem zlr: ∀ {ds:List D}{xs:List V}{fp:List Addr},(∀ d∈ds,znm d)->zaj H ds xs fp->∀ (i:Nat) dd x,ds[i]?=some dd->xs[i]?=some x->Part H dd x
 | [],_,_,_,_,i,dd,x,e,_=>by simp at e
 | d::ds,_,_,s,h,i,dd,x,e1,e2=>by
  unfold zaj at h
  obtain⟨v,r,f,g,rfl,_,h1,h2⟩:=h
  cases i with
  | zero=>simp at e1 e2;subst e1;subst e2;exact zql (s d List.mem_cons_self) h1
  | succ i=>exact zlr (λc hc=>s c (List.mem_cons_of_mem _ hc)) h2 i dd x (by simpa using e1) (by simpa using e2)
def Deed (d:D):Prop:=∃ ds,d=.tup ds/\ds.length<=8/\∀ c∈ds,znm c
theorem znn(s:Deed d)(h:RepF H d v fp):zch H d v:=by
 obtain⟨ds,rfl,h8,hs⟩:=s
 unfold RepF at h
 obtain⟨a,xs,h1,h2,h3⟩:=h
 exact⟨a,xs,ds,rfl,h1,h2,h3.length,h8,zlr hs h3⟩
def Acc (H:Hp)(da:Addr)(H2:Hp)(ds:List D)(vs:List V):Prop:=∃ fp,H2 da=some (.lst vs)/\zaj H2 ds vs fp/\fp.Nodup/\da∉fp/\∀ b∈fp,H b=none
variable {da:Addr}
theorem Acc.new(a:Acc H da H2 ds vs)(h:H da=none):New H H2 (.lst ds) (.ref da):=by
 obtain⟨fp,h1,h2,h3,h4,h5⟩:=a
 exact New.lst h2 h3 h5 h h4 h1
theorem zpu{d1 d2 d3 d4:D}(h:zaj H [d1,d2,d3,d4] vs fp):∃ x1 x2 x3 x4 f1 f2 f3 f4,vs=[x1,x2,x3,x4]/\RepF H d1 x1 f1/\RepF H d2 x2 f2/\RepF H d3 x3 f3/\RepF H d4 x4 f4:=by
 unfold zaj at h
 obtain⟨x1,_,f1,_,rfl,_,h1,h⟩:=h
 unfold zaj at h
 obtain⟨x2,_,f2,_,rfl,_,h2,h⟩:=h
 unfold zaj at h
 obtain⟨x3,_,f3,_,rfl,_,h3,h⟩:=h
 unfold zaj at h
 obtain⟨x4,_,f4,_,rfl,_,h4,h⟩:=h
 unfold zaj at h
 obtain⟨rfl,_⟩:=h
 exact⟨x1,x2,x3,x4,f1,f2,f3,f4,rfl,h1,h2,h3,h4⟩
theorem RepF.lso{x:V}(h:RepF H (.lst ds) x fp):∃ b xs r,x=.ref b/\H b=some (.lst xs)/\zaj H ds xs r:=by
 unfold RepF at h
 obtain⟨b,xs,r,e1,_,e3,e4⟩:=h
 exact⟨b,xs,r,e1,e3,e4⟩
theorem zaj.item: ∀ {ds:List D}{xs:List V}{fp:List Addr},zaj H ds xs fp->∀ (i:Nat) d x,ds[i]?=some d->xs[i]?=some x->∃ f,RepF H d x f
 | [],_,_,_,i,d,x,e,_=>by simp at e
 | c::ds,_,_,h,i,d,x,e1,e2=>by
  unfold zaj at h
  obtain⟨v,r,f,g,rfl,_,h1,h2⟩:=h
  cases i with
  | zero=>simp at e1 e2;subst e1;subst e2;exact⟨f,h1⟩
  | succ i=>exact zaj.item h2 i d x (by simpa using e1) (by simpa using e2)
variable {Y:Prop}
theorem zdx{b:Bool}{X:Prop}(h1:b=true->X)(h2:b=false->Y):∃ c,V.bl b=.bl c/\(if c=true then X else Y):=by
 cases b with
 | true=>exact⟨true,rfl,iteT (h1 rfl)⟩
 | false=>exact⟨false,rfl,iteF (h2 rfl)⟩
theorem zeK{b:Bool}{X:Prop}(h1:b=true->X)(h2:b=false->Y):(if b=true then X else Y):=by
 cases b with
 | true=>exact iteT (h1 rfl)
 | false=>exact iteF (h2 rfl)
theorem zrY(h1:SqT K H a xs)(h2:SqT K H b ys)(nx:xs≠[])(ny:ys≠[])(z:xs.length+ys.length<=sizeLine)(q:∀ p,H p=none->Q (.ref p) (upd H p (.tup (xs++ys)))):zl5 K (.ref a) (.ref b) H Q:=
 .inr (.inr ⟨a,b,xs,ys,rfl,rfl,h1,h2,nx,z,λe=>absurd e ny,λ_=>q⟩)
theorem zes(h:Rep K H (.tup ds) v):∃ a xs,v=.ref a/\SqT K H a xs/\Reps K H ds xs:=by unfold Rep at h;exact h
open PySem.W
theorem zbU.has{h:Heap}(x:zbU P w H h a o):∃ u,h.get? a=some u:=by
 cases o with
 | lst xs=>obtain⟨_,_,_,_,e⟩:=x;exact⟨_,e⟩
 | tup xs=>obtain⟨_,_,_,_,e,_⟩:=x;exact⟨_,e⟩
 | dK kvs=>obtain⟨_,_,_,_,o,_,_,e,_⟩:=x;exact⟨_,e⟩
 | dT kvs=>obtain⟨_,_,_,_,o,_,_,e,_⟩:=x;exact⟨_,e⟩
 | set S n=>obtain⟨o,_,_,_,e,_⟩:=x;exact⟨_,e⟩
 | ins C dx fs=>obtain⟨_,_,_,e,_⟩:=x;exact⟨_,e⟩
 | own y=>obtain⟨_,e⟩:=x;exact⟨_,e⟩
 | xd fs=>obtain⟨_,⟨_,_,_,e,_⟩,_⟩:=x;exact⟨_,e⟩
 | rng lo hi=>obtain⟨_,_,_,e⟩:=x;exact⟨_,e⟩
 | frz ob u=>obtain⟨e,_⟩:=x;exact⟨_,e⟩
 | tbl ps=>exact⟨_,show h.get? a=some _ from x⟩
 | met f y=>exact⟨_,show h.get? a=some _ from x⟩
 | ext φ=>obtain⟨_,⟨_,e⟩,_⟩:=x;exact⟨_,e⟩
def zjL (h:Heap)(e T:Addr)(cls fl:Value):Prop:=∃ oe vs oT ts,h.get? e=some oe/\oe.cls=cls/\oe.dict=none/\oe.data=.fields vs/\vs[1]?=some (.ref T)/\T≠e/\h.get? T=some oT/\oT.data=.fields ts/\ts[3]?=some fl
def zhc (fr as:List Addr)(h h':Heap):Prop:=(∀ b o,h.get? b=some o->b∉fr->b∉as->h'.get? b=some o)/\∀ b o,h.get? b=some o->b∈fr->b∉as->∃ sl,h'.get? b=some {o with slots:=sl}
variable {as:List Addr}
theorem zhc.up{fr:List Addr}{h:Heap}(k:zhc fr as h h'){o:Obj}(e:h.get? b=some o)(n:b∉as):∃ sl,h'.get? b=some {o with slots:=sl}:=by
 by_cases m:b∈fr
 ·exact k.2 b o e m n
 ·exact⟨o.slots,k.1 b o e m n⟩
variable {T L:Addr}{outer:List Env}{oe:Obj}{M:Model}
section
variable {E:Value->Shared->Prop}
variable {e:Addr}{Q:Unit->Shared->Prop}
theorem zjM{vs:Array Value}{head:Value}{hadNext:Bool}(hfr:A.frames=some (env::outer))(hl:s.heap.FunFrames base (env::outer))(hf:env.frame=some L)(he:s.heap.get? e=some oe)(hd:oe.data=.fields vs)(hsz:1<vs.size)(hdi:oe.dict=none)(h:∀ h' T,s.heap.get? T=none->zjL h' e T oe.cls (rawInt L)->zhc (frs (env::outer)) [e] s.heap h'->Q () {s with heap:=h'}):
  wpAny M A (do let a <-frameOf env;let pl <-entryPlaceOf L hadNext;let b <-EntryCells.newEntry head a .none (rawInt L) .none pl;setField (.ref e) 1 b) Q E s:=by
 have hene:e∉(env::outer).filterMap (·.frame):=λhm=>by
  obtain⟨_,o,ho,hnf⟩:=hl.mem hm
  rw[he] at ho;injection ho with ho;subst ho;exact hnf vs hd
 refine wpAny_bind (wpAny_frameOf_fun hfr hl hf λh₁ hs₁=>?_)
 refine wpAny_bind (wpAny_entryPlaceOf λpl hpl=>?_)
 unfold EntryCells.newEntry newFields
 refine wpAny_bind (wpAny_newObj_type ?_ (hpl.sizeOk5 _ _ _ _ _))
 have he₁:h₁.get? e=some oe:=(hs₁.2.1 e hene).trans he
 have he₂:=Heap.get?_push_of_some (h:=h₁) {cls:=.type "traceback",dict:=none,data:=.fields ([head,.ref L,.none,rawInt L,.none]++(if pl.isEmpty then List.replicate 6 Value.none else pl)).toArray} he₁
 refine wpAny_setField he₂ hd hsz (h _ h₁.objs.size (Heap.get?_none_of_le (by rw[hs₁.1];exact Nat.le_refl _)) ?_ ?_)
 ·have hTe:h₁.objs.size≠e:=Nat.ne_of_gt (Heap.lt_size he₁)
  have hd₃:=Obj.data_mapFields hd (·.setIfInBounds 1 (Value.ref h₁.objs.size))
  have he₃:=Heap.get?_update_self (Obj.mapFields (·.setIfInBounds 1 (Value.ref h₁.objs.size))) he₂ (Obj.isFreed_of_fields hd₃)
  have hT₃:=(Heap.get?_update_other (h₁.push {cls:=.type "traceback",dict:=none,data:=.fields ([head,.ref L,.none,rawInt L,.none]++(if pl.isEmpty then List.replicate 6 Value.none else pl)).toArray})
   (Obj.mapFields (·.setIfInBounds 1 (Value.ref h₁.objs.size))) (Ne.symm hTe)).trans (Heap.get?_push_size h₁ rfl)
  refine⟨_,_,_,_,he₃,Obj.cls_mapFields _ _,?_,hd₃,by simp[hsz],hTe,hT₃,rfl,by first | (simp;done) | (rcases hpl with rfl | ⟨_,_,_,_,_,_,_,rfl⟩ <;> simp)⟩
  obtain⟨c,di,dt,sl⟩:=oe
  cases hd
  exact hdi
 ·have keep:∀ b o,b≠e->h₁.get? b=some o->((h₁.push {cls:=.type "traceback",dict:=none,data:=.fields ([head,.ref L,.none,rawInt L,.none]++(if pl.isEmpty then List.replicate 6 Value.none else pl)).toArray}).update e (Obj.mapFields (·.setIfInBounds 1 (Value.ref h₁.objs.size)))).get? b=some o:=λb o hbe hb=>by
   rw[Heap.get?_update_other _ _ (Ne.symm hbe)]
   exact Heap.get?_push_of_some _ hb
  refine⟨λb o eb n1 n2=>keep b o (λz=>n2 (by simp[z])) ((hs₁.2.1 b n1).trans eb),λb o eb m n=>?_⟩
  obtain⟨sl,hsl⟩:=hs₁.2.2 b o eb
  exact⟨sl,keep b _ (λz=>n (by simp[z])) hsl⟩
theorem zgJ{fr:List Addr}{cls fl:Value}(F:zjL s.heap e T cls fl)(h:∀ h',zjL h' e T cls .none->zhc fr [T] s.heap h'->Q () {s with heap:=h'}):wpAny M A (setFlight (.ref e) none) Q E s:=by
 obtain⟨oe,vs,oT,ts,he,hcls,hdi,hd,h1,hTe,hT,hdT,h3⟩:=F
 have hsz3:3<ts.size:=(Array.getElem?_eq_some_iff.mp h3).1
 have other:∀ b,b≠T->(s.heap.update T (Obj.mapFields (·.setIfInBounds 3 ((none:Option Addr).elim Value.none λf=>rawInt f)))).get? b=s.heap.get? b:=λb hb=>Heap.get?_update_other _ _ (Ne.symm hb)
 unfold setFlight
 refine wpAny_bind (wpAny_field he hd h1 ?_)
 rw[if_pos (show (Value.ref T != Value.none)=true from by simp)]
 refine wpAny_setField hT hdT hsz3 (h _ ?_ ⟨λb o e n1 n2=>(other b (λz=>n2 (by simp[z]))).trans e,λb o e m n=>⟨o.slots,(other b (λz=>n (by simp[z]))).trans e⟩⟩)
 exact⟨oe,vs,_,_,(other e (Ne.symm hTe)).trans he,hcls,hdi,hd,h1,hTe,Heap.get?_update_self _ hT (Obj.isFreed_of_fields (Obj.data_mapFields hdT _)),Obj.data_mapFields hdT _,by simp[hsz3]⟩
theorem zls{cls:Value}(hfr:A.frames=some (env::outer))(hl:s.heap.FunFrames base (env::outer))(hf:env.frame=some L)(F:zjL s.heap e T cls .none)(h:∀ h' T',s.heap.get? T'=none->zjL h' e T' cls (rawInt L)->zhc (frs (env::outer)) [e,T] s.heap h'->Q () {s with heap:=h'}):wpAny M A (noteFrame (.ref e) env) Q E s:=by
 obtain⟨oe,vs,oT,ts,he,hcls,hdi,hd,h1,hTe,hT,hdT,h3⟩:=F
 subst hcls
 have hsz3:3<ts.size:=(Array.getElem?_eq_some_iff.mp h3).1
 have other:∀ b,b≠T->(s.heap.update T (Obj.mapFields (·.setIfInBounds 3 Value.none))).get? b=s.heap.get? b:=λb hb=>Heap.get?_update_other _ _ (Ne.symm hb)
 have noRecord:∀ b o,s.heap.get? b=some o->(∀ vs,o.data≠.fields vs)->b≠T:=λb o hb hnf q=>by
  rw[q,hT] at hb;injection hb with hb;subst hb;exact hnf ts hdT
 unfold noteFrame
 simp only[hf]
 refine wpAny_bind (wpAny_field he hd h1 ?_)
 rw[if_pos (show (Value.ref T != Value.none)=true from by simp)]
 refine wpAny_bind (wpAny_field hT hdT h3 ?_)
 rw[if_neg (show ¬ ((Value.none == rawInt L)=true) from by simp[rawInt])]
 refine wpAny_bind (wpAny_setField hT hdT hsz3 ?_)
 refine zjM hfr (hl.of_keeps λb o hb hnf=>⟨o,(other b (noRecord b o hb hnf)).trans hb,rfl⟩) hf ((other e (Ne.symm hTe)).trans he) hd (Array.getElem?_eq_some_iff.mp h1).1 hdi λh' T' n F' k=>?_
 have nT':s.heap.get? T'=none:=by
  by_cases z:T'=T
  ·subst z
   rw[Heap.get?_update_self _ hT (Obj.isFreed_of_fields (Obj.data_mapFields hdT _))] at n
   cases n
  ·rw[<-other T' z];exact n
 refine h h' T' nT' F' ⟨λb o eb n1 n2=>k.1 b o ((other b (λz=>n2 (by simp[z]))).trans eb) n1 (λz=>n2 (by simp at z;simp[z])),λb o eb m n2=>k.2 b o ((other b (λz=>n2 (by simp[z]))).trans eb) m (λz=>n2 (by simp at z;simp[z]))⟩
end
def Fly (h0 h:Heap)(H:Hp)(e:Addr)(cls:Value):Prop:=∃ T,zjL h e T cls .none/\H e=none/\H T=none/\h0.get? e=none/\h0.get? T=none
def CX1 (P:Program)(w:World):CXT:=λouter H s E e s'=>∃ a C H',e=.ref a/\s'.os=s.os/\AllBare s'.gens/\Un (frs outer) [] H H' s.heap s'.heap/\HOk P w H' s'.heap/\Fly s.heap s'.heap H' a C/\E C none H'
variable {s2:Shared}{cd:Value}{E:XK}
section
theorem zlt(I:Inv X pins σ H2 s2)(hex:X.ex=[])(n:s2.heap.get? b=none):X.s₀.heap.get? b=none:=by
 cases z:X.s₀.heap.get? b with
 | none=>rfl
 | some o=>
  obtain⟨u,hu⟩:=I.base.there b o z (by rw[hex];simp)
  rw[n] at hu;cases hu
theorem zrZ(I:Inv X pins σ H2 s2)(n:s2.heap.get? b=none):H2 b=none:=by
 cases z:H2 b with
 | none=>rfl
 | some o=>
  obtain⟨u,hu⟩:=(I.hok b o z).has
  rw[n] at hu;cases hu
variable {C:Value}
theorem zno(I:Inv (cxOf (CX1 P w) P w K mg base N qual scope f cd A outer s H E) pins σ H2 s2)(hx:H2 a=none)(hx0:s.heap.get? a=none)(has:∀ b∈as,H2 b=none/\s.heap.get? b=none)(nT:s2.heap.get? T=none)(F:zjL h' a T C .none)(L:zhc (frs (cxOf (CX1 P w) P w K mg base N qual scope f cd A outer s H E).stack) as s2.heap h')(q:E C none H2):CX1 P w outer H s E (.ref a) {s2 with heap:=h'}:=by
 have fr:∀ b,b∈frs (cxOf (CX1 P w) P w K mg base N qual scope f cd A outer s H E).stack->b=s.heap.objs.size\/b∈frs outer:=λb hb=>by
  obtain⟨ev,he,hf⟩:=List.mem_filterMap.mp hb
  rcases List.mem_cons.mp he with z | z
  ·subst z;exact .inl (Option.some.inj hf).symm
  ·exact .inr (List.mem_filterMap.mpr ⟨ev,z,hf⟩)
 have nsz:s.heap.get? s.heap.objs.size=none:=Heap.get?_none_of_le (Nat.le_refl _)
 have hidden:∀ b,s.heap.get? b≠none->b∉as:=λb n m=>n (has b m).2
 refine⟨a,C,H2,rfl,I.os,I.bare,⟨λb o e n nf _=>?_,λb o e n nf _=>?_,λb o e n _=>I.base.free b o e n (by intro m;cases m),λb o e _=>?_,I.base.tups,I.base.frzs,I.base.tbls⟩,λb u e=>?_,⟨T,F,hx,zrZ I nT,hx0,zlt I rfl nT⟩,q⟩
 ·refine L.1 b o (I.base.keep b o e n nf (by intro m;cases m)) (λm=>?_) (hidden b (by rw[e];simp))
  rcases fr b m with z | z
  ·subst z;rw[nsz] at e;cases e
  ·exact nf z
 ·obtain⟨sl,e'⟩:=I.base.slot b o e n nf (by intro m;cases m)
  obtain⟨sl2,e2⟩:=L.up e' (hidden b (by rw[e];simp))
  exact⟨sl2,e2⟩
 ·obtain⟨o2,h2⟩:=I.base.there b o e (by intro m;cases m)
  obtain⟨sl,e5⟩:=L.up h2 (hidden b (by rw[e];simp))
  exact⟨_,e5⟩
 ·refine (I.hok b u e).stay (λc v hc q=>L.1 c v q (λm=>?_) (λm=>?_)) (λ_ q=>q) λ_ _ q=>q
  ·have:=I.stkFree c m
   rcases hc with z | z
   ·subst z;rw[e] at this;cases this
   ·rw[z] at this;cases this
  ·have:=(has c m).1
   rcases hc with z | z
   ·subst z;rw[e] at this;cases this
   ·rw[z] at this;cases this
theorem zoF(I:Inv (cxOf (CX1 P w) P w K mg base N qual scope f cd A outer s H E) pins σ H2 s2)(F:Fly s.heap s2.heap H2 a C)(q:E C none H2):(cxOf (CX1 P w) P w K mg base N qual scope f cd A outer s H E).xe (.ref a) s2:=by
 obtain⟨T,F,hx,hT,hx0,hT0⟩:=F
 show wpAny _ _ (leaving _ _) _ _ _
 unfold leaving
 refine wpAny_bind (zls (outer:=outer) I.ok.frames I.stack rfl F λh1 T1 n1 F1 k1=>?_)
 refine zgJ (fr:=frs (cxOf (CX1 P w) P w K mg base N qual scope f cd A outer s H E).stack) F1 λh2 F2 k2=>?_
 refine zno (s2:=s2) (h':=h2) (as:=[a,T]) I hx hx0 (λb m=>?_) n1 F2 ⟨λb o e m n=>k2.1 b o (k1.1 b o e m n) m (λz=>by rw[zms.mp z,n1] at e;cases e),λb o e m n=>?_⟩ q
 ·rcases List.mem_cons.mp m with z | z
  ·subst z;exact⟨hx,hx0⟩
  ·rw[zms.mp z];exact⟨hT,hT0⟩
 ·obtain⟨sl,e1⟩:=k1.2 b o e m n
  obtain⟨sl2,e2⟩:=k2.up e1 (λz=>by rw[zms.mp z,n1] at e;cases e)
  exact⟨sl2,e2⟩
theorem pass1{e:Value}(I:Inv (cxOf (CX1 P w) P w K mg base N qual scope f cd A outer s H E) pins σ H2 s2)(h:CX1 P w (cxOf (CX1 P w) P w K mg base N qual scope f cd A outer s H E).stack H2 s2 E e s3):(cxOf (CX1 P w) P w K mg base N qual scope f cd A outer s H E).xe e s3:=by
 obtain⟨a,C,H3,rfl,os,bare,un,hok,⟨T,F,hx,hT,hx0,hT0⟩,q⟩:=h
 exact zoF (I.call' os un hok bare (λb z=>absurd z (by simp))) ⟨T,F,hx,hT,zlt I rfl hx0,zlt I rfl hT0⟩ q
theorem zhd:zcA (CX1 P w) (cxOf (CX1 P w) P w K mg base N qual scope f cd A outer s H E) E:=λ_ _ _ _ _ _ I h=>pass1 I h
theorem znp{h3:Heap}{args:List Value}(I:Inv (cxOf (CX1 P w) P w K mg base N qual scope f cd A outer s H E) pins σ H2 s2)(M:Heap.MadeExcOf s2.heap h3 a C args)(q:E C none H2):(cxOf (CX1 P w) P w K mg base N qual scope f cd A outer s H E).xe (.ref a) {s2 with heap:=h3}:=by
 obtain⟨t,he,htn,ht⟩:=M.there
 have I3:Inv (cxOf (CX1 P w) P w K mg base N qual scope f cd A outer s H E) pins σ H2 {s2 with heap:=h3}:=I.un (h':=h3) (t':=s2.toks) (Un.kept M.keeps) (I.hok.kept M.keeps)
 have hx:=zrZ I M.new
 have hx0:s.heap.get? a=none:=zlt I rfl M.new
 show wpAny _ _ (leaving _ _) _ _ _
 unfold leaving noteFrame
 show wpAny _ _ ((do let head <-field (.ref a) 1;_) >>= _) _ _ _
 refine wpAny_bind (wpAny_bind (wpAny_field he rfl (x:=.none) rfl ?_))
 rw[if_neg (by decide)]
 refine zjM (outer:=outer) I3.ok.frames I3.stack rfl he rfl (by simp) rfl λh1 T1 n1 F1 k1=>?_
 refine zgJ (fr:=frs (cxOf (CX1 P w) P w K mg base N qual scope f cd A outer s H E).stack) F1 λh2 F2 k2=>?_
 have n1':h3.get? T1=none:=n1
 refine zno (s2:={s2 with heap:=h3}) (h':=h2) (as:=[a]) I3 hx hx0 (λb m=>by rw[zms.mp m];exact⟨hx,hx0⟩) n1' F2 ⟨λb o e m n=>k2.1 b o (k1.1 b o e m n) m (λz=>by rw[zms.mp z] at e;rw[show h3.get? T1=some o from e] at n1';cases n1'),λb o e m n=>?_⟩ q
 obtain⟨sl,e1⟩:=k1.2 b o e m n
 obtain⟨sl2,e2⟩:=k2.up e1 (λz=>by rw[zms.mp z] at e;rw[show h3.get? T1=some o from e] at n1';cases n1')
 exact⟨sl2,e2⟩
end
structure Err (K:Fg)(C:Addr)(anc:List Value):Prop where
 ob:∃ nm q N bs hdct sn sub ab col dd k0 k1 k2 k3 k5,K.lookup C=some (excClassObj nm q C N bs anc hdct sn sub ab col dd k0 k1 k2 k3 k5 "ValueError.__new__")
 ex:excIn K C zbl "ValueError.__new__"=true
variable {anc:List Value}
theorem Err.obj{h:Heap}(X:K.In h)(e:Err K C anc):∃ nm q N bs hdct sn sub ab col dd k0 k1 k2 k3 k5 mN,h.get? C=some (excClassObj nm q C N bs anc hdct sn sub ab col dd k0 k1 k2 k3 k5 "ValueError.__new__")/\h.Ns N mN/\mN "__init__"=none/\OwnTail h zbl anc:=by
 obtain⟨⟨nm,q,N,bs,hdct,sn,sub,ab,col,dd,k0,k1,k2,k3,k5,l⟩,x⟩:=e
 unfold excIn at x
 rw[l] at x
 simp only[Bool.and_eq_true,beq_iff_eq,Bool.not_eq_true'] at x
 obtain⟨⟨⟨_,ht⟩,hok⟩,hni⟩:=x
 exact⟨nm,q,N,bs,hdct,sn,sub,ab,col,dd,k0,k1,k2,k3,k5,_,X _ _ l,.of_isNs (isNs_of_in X hok),nsMap_none_of_in X hok hni,tail_of_in X ht⟩
def zpv (X:Cx)(E:XK):Prop:=∀ (pins:List (Addr × Obj)) (σ:St) (H:Hp) (s:Shared) (h':Heap) (a:Addr) (C:Value) (args:List Value),Inv X pins σ H s->Heap.MadeExcOf s.heap h' a C args->E C none H->X.xe (.ref a) {s with heap:=h'}
theorem zfU:
  zpv (cxOf (CX1 P w) P w K mg base N qual scope f cd A outer s H E) E:=λ_ _ _ _ _ _ _ _ I M q=>znp I M q
def zpw (C:Value)(E:XK)(t:TA):TS:=λ_ σ H=>t σ H λvs H1=>vs.length<=sizeLine/\E C none H1
variable {np:Pos}
section
variable {cpos:Pos}{e0:Expr}{rest:List Expr}{t:TA}
theorem zeH (c:Err X.K C anc)(hg:Gl X x)(hm:X.mg x=some (.ref C))(hc:X.calm=true)(ht:zpv X E)(ha:PA X (e0::rest) t)(he:starEach (e0::rest) X.env=(false,eval e0 X.env)::starEach rest X.env:=by rfl)
  (hpl:(backTo cpos (starEach rest X.env)).any (·.1)=false:=by rfl) (hd:(x == ("__debug__" : Str))=false:=by decide):PS X (.Raise (some (.Call (.Name x np) (e0::rest) [] cpos)) none pos) (zpw (.ref C) E t):=by
 intro pins s σ H D I h
 obtain⟨nm,q,N,bs,hdct,sn,sub,ab,col,dd,k0,k1,k2,k3,k5,mN,hC,hN,hni,T⟩:=c.obj I.ok.mod.kin
 refine wpAny_Raise_call_subT (C:=C) (nm:=nm) (q:=q) (N:=N) (bs:=bs) (bm:=anc) (hdct:=hdct) (sn:=sn) (sub:=sub) (ab:=ab) (col:=col) (dd:=dd) (k0:=k0) (k1:=k1) (k2:=k2) (k3:=k3) (k5:=k5)
  PySem.F.excBase_ValueError (mN:=mN) (T.hasType PySem.F.excBase_ValueError.hasBase) (I.ok.hd hc) (by rw[he];show (false || (backTo cpos (starEach rest X.env)).any (·.1))=false;rw[hpl];rfl) hni (ze2 I hg hm ⟨rfl,?_⟩ hd)
 have h2:=ha cpos pins s σ H _ I h
 rw[he] at h2 ⊢
 refine Calls.evalArgs_plain (wpAny_mono h2 (λus s2 h2=>?_) λ_ _ y=>y)
 obtain⟨vs,H1,I1,r,z,q⟩:=h2
 exact⟨rfl,by rw[<-r.length];exact z,I1.bk _ _ hC,hN.keeps I1.bk,T.keeps I1.bk,λh' e M=>ht pins σ H1 s2 h' e _ _ I1 M q⟩
end
section
theorem Fun.okx{k:Nat}(F:Fun K x qual st f fd)(S:FSc N ps (zae st))(len:∀ vs H Q E,sp vs H Q E->vs.length=ps.length)(hbody:∀ (cdv:Value) (A:Around) (outer:List Env) (s:Shared) (H:Hp) (vs:List V) (Q:VK) (E:XK),Room k (A.deeper (envOfC qual (zae st) s.heap.objs.size f cdv))->sp vs H Q E->
   ∃ t,PSs (cxOf (CX1 P w) P w K mg base N qual (zae st) f cdv A outer s H E) (zb4 st) t/\t {nx:=λ_ H'=>Q .non H',rt:=Q} (start N vs) H):FnOk P w K mg base (CX1 P w) (k+1) f fd ps sp:=by
 obtain⟨oc,od,kV,doc,pm,an,cdv,ct,osl,rfl,lk,hcd⟩:=F.ex
 exact zrf lk hcd S len λA outer s H vs Q E hr hsp=>hbody cdv A outer s H vs Q E hr hsp
end
structure Fnx (P:Program)(w:World)(K:Fg)(mg:Str->Option Value)(base:Heap)(x:Str)(ps:List Str)(k:Nat)(sp:Sp):Prop where
 ex:∃ f fd,FnOk P w K mg base (CX1 P w) k f fd ps sp/\zd6 K fd ps []/\PySem.W.keepIn K (.ref f)=true/\mg x=some (.ref f)
structure Mkx (P:Program)(w:World)(K:Fg)(mg:Str->Option Value)(base:Heap)(x:Str)(C:Addr)(ps:List Str)(k:Nat)(sp:Sp):Prop where
 ex:∃ f fd,Mk K C f/\FnOk P w K mg base (CX1 P w) k f fd ps sp/\zd6 K fd ps []/\mg x=some (.ref C)
structure Mth (CX:CXT)(P:Program)(w:World)(K:Fg)(mg:Str->Option Value)(base:Heap)(C:Addr)(m:Str)(ps:List Str)(k:Nat)(sp:Sp):Prop where
 ex:∃ f fd,Meth K C m f/\FnOk P w K mg base CX k f fd ps sp/\zd6 K fd ps []
variable {pl:Sem Bool}{apos:Pos}
section
variable {k j:Nat}{m:Str}{o:Expr}{t:TA}
theorem zpx (G:Fnx X.prog X.w X.K X.mg X.base x ps j sp)(hr:Room k X.A)(hg:Gl X x)(hx:zcA (CX1 X.prog X.w) X E)(ha:PA X (e::es) t)(hj:j<=k:=by decide)(hdb:(x == ("__debug__" : Str))=false:=by decide)
  (he:starEach (e::es) X.env=(false,eval e X.env)::starEach es X.env:=by rfl) (hpl:(backTo pos (starEach es X.env)).any (·.1)=false:=by rfl):PE X (.Call (.Name x p) (e::es) [] pos) (ziG sp [] E t):=by
 obtain⟨f,fd,F,hb,hk,hm⟩:=G.ex
 exact zmU (F.mono hj) hr hg hm hk hb .nil hx ha hdb he hpl
theorem zr0 (G:Mkx X.prog X.w X.K X.mg X.base x C ps j sp)(hr:Room k X.A)(hg:Gl X x)(hx:zcA (CX1 X.prog X.w) X E)(ha:PA X (e::es) t)(hj:j+1<=k:=by decide)(hdb:(x == ("__debug__" : Str))=false:=by decide)
  (he:starEach (e::es) X.env=(false,eval e X.env)::starEach es X.env:=by rfl) (hpl:(backTo pos (starEach es X.env)).any (·.1)=false:=by rfl):PE X (.Call (.Name x p) (e::es) [] pos) (zkA C sp [] E t):=by
 obtain⟨f,fd,M,F,hb,hm⟩:=G.ex
 exact zmV M F (hr.mono hj) hg hm hb .nil hx ha hdb he hpl
theorem zaS(G:Mth CX X.prog X.w X.K X.mg X.base C m ps j sp)(c:Cls X.K C)(hr:Room k X.A)(hx:zcA CX X E)(he:PE X o ta)(ha:PA X (e::es) t)(hj:j<=k:=by decide)(hst:starEach (e::es) X.env=(false,eval e X.env)::starEach es X.env:=by rfl)(hpl:(backTo pos (starEach es X.env)).any (·.1)=false:=by rfl)(ht:eval (.Call (.Attribute o m apos) (e::es) [] pos) X.env=(do
   let ov <-eval o X.env
   standAt apos.atName
   let (f,first) <-holding [ov] (getMethod ov m pl)
   callWith pos f first (backTo pos (starEach (e::es) X.env)) (backToKw pos (keywordEach [] X.env))):=by rfl):
  PE X (.Call (.Attribute o m apos) (e::es) [] pos) (zjp C m sp [] E ta t):=by
 obtain⟨f,fd,M,F,hb⟩:=G.ex
 exact zpY he c M (F.mono hj) hr hb .nil hx ha hst hpl ht
theorem zci(G:Mth CX X.prog X.w X.K X.mg X.base C m ps j sp)(c:Cls X.K C)(hr:Room k X.A)(hx:zcA CX X E)(he:PE X o ta)(hj:j<=k:=by decide)(ht:eval (.Call (.Attribute o m apos) [] [] pos) X.env=(do
   let ov <-eval o X.env
   standAt apos.atName
   let (f,first) <-holding [ov] (getMethod ov m pl)
   callWith pos f first (backTo pos (starEach [] X.env)) (backToKw pos (keywordEach [] X.env))):=by rfl):
  PE X (.Call (.Attribute o m apos) [] [] pos) (zjp C m sp [] E ta tNil):=by
 obtain⟨f,fd,M,F,hb⟩:=G.ex
 exact zof he c M (F.mono hj) hr hb .nil hx ht
end
variable {q:Str}{bm:List Value}{newId:String}
section
variable {E:Value->Shared->Prop}{h:Heap}{g:Array GenState}{d:Drawn}{t:Nat}{os:OsState}
variable {nm nm' q':Str}{N D N':Addr}{bs bs' bm':List Value}{hdct hdct':Bool}{sn sn':List Str}{sub sub':List Value}{ab ab':Bool}{col col':Option Bool}{dd dd':Option Addr}{k0 k1 k2 k3 k5 l0 l1 l2 l3 l5:Option Value}{newId':String}
theorem zhQ{e:Addr}{Q:Bool->Shared->Prop}(hC:h.get? C=some (excClassObj nm q C N bs bm hdct sn sub ab col dd k0 k1 k2 k3 k5 newId))(hD:h.get? D=some (excClassObj nm' q' D N' bs' bm' hdct' sn' sub' ab' col' dd' l0 l1 l2 l3 l5 newId'))(he:h.get? e=some oe)(hcls:oe.cls=.ref C)(hbase:bm'.contains (.type "BaseException")=true)(hq:Q ((Value.ref C::bm).contains (.ref D)) ⟨h,g,d,t,os⟩):wpAny M A (excMatches (.ref e) (.ref D)) Q E ⟨h,g,d,t,os⟩:=by
 have hcB:(Value.ref D::bm').contains (.type "BaseException")=true:=by rw[List.contains_cons,hbase,Bool.or_true]
 have f:=tc_notTuple
 unfold excMatches
 generalize hb:(Value.ref C::bm).contains (.ref D)=b at hq
 repeat (first | (with_reducible refine wpAny_loadPart_at he ?_;rw[hcls]) | with_reducible refine wpAny_loadPart_at hD ?_ | (with_reducible refine wpAny_isSubtype_exc hD ?_;rw[hcB]) | (with_reducible refine wpAny_isSubtype_exc hC ?_;rw[hb]) | wp_step)
 cases b <;> (wp_walk;exact hq)
end
section
def zl7 (X:Cx)(pins:List (Addr × Obj))(H:Hp)(b:Addr):Prop:=H b=none/\X.s₀.heap.get? b=none/\b≠X.env.locals/\(∀ x c,X.env.cells.lookup x=some c->c≠b)/\(∀ p∈X.pn++pins,p.1≠b)
theorem zlu(I:Inv X pins σ H1 s)(hex:X.ex=[])(n:s.heap.get? b=none)(hH:H b=none):zl7 X pins H b:=by
 refine⟨hH,?_,λz=>?_,λx c e z=>?_,λp hp z=>?_⟩
 ·cases q:X.s₀.heap.get? b with
  | none=>rfl
  | some o=>
   obtain⟨u,hu⟩:=I.base.there b o q (by rw[hex];simp)
   rw[n] at hu;cases hu
 ·subst z
  obtain⟨m,⟨o,es,ep,ho,_⟩,_⟩:=I.loc
  rw[n] at ho;cases ho
 ·subst z
  obtain⟨v,o,ho,_⟩:=I.cell x c e
  rw[n] at ho;cases ho
 ·have:=(I.pin p hp).1
  rw[z,n] at this;cases this
theorem Inv.shift(I:Inv X pins σ H s)(keep:∀ b o,s.heap.get? b=some o->b∉frs X.stack->b∉as->h'.get? b=some o)(slot:∀ b o,s.heap.get? b=some o->b∈frs X.stack->b∉as->∃ sl,h'.get? b=some {o with slots:=sl})(has:∀ b∈as,zl7 X pins H b):Inv X pins σ H {s with heap:=h'}:=by
 have up:∀ b o,s.heap.get? b=some o->b∉as->∃ sl,h'.get? b=some {o with slots:=sl}:=λb o e n=>by
  by_cases m:b∈frs X.stack
  ·exact slot b o e m n
  ·exact⟨o.slots,keep b o e m n⟩
 have neL:∀ b o,X.s₀.heap.get? b=some o->b≠X.env.locals:=λb o e=>Nat.ne_of_lt (Nat.lt_of_lt_of_le (Heap.lt_size e) I.ok.above)
 have neA:∀ b o,X.s₀.heap.get? b=some o->b∉as:=λb o e m=>by rw[(has b m).2.1] at e;cases e
 have stk:∀ b,b≠X.env.locals->b∉X.fs->b∉frs X.stack:=λb n1 n m=>(List.mem_cons.mp (I.stkSub b m)).elim n1 n
 have cellK:∀ x c,X.env.cells.lookup x=some c->∀ v,s.heap.IsCell c v->h'.IsCell c v:=λx c e v ⟨o,ho,hd⟩=>by
  obtain⟨sl,q⟩:=up c o ho (λz=>(has c z).2.2.2.1 x c e rfl)
  exact⟨_,q,hd⟩
 refine⟨I.ok,I.os,I.bare,⟨λb o e n hb hx=>?_,λb o e n hb hx=>?_,I.base.free,λb o e hx=>?_,I.base.tups,I.base.frzs,I.base.tbls⟩,?_,λx c e=>?_,I.free,I.freeC,λp hp=>?_,λb u e=>?_,I.len⟩
 ·exact keep b o (I.base.keep b o e n hb hx) (stk b (neL b o e) hb) (neA b o e)
 ·obtain⟨sl,e1⟩:=I.base.slot b o e n hb hx
  obtain⟨sl',e2⟩:=up b _ e1 (neA b o e)
  exact⟨sl',e2⟩
 ·obtain⟨o',e1⟩:=I.base.there b o e hx
  obtain⟨sl,e2⟩:=up b o' e1 (neA b o e)
  exact⟨_,e2⟩
 ·obtain⟨m,⟨o,es,ep,ho,r⟩,hl⟩:=I.loc
  obtain⟨sl,hL⟩:=up _ o ho (λz=>(has _ z).2.2.1 rfl)
  refine⟨m,⟨_,es,ep,hL,r⟩,λi x v e1 e2 e3=>?_⟩
  obtain⟨u,r,l⟩:=hl i x v e1 e2 e3
  refine⟨u,r,?_⟩
  rcases l with l | ⟨l,c,e,z⟩
  ·exact .inl l
  ·exact .inr ⟨l,c,e,cellK x c e _ z⟩
 ·obtain⟨v,z⟩:=I.cell x c e
  exact⟨v,cellK x c e v z⟩
 ·obtain⟨e,n,ne,nf,d⟩:=I.pin p hp
  exact⟨keep _ _ e (stk _ ne nf) (λm=>(has _ m).2.2.2.2 p hp rfl),n,ne,nf,d⟩
 ·refine (I.hok b u e).stay (λc v hc q=>keep c v q (λm=>?_) (λm=>?_)) (λ_ q=>q) λ_ _ q=>q
  ·have:=I.stkFree c m
   rcases hc with z | z
   ·subst z;rw[e] at this;cases this
   ·rw[z] at this;cases this
  ·have:=(has c m).1
   rcases hc with z | z
   ·subst z;rw[e] at this;cases this
   ·rw[z] at this;cases this
end
def XP (X:Cx)(pins:List (Addr × Obj))(σ:St)(E:XK)(e:Value)(s':Shared):Prop:=∃ a C H' s1 H1,e=.ref a/\Inv X pins σ H1 s1/\Inv X pins σ H' s'/\Fly s1.heap s'.heap H' a C/\E C none H'
def PEx (X:Cx)(e:Expr)(t:XK->TE):Prop:=
 ∀ (pins:List (Addr × Obj)) (s:Shared) (σ:St) (H:Hp) (Q:VK) (E:XK),Inv X pins σ H s->t E σ H Q->wpAny (model X.prog X.w) X.A (eval e X.env) (EP X pins σ Q) (XP X pins σ E) s
def PSx (X:Cx)(st:Stmt)(t:XK->TS):Prop:=
 ∀ (pins:List (Addr × Obj)) (s:Shared) (σ:St) (H:Hp) (D:Ends) (E:XK),Inv X pins σ H s->t E D σ H->wpAny (model X.prog X.w) X.A (exec st X.env) (SP X pins D) (XP X pins σ E) s
def PSxs (X:Cx)(st:List Stmt)(t:XK->TS):Prop:=
 ∀ (pins:List (Addr × Obj)) (s:Shared) (σ:St) (H:Hp) (D:Ends) (E:XK),Inv X pins σ H s->t E D σ H->wpAny (model X.prog X.w) X.A (execs st X.env) (SP X pins D) (XP X pins σ E) s
theorem nxm{t:Sem α}{Q Q':α->Shared->Prop}{E:Value->Shared->Prop}(h:wpAny M A t Q (λ_ _=>False) s)(hQ:∀ a s,Q a s->Q' a s):wpAny M A t Q' E s:=wpAny_mono h hQ λ_ _ x=>x.elim
section
variable {k j:Nat}{m:Str}{o:Expr}{t:TA}
theorem zqm (F:FnOk X.prog X.w X.K X.mg X.base (CX1 X.prog X.w) k f fd ps sp)(hr:Room k X.A)(hb:zd6 X.K fd ps [])(I:Inv X pins σ H s)(r:Vals vs us)(h:sp vs H Q E) :
  wpAny (model X.prog X.w) X.A (call (.ref f) us) (EP X pins σ Q) (XP X pins σ E) s:=by
 have hl:(us++[]).length=ps.length:=by rw[List.append_nil,<-r.length];exact F.len _ _ _ _ h
 refine wpAny_call (codeAny_mono (F.run X.A X.stack s H ⟨us,[]⟩ us vs Q E hr I.env0 (by have:=hb s us I.kIn hl;rwa [List.append_nil] at this) r h) λr s' hq=>?_)
 cases r with
 | error e=>
  obtain⟨a,C,H3,rfl,os,bare,un,hok,F,q⟩:=hq
  exact⟨a,C,H3,s,H,rfl,I,I.call' os un hok bare (λb z=>absurd z (by simp)),F,q⟩
 | ok fl=>
  cases fl with
  | ret u=>exact I.after hq
  | next=>exact False.elim hq
  | brk=>exact False.elim hq
  | cont=>exact False.elim hq
theorem znq(G:Mth (CX1 X.prog X.w) X.prog X.w X.K X.mg X.base C m ps j sp)(c:Cls X.K C)(hr:Room k X.A)(ho:PE X.nox o ta)(ha:PA X.nox (e::es) t)(hj:j<=k:=by decide)(hst:starEach (e::es) X.env=(false,eval e X.env)::starEach es X.env:=by rfl)(hpl:(backTo pos (starEach es X.env)).any (·.1)=false:=by rfl)(ht:eval (.Call (.Attribute o m apos) (e::es) [] pos) X.env=(do
   let ov <-eval o X.env
   standAt apos.atName
   let (f,first) <-holding [ov] (getMethod ov m pl)
   callWith pos f first (backTo pos (starEach (e::es) X.env)) (backToKw pos (keywordEach [] X.env))):=by rfl):
  PEx X (.Call (.Attribute o m apos) (e::es) [] pos) (λE=>zjp C m sp [] E ta t):=by
 obtain⟨f,fd,M,F,hb⟩:=G.ex
 intro pins s σ H Q E I h
 refine PySem.W.methodCall_KW (pl:=pl) (nxm (ho pins s σ H _ (I.wish _) h) λu s1 ⟨x,H1,I1,rx,a,dx,fs,ex,ea,l,q⟩=>?_) ht
 subst ex
 obtain rfl:u=Value.ref a:=rx
 refine zeE I1.unwish ea c M l ?_
 refine PySem.W.callWith_K (first:=[.ref a]) (h₀:=X.base) I.ok.mod.kin M.kp (nxm (ha pos pins s1 σ H1 _ I1 q) λus s2 ⟨vs,H2,I2,r,q2⟩=>⟨I2.unwish.kIn,?_⟩) hst hpl
 have q':sp (V.ref a::(vs++[])) H2 Q E:=q2
 rw[List.append_nil] at q'
 exact zqm (us:=.ref a::us) (vs:=.ref a::vs) F (hr.mono hj) hb I2.unwish (.cons rfl r) q'
variable {te:XK->TE}{tt uu:XK->TS}
theorem zlv (he:PEx X e te)(hs:swapsWith e none pos.line X.env=pure false:=by rfl):PSx X (.Expr e pos) (λE=>zmD (te E)):=by
 intro pins s σ H D E I h
 exact wpAny_Expr_any (thn (he pins s σ H _ E I h) λv s1 ⟨x,H1,I1,r1,q1⟩=>⟨σ,H1,I1,q1⟩) I.quiet hs
theorem zlw (h1:PSx X st tt):PSxs X [st] tt:=by
 intro pins s σ H D E I h
 refine wpAny_execs_cons (thn (h1 pins s σ H D E I h) λf s1 q=>?_)
 cases f with
 | next=>exact wpAny_execs_nil q
 | ret v=>exact q
 | brk=>exact q
 | cont=>exact q
end
section
variable {C:Value}
structure Ready (X:Cx)(pins:List (Addr × Obj))(σ:St)(H:Hp)(a:Addr)(C:Value)(s:Shared):Prop where
 ex:∃ (s':Shared) (T T':Addr),Inv X pins σ H s'/\zl7 X pins H a/\zl7 X pins H T/\s'.heap.get? T'=none/\(∃ h',s={s' with heap:=h'})/\zjL s.heap a T' C .none/\zhc (frs X.stack) [a,T] s'.heap s.heap
theorem Ready.inv (R:Ready X pins σ H a C s):Inv X pins σ H s:=by
 obtain⟨s',T,T',I,ha,hT,_,⟨h',rfl⟩,F,U⟩:=R.ex
 refine I.shift (as:=[a,T]) U.1 U.2 (λb m=>?_)
 rcases List.mem_cons.mp m with z | z
 ·subst z;exact ha
 ·rw[zms.mp z];exact hT
theorem Ready.apart (R:Ready X pins σ H a C s):zl7 X pins H a:=by
 obtain⟨s',T,T',I,ha,hT,_,⟨h',rfl⟩,F,U⟩:=R.ex
 exact ha
theorem Ready.obj (R:Ready X pins σ H a C s):∃ oe vs,s.heap.get? a=some oe/\(oe.cls=C/\oe.dict=none)/\oe.data=.fields vs:=by
 obtain⟨s',T,T',I,ha,hT,_,_,F,U⟩:=R.ex
 obtain⟨oe,vs,oT,ts,h1,h2,h3,h4,_⟩:=F
 exact⟨oe,vs,h1,⟨h2,h3⟩,h4⟩
theorem Ready.again{E:Value->Shared->Prop}{Q:Unit->Shared->Prop}(R:Ready X pins σ H a C s)(k:∀ s2,Ready X pins σ H a C s2->Q () s2):wpAny M A (setFlight (.ref a) none) Q E s:=by
 obtain⟨s',T,T',I,ha,hT,n,⟨h',rfl⟩,F,U⟩:=R.ex
 refine zgJ (fr:=frs X.stack) F λh2 F2 U2=>k _ ⟨s',T,T',I,ha,hT,n,⟨h2,rfl⟩,F2,⟨λb o e m1 m2=>U2.1 b o (U.1 b o e m1 m2) m1 (λz=>by rw[zms.mp z,n] at e;cases e),λb o e m1 m2=>?_⟩⟩
 obtain⟨sl,e1⟩:=U.2 b o e m1 m2
 obtain⟨sl2,e2⟩:=U2.up e1 (λz=>by rw[zms.mp z,n] at e;cases e)
 exact⟨sl2,e2⟩
theorem zkJ{E':Value->Shared->Prop}{e:Value}{Q:Shared->Prop}(hex:X.ex=[])(hst:X.stack=X.env::X.outer)(hf:X.env.frame=some X.env.locals)(h:XP X pins σ E e s)(k:∀ a C H' s3,e=.ref a->Ready X pins σ H' a C s3->E C none H'->Q s3):
  wpAny (model X.prog X.w) X.A (noteFrame e X.env) (λ_ s2=>wpAny (model X.prog X.w) X.A (setFlight e none) (λ_ s3=>Q s3) E' s2) E' s:=by
 obtain⟨a,C,H',s1,H1,rfl,I1,I',⟨T,F,hx,hT,hx0,hT0⟩,q⟩:=h
 have hfr:X.A.frames=some (X.env::X.outer):=by rw[<-hst];exact I'.ok.frames
 refine zls (outer:=X.outer) (base:=X.base) hfr (by rw[<-hst];exact I'.stack) hf F λh1 T1 n1 F1 U1=>?_
 rw[<-hst] at U1
 refine zgJ (fr:=frs X.stack) F1 λh2 F2 U2=>k a C H' _ rfl ⟨s,T,T1,I',zlu I1 hex hx0 hx,zlu I1 hex hT0 hT,n1,⟨h2,rfl⟩,F2,⟨λb o e m1 m2=>U2.1 b o (U1.1 b o e m1 m2) m1 (λz=>by rw[zms.mp z,n1] at e;cases e),λb o e m1 m2=>?_⟩⟩ q
 obtain⟨sl,e1⟩:=U1.2 b o e m1 m2
 obtain⟨sl2,e2⟩:=U2.up e1 (λz=>by rw[zms.mp z,n1] at e;cases e)
 exact⟨sl2,e2⟩
def XH (X:Cx)(a:Addr)(o:Obj):Cx:={X with A:=X.A.mark (some (.ref a)),calm:=false,pn:=(a,o)::X.pn,xe:=λ_ _=>False}
variable {o:Obj}
theorem Inv.held(I:Inv X pins σ H s)(ho:s.heap.get? a=some o)(ap:zl7 X pins H a)(nc:∀ v,o.data≠.cell v):Inv (XH X a o) pins σ H s:=by
 have ok:=I.ok
 refine⟨⟨ok.mod,ok.kind,ok.glob,ok.blt,ok.above,ok.inj,ok.has,ok.cab,(λz=>absurd z Bool.false_ne_true),ok.frames,ok.stk,ok.exf,ok.bs,ok.bsz,ok.noex,ok.exfs,ok.funs,ok.frf⟩,I.os,I.bare,I.base,I.loc,I.cell,I.free,I.freeC,λp hp=>?_,I.hok,I.len⟩
 have hp':p∈(a,o)::(X.pn++pins):=hp
 rcases List.mem_cons.mp hp' with z | z
 ·subst z
  refine⟨ho,ap.1,ap.2.2.1,λm=>?_,nc⟩
  obtain⟨_,o2,h2,_⟩:=ok.funs.mem m
  have:=ap.2.1
  rw[h2] at this;cases this
 ·exact I.pin p z
theorem Inv.unheld(ok:X.Ok)(I:Inv (XH X a o) pins σ H s):Inv X pins σ H s:=
 ⟨ok,I.os,I.bare,I.base,I.loc,I.cell,I.free,I.freeC,λp hp=>I.pin p (List.mem_cons_of_mem _ hp),I.hok,I.len⟩
end
def PH (X:Cx)(hs:List ExceptHandler)(t:Value->Addr->TS):Prop:=
 ∀ (pins:List (Addr × Obj)) (s:Shared) (σ:St) (H:Hp) (D:Ends) (a:Addr) (C:Value),Ready X pins σ H a C s->t C a D σ H->wpAny (model X.prog X.w) X.A (handleBy (.ref a) X.env hs) (SP X pins D) X.xe s
def tHand (K:Fg)(D:Addr)(th tr:Value->Addr->TS):Value->Addr->TS:=λC a E σ H=>∃ Cc anc,C=.ref Cc/\Err K Cc anc/\if (Value.ref Cc::anc).contains (.ref D)=true then th C a E σ H else tr C a E σ H
def tAs (i:Nat)(t:Value->Addr->TS):Value->Addr->TS:=λC a D σ H=>t C a {nx:=λσ' H'=>D.nx (σ'.set i none) H',rt:=D.rt,bk:=λσ' H'=>D.bk (σ'.set i none) H',ct:=λσ' H'=>D.ct (σ'.set i none) H'} (σ.set i (some (.ref a))) H
variable {th:Value->Addr->TS}
section
variable {b0:Stmt}{suite:List Stmt}{rest:List ExceptHandler}{D:Addr}{tb tr:Value->Addr->TS}
theorem zpy:PH X [] (λ_ _=>zq4):=λ_ _ _ _ _ _ _ _ h=>h.elim
variable {i:Nat}{n:Str}
theorem zfl{E:Value->Shared->Prop}{Q:Unit->Shared->Prop}(I:Inv X pins σ H s)(hN:X.N.Nodup)(hi:X.N[i]?=some n)(hl:X.env.scope.names.lookup n=some .local)(k:∀ s',Inv X pins (σ.set i none) H s'->Q () s'):wpAny M A (do bindName X.env n .none;unbindBehindTheSuite X.env n pos) Q E s:=by
 refine wpAny_bind (wpAny_bindName (zgB I hN hi (.inl hl) (v:=.non) (u:=.none) rfl (λs1 I1=>?_) (.inr hl)))
 have hiσ:i<σ.length:=by rw[I.len];exact (zge.mp hi).1
 obtain⟨m,hn,hv⟩:=id I1.loc
 obtain⟨u,_,lk⟩:=hv i n .non hi (by rw[List.getElem?_set_self hiσ]) (.inl hl)
 have hv':m n=some u:=by
  rcases lk with ⟨_,z⟩ | ⟨z,_⟩
  ·exact z
  ·have hl':X.env.kindOf n=some .local:=hl
   rw[hl'] at z
   rcases z with z | z <;> cases z
 unfold unbindBehindTheSuite
 refine wpAny_onRaise (wpAny_unbindName_local hl hn hv' (by rw[I.ok.kind];rfl) λh' u' hn' hs=>k _ ?_)
 obtain⟨oL,_,_,hoL,_⟩:=id hn
 have neL:∀ b o,X.s₀.heap.get? b=some o->b≠X.env.locals:=λb o e=>Nat.ne_of_lt (Nat.lt_of_lt_of_le (Heap.lt_size e) I.ok.above)
 refine⟨I.ok,I1.os,I1.bare,⟨λb o e n hb hx=>?_,λb o e n hb hx=>?_,I1.base.free,λb o e hx=>?_,I1.base.tups,I1.base.frzs,I1.base.tbls⟩,⟨_,hn',λj y v' e1 e2 e3=>?_⟩,λy c e=>?_,I1.free,I1.freeC,λp hp=>?_,λb ob e=>?_,by rw[List.length_set];exact I.len⟩
 ·exact (hs.2 b (neL b o e)).trans (I1.base.keep b o e n hb hx)
 ·obtain⟨sl,e1⟩:=I1.base.slot b o e n hb hx
  exact⟨sl,(hs.2 b (neL b o e)).trans e1⟩
 ·obtain⟨o',e1⟩:=I1.base.there b o e hx
  exact⟨o',(hs.2 b (neL b o e)).trans e1⟩
 ·by_cases hj:j=i
  ·subst hj
   rw[List.getElem?_set_self hiσ] at e2
   cases e2
  ·rw[List.getElem?_set_ne (Ne.symm hj)] at e2
   obtain⟨u2,r,q⟩:=hv j y v' e1 (by rw[List.getElem?_set_ne (Ne.symm hj)];exact e2) e3
   refine⟨u2,r,?_⟩
   rcases q with ⟨k,e⟩ | ⟨k,c,e,z⟩
   ·refine .inl ⟨k,?_⟩
    have:y≠n:=λe=>hj (ziB hN e1 (e ▸ hi))
    simp[this,e]
   ·exact .inr ⟨k,c,e,z.sameBut hs (I1.cne y c e)⟩
 ·obtain⟨w',z⟩:=I1.cell y c e
  exact⟨w',z.sameBut hs (I1.cne y c e)⟩
 ·obtain⟨e,n,ne,nf,d⟩:=I1.pin p hp
  exact⟨(hs.2 p.1 ne).trans e,n,ne,nf,d⟩
 ·refine (I1.hok b ob e).stay (λc w' hc q=>(hs.2 c ?_).trans q) (λ_ q=>q) λ_ _ q=>q
  rintro rfl
  rcases hc with rfl | hc
  ·rw[I1.free] at e;cases e
  ·rw[I1.free] at hc;cases hc
theorem zr1(eD:Err X.K D anc)(hg:Gl X x)(hm:X.mg x=some (.ref D))(hN:X.N.Nodup)(hi:X.N[i]?=some n)(hl:X.env.scope.names.lookup n=some .local)(hb:∀ a o,o.dict=none->(∀ v,o.data≠.cls v)->PSs (XH X a o) (b0::suite) (tb o.cls a))(hr:PH X rest tr)(hd:(x == ("__debug__" : Str))=false:=by decide):
  PH X (.ExceptHandler (some (.Name x np)) (some n) (b0::suite) pos::rest) (tHand X.K D (tAs i tb) tr):=by
 intro pins s σ H E a C R h
 obtain⟨Cc,ancC,rfl,eC,h⟩:=h
 have I:=R.inv
 obtain⟨oe,vs,ho,⟨hc,_⟩,hdt⟩:=R.obj
 obtain⟨nm,q,N,bs,hdct,sn,sub,ab,col,dd,k0,k1,k2,k3,k5,mN,hC,_,_,TC⟩:=eC.obj I.kIn
 obtain⟨nm',q',N',bs',hdct',sn',sub',ab',col',dd',l0,l1,l2,l3,l5,mN',hD,_,_,TD⟩:=eD.obj I.kIn
 refine wpAny_handleBy_cons (codeAny_handlers_test (ze2 (X:=XH X a oe) (I.held ho R.apart (λv z=>by rw[hdt] at z;cases z)) hg hm ?_ hd)) (by intro q;cases q)
 obtain⟨hp,g,d,tk,os⟩:=s
 refine zhQ hC hD ho hc (TD.hasType PySem.F.excBase_ValueError.hasBase) ?_
 by_cases b:(Value.ref Cc::ancC).contains (.ref D)=true
 ·rw[if_pos b] at h
  rw[b]
  show codeAny _ _ _ _ _
  refine codeAny_handlers_suite_as (R.again λs2 R2=>?_)
  obtain⟨o2,vs2,ho2,⟨hc2,hi2⟩,hd2⟩:=R2.obj
  rw[<-hc2] at h
  have IH:=R2.inv.held ho2 R2.apart (λv z=>by rw[hd2] at z;cases z)
  refine zgB (X:=XH X a o2) IH hN hi (.inl hl) (v:=.ref a) (u:=.ref a) rfl (λs3 I3=>?_) (.inr hl)
  refine nxm (hb a o2 hi2 (λv z=>by rw[hd2] at z;cases z) pins s3 _ H _ I3 h) λf s4 q=>?_
  show wpAny _ _ _ _ _ _
  cases f with
  | next=>
   obtain⟨σ',H',I4,q⟩:=q
   exact zfl (I4.unheld I.ok) hN hi hl λs5 I5=>⟨_,H',I5,q⟩
  | brk=>
   obtain⟨σ',H',I4,q⟩:=q
   exact zfl (I4.unheld I.ok) hN hi hl λs5 I5=>⟨_,H',I5,q⟩
  | cont=>
   obtain⟨σ',H',I4,q⟩:=q
   exact zfl (I4.unheld I.ok) hN hi hl λs5 I5=>⟨_,H',I5,q⟩
  | ret u=>
   obtain⟨v,σ',H',I4,r,q⟩:=q
   exact zfl (I4.unheld I.ok) hN hi hl λs5 I5=>⟨v,_,H',I5,r,q⟩
 ·rw[if_neg b] at h
  rw[Bool.not_eq_true] at b
  rw[b]
  exact hr pins _ σ H E a _ R h
def tTry (tb:XK->TS)(th:Value->Addr->TS):TS:=λD σ H=>tb (λC _ H'=>∀ a,th C a D σ H') D σ H
theorem zpz{body:List Stmt}{h0:ExceptHandler}{hs:List ExceptHandler}{tx:XK->TS}(hex:X.ex=[])(hst:X.stack=X.env::X.outer)(hf:X.env.frame=some X.env.locals)(hb:PSxs X body tx)(hh:PH X (h0::hs) th):PS X (.Try body (h0::hs) [] [] pos) (tTry tx th):=by
 intro pins s σ H D I h
 refine wpAny_Try_except (wpAny_mono (hb pins s σ H D _ I h) (λf s1 q=>?_) λe s1 q=>?_)
 ·cases f with
  | next=>exact wpAny_execs_nil q
  | ret v=>exact q
  | brk=>exact q
  | cont=>exact q
 ·exact zkJ hex hst hf q λa C H' s3 ee R q2=>by
   subst ee
   exact hh pins s3 σ H' D a C R (q2 a)
end
def Pin (X:Cx)(a:Addr)(C:Value):Prop:=∃ o,(a,o)∈X.pn/\o.cls=C/\o.dict=none/\∀ v,o.data≠.cls v
theorem Err.cls(e:Err K C anc):∃ cd,clsIn K C=some cd/\cd.mro=.ref C::anc/\typeIn K (.ref C)=some (.type "type"):=by
 obtain⟨⟨nm,q,N,bs,hdct,sn,sub,ab,col,dd,k0,k1,k2,k3,k5,l⟩,x⟩:=e
 refine⟨_,by unfold clsIn;rw[l],rfl,?_⟩
 show (K.lookup C).map (·.cls)=_
 rw[l];rfl
theorem zqn{D:Addr}{ancD:List Value}(e:Err K C anc)(d:Err K D ancD):kitOne K (.ref C) (.ref D)=some ((Value.ref C::anc).contains (.ref D)):=by
 obtain⟨cC,c1,c2,c3⟩:=e.cls
 obtain⟨cD,d1,d2,d3⟩:=d.cls
 unfold kitOne
 by_cases z:(Value.ref C == Value.ref D)=true
 ·rw[if_pos z]
  have:Value.ref C=Value.ref D:=eq_of_beq z
  rw[<-this]
  simp
 ·rw[if_neg z]
  unfold kitCls
  simp only[d1,d3]
  unfold subIn mroIn
  simp only[c1,c2]
  simp
  rw[c2]
  simp
def zbm:Nat:=10 ^ 30
theorem zjN(h:i.natAbs<zbm):i.natAbs.log2<1920:=by
 by_cases z:i.natAbs=0
 ·rw[z];decide
 ·refine (Nat.log2_lt z).mpr (Nat.lt_of_lt_of_le h ?_)
  unfold zbm
  exact Nat.le_trans (by decide:10 ^ 30<=2 ^ 100) (Nat.pow_le_pow_right (n:=2) (by decide) (by decide:100<=1920))
section
end
theorem zhe(h:i.natAbs<zbm):(Str.ofString (toString i)).length<=32:=by
 have e:=int_text_length_le10 (k:=30) (by decide) h
 rw[PySem.ofString_length];omega
section
variable {E:Value->Shared->Prop}
end
section
end
theorem zaj.append: ∀ {ds1:List D}{vs1:List V}{f1:List Addr}{ds2:List D}{vs2:List V}{f2:List Addr},zaj H ds1 vs1 f1->zaj H ds2 vs2 f2->zaj H (ds1++ds2) (vs1++vs2) (f1++f2)
 | [],_,_,_,_,_,h1,h2=>by
  unfold zaj at h1
  obtain⟨rfl,rfl⟩:=h1
  exact h2
 | d::ds,_,_,_,_,_,h1,h2=>by
  unfold zaj at h1
  obtain⟨v,r,f,g,rfl,rfl,q1,q2⟩:=h1
  rw[List.append_assoc]
  exact zaj.cany q1 (zaj.append q2 h2)
theorem zaj.cut: ∀ (i:Nat) {ds:List D}{vs:List V}{fp:List Addr},zaj H ds vs fp->∃ f1 f2,fp=f1++f2/\zaj H (ds.take i) (vs.take i) f1/\zaj H (ds.drop i) (vs.drop i) f2
 | 0,ds,vs,fp,h=>⟨[],fp,rfl,zaj.nil,h⟩
 | i+1,[],_,_,h=>by
  unfold zaj at h
  obtain⟨rfl,rfl⟩:=h
  exact⟨[],[],rfl,zaj.nil,zaj.nil⟩
 | i+1,d::ds,_,_,h=>by
  unfold zaj at h
  obtain⟨v,r,f,g,rfl,rfl,q1,q2⟩:=h
  obtain⟨f1,f2,rfl,h1,h2⟩:=zaj.cut i q2
  exact⟨f++f1,f2,(List.append_assoc _ _ _).symm,zaj.cany q1 h1,h2⟩
theorem New.acc(h:New H H' (.lst ds) v):∃ a vs,v=.ref a/\H a=none/\Acc H a H' ds vs:=by
 obtain⟨a,vs,fp,e1,e2,e3,e4,e5,e7,e6⟩:=New.lso h
 exact⟨a,vs,e1,e2,fp,e3,e4,e5,e7,e6⟩
theorem Acc.get(a:Acc H da H2 ds vs):H2 da=some (.lst vs):=by obtain⟨fp,h,_⟩:=a;exact h
theorem Acc.len(a:Acc H da H2 ds vs):ds.length=vs.length:=by obtain⟨fp,_,h,_⟩:=a;exact h.length
variable {sc:Scope}
section
variable {t:TA}
theorem zab(h:PE X (.Name x pos) te)(r:PA X es t):PA X (.Name x pos::es) (zc1 te t):=za0 h r rfl
theorem zam {c:Const}{k:Nat}(h:PE X (.Constant c k pos) te)(r:PA X es t):PA X (.Constant c k pos::es) (zc1 te t):=za0 h r rfl
variable {a:Expr}
theorem ziQ{o:UnaryOp}(h:PE X (.UnaryOp o a pos) te)(r:PA X es t):PA X (.UnaryOp o a pos::es) (zc1 te t):=za0 h r rfl
variable {b:Expr}
theorem pa_if{c:Expr}(h:PE X (.IfExp a b c pos) te)(r:PA X es t):PA X (.IfExp a b c pos::es) (zc1 te t):=za0 h r rfl
theorem zcy{g:List Comprehension}(h:PE X (.ListComp a g sc pos) te)(r:PA X es t):PA X (.ListComp a g sc pos::es) (zc1 te t):=za0 h r rfl
theorem zr2{o:List CmpOp}{b:List Expr}(h:PE X (.Compare a o b pos) te)(r:PA X es t):PA X (.Compare a o b pos::es) (zc1 te t):=za0 h r rfl
theorem zaH(h:PE X (.Subscript a b pos) te)(r:PA X es t):PA X (.Subscript a b pos::es) (zc1 te t):=za0 h r rfl
theorem zb6 {a:List Expr}(h:PE X (.List a pos) te)(r:PA X es t):PA X (.List a pos::es) (zc1 te t):=za0 h r rfl
theorem zpA {a:List Expr}{k:Nat}(h:PE X (.Tuple a k pos) te)(r:PA X es t):PA X (.Tuple a k pos::es) (zc1 te t):=za0 h r rfl
theorem zb7{o:Operator}(h:PE X (.BinOp a o b pos) te)(r:PA X es t):PA X (.BinOp a o b pos::es) (zc1 te t):=za0 h r rfl
theorem zaE {f:Expr}{a:List Expr}{k:List Keyword}(h:PE X (.Call f a k pos) te)(r:PA X es t):PA X (.Call f a k pos::es) (zc1 te t):=za0 h r rfl
theorem zba(h:PE X (.Attribute a x pos) te)(r:PA X es t):PA X (.Attribute a x pos::es) (zc1 te t):=za0 h r rfl
end
structure QE (X:Cx)(e:Expr)(t:TE):Prop where
 run:PE X e t
structure QA (X:Cx)(es:List Expr)(t:TA):Prop where
 run:PA X es t
structure QS (X:Cx)(st:Stmt)(t:TS):Prop where
 run:PS X st t
structure QSs (X:Cx)(st:List Stmt)(t:TS):Prop where
 run:PSs X st t
section
variable {a b:Expr}{tb:TE}{t:TA}
theorem zbC (h:QA X es t):QE X (.List es pos) (tLst t):=⟨zaR h.run⟩
theorem zet {k:Nat}(h:QA X es t):QE X (.Tuple es k pos) (tTup t):=⟨zdu h.run⟩
theorem q_op {op:Operator}(ho:OpR X (binaryOp op) r)(ha:QE X a ta)(hb:QE X b tb):QE X (.BinOp a op b pos) (tOp r ta tb):=⟨zaQ ho ha.run hb.run⟩
theorem zaG:QA X [] tNil:=⟨zaa⟩
theorem zfV(h:QE X (.Name x pos) te)(r:QA X es t):QA X (.Name x pos::es) (zc1 te t):=⟨za0 h.run r.run rfl⟩
theorem zaz {c:Const}{k:Nat}(h:QE X (.Constant c k pos) te)(r:QA X es t):QA X (.Constant c k pos::es) (zc1 te t):=⟨za0 h.run r.run rfl⟩
variable {l:List Expr}
theorem zbp(h:QE X (.List l pos) te)(r:QA X es t):QA X (.List l pos::es) (zc1 te t):=⟨za0 h.run r.run rfl⟩
theorem zcr{k:Nat}(h:QE X (.Tuple l k pos) te)(r:QA X es t):QA X (.Tuple l k pos::es) (zc1 te t):=⟨za0 h.run r.run rfl⟩
theorem znr {o:Operator}(h:QE X (.BinOp a o b pos) te)(r:QA X es t):QA X (.BinOp a o b pos::es) (zc1 te t):=⟨za0 h.run r.run rfl⟩
end
variable {u:TS}
section
variable {rest a b:List Stmt}{t:TS}{tc:TT}
theorem zhf (h:QS X st t):QSs X [st] t:=⟨zag h.run⟩
theorem za3 (h:QS X st t)(k:QSs X rest u):QSs X (st::rest) (tSeq t u):=⟨zaf h.run k.run⟩
end
theorem zgh{t:TS}{D:Ends}(M:St->Hp->Prop)(h:∀ NX:St->Hp->Prop,(∀ σ H,M σ H->NX σ H)->t {D with nx:=NX} σ H)(tail:∀ σ H,M σ H->u D σ H):tSeq t u D σ H:=h _ tail
theorem zcB{t:TS}{D:Ends}(h:∀ Q:Bool->Hp->Prop,Q false H->c σ H Q)(k:u D σ H):tSeq (tIfS c t zpO) u D σ H:=h _ (iteF k)
theorem zjO{t e:TS}{D:Ends}(h:∀ Q:Bool->Hp->Prop,Q true H->c σ H Q)(k:∀ NX:St->Hp->Prop,t {D with nx:=NX} σ H):tSeq (tIfS c t e) u D σ H:=h _ (iteT (k _))
theorem zkK: decide (V.ref a=V.non)=false:=decide_eq_false (by intro z;cases z)
theorem ziR:decide (V.non=V.non)=true:=decide_eq_true rfl
theorem zr3{lo hi:Option Int}(h:SqL K H a xs)(q:∀ p,H p=none->Q (.ref p) (upd H p (.lst (cutV xs lo hi)))):rSl K (.ref a) lo hi H Q:=.inl ⟨a,xs,rfl,h,q⟩
theorem cut_take{k:Nat}(h:k<=xs.length):cutV xs none (some (k:Int))=xs.take k:=by
 unfold cutV
 rw[HT.sIx_none,HT.sIx_nat,List.drop_zero,Nat.sub_zero,Nat.min_eq_left h]
theorem zoG{k:Nat}(h:k<=xs.length):cutV xs (some (k:Int)) none=xs.drop k:=by
 unfold cutV
 rw[HT.sIx_none,HT.sIx_nat,Nat.min_eq_left h,List.take_of_length_le (by rw[List.length_drop];exact Nat.le_refl _)]
theorem zns{k:Int}(h0:0<=k)(h:k<(n:Int)):ixN n k=some k.toNat:=by
 unfold ixN
 rw[if_pos h0,if_pos h]
theorem Same.put{w:Addr}(s:Same H0 H)(h:H0 w=none):Same H0 (upd H w o):=λb u e=>by rw[zai (zao e h)];exact s _ _ e
theorem zlx{xs:List α}{k:Int}{x:α}(h0:0<=k)(h:xs[k.toNat]?=some x):atI xs k=some x:=by
 have:=zaB (j:=k.toNat) h
 rwa [show ((k.toNat:Nat):Int)=k by omega] at this
def Ls (H:Hp)(ka:Addr)(ls:List (List Int)):Prop:=∃ as:List Addr,H ka=some (.lst (as.map V.ref))/\as.length=ls.length/\∀ (i:Nat) a l,as[i]?=some a->ls[i]?=some l->H a=some (.lst (l.map V.int))
variable {l:List Int}
theorem zoH(h1:H a=some (.lst (l.map V.int)))(h2:H a=some (.lst (as.map V.ref))):l=[]:=by
 rw[h1] at h2
 cases l with
 | nil=>rfl
 | cons i l=>
  cases as with
  | nil=>simp at h2
  | cons b as=>simp at h2
variable {ka:Addr}
theorem Ls.same{ls:List (List Int)}(e:Same H H')(h:Ls H ka ls):Ls H' ka ls:=by
 obtain⟨as,h1,h2,h3⟩:=h
 exact⟨as,e _ _ h1,h2,λi a l e1 e2=>e _ _ (h3 i a l e1 e2)⟩
theorem Ls.len{ls:List (List Int)}(h:Ls H ka ls):∃ xs,H ka=some (.lst xs)/\xs.length=ls.length:=by
 obtain⟨as,h1,h2,h3⟩:=h
 exact⟨_,h1,by rw[zlm];exact h2⟩
theorem Ls.out{ls:List (List Int)}(h:Ls H ka ls):∃ xs,H ka=some (.lst xs)/\xs.length=ls.length/\Reps K H (ls.map nums) xs:=by
 obtain⟨as,h1,h2,h3⟩:=h
 refine⟨_,h1,by rw[zlm];exact h2,Reps.of (by simp[h2]) λi d v e1 e2=>?_⟩
 rw[zgm] at e1 e2
 obtain⟨l,hl,rfl⟩:=zme.mp e1
 obtain⟨a,ha,rfl⟩:=zme.mp e2
 exact zbd.mpr ⟨a,rfl,SqL.of (h3 i a l ha hl)⟩
theorem Ls.rep{ls:List (List Int)}(h:Ls H ka ls):Rep K H (.lst (ls.map nums)) (.ref ka):=by
 obtain⟨xs,h1,_,h2⟩:=h.out (K:=K)
 unfold Rep
 exact⟨ka,xs,rfl,SqL.of h1,h2⟩
theorem Ls.item{ls:List (List Int)}{i:Nat}{x:V}(h:Ls H ka ls)(e:H ka=some (.lst xs))(hx:xs[i]?=some x):∃ a l,x=.ref a/\ls[i]?=some l/\H a=some (.lst (l.map V.int)):=by
 obtain⟨as,h1,h2,h3⟩:=h
 rw[h1] at e;cases e
 rw[zgm] at hx
 obtain⟨a,ha,rfl⟩:=zme.mp hx
 have hi:=(zge.mp ha).1
 refine⟨a,ls[i]'(by omega),rfl,by simp,h3 i a _ ha (by simp)⟩
theorem New.ls{ls:List (List Int)}(h:New H H' (.lst (ls.map nums)) v):∃ ka,v=.ref ka/\H ka=none/\Ls H' ka ls:=by
 obtain⟨a,vs,fp,rfl,ha,h1,h2,_⟩:=New.lso h
 obtain⟨e1,e2,e3⟩:=zaj.lines h2
 subst e1
 refine⟨a,rfl,ha,fp,h1,e2,λi b l q1 q2=>?_⟩
 obtain⟨l',z1,z2⟩:=e3 i b q1
 rw[q2] at z1;cases z1
 exact z2
variable {ds2:List D}
theorem New.cat{p:Addr}{ds1:List D}(n1:New H H1 (.lst ds1) (.ref a))(e1:Same H H1)(s:Same H1 H2)(n2:New H1 H2 (.lst ds2) (.ref b))(h1:H2 a=some (.lst xs))(h2:H2 b=some (.lst ys))(hp:H2 p=none):New H (upd H2 p (.lst (xs++ys))) (.lst (ds1++ds2)) (.ref p):=by
 obtain⟨a',vs,fp,ea,ha,g1,g2,g3,g4,g5⟩:=New.lso n1
 cases ea
 obtain⟨b',vs',fq,eb,hb,k1,k2,k3,k4,k5⟩:=New.lso n2
 cases eb
 have ev:xs=vs:=by rw[s _ _ g1] at h1;injection h1 with h1;injection h1 with h1;exact h1.symm
 have ev':ys=vs':=by rw[k1] at h2;injection h2 with h2;injection h2 with h2;exact h2.symm
 subst ev;subst ev'
 have sp:=zah hp (.lst (xs++ys))
 have hf:∀ b∈fp,∃ o,H1 b=some o:=zaj.has _ g2
 refine New.lst ((zaj.sq (s.trans sp).sq _ g2).append (zaj.sq sp.sq _ k2)) (List.nodup_append.mpr ⟨g3,k3,λx hx y hy z=>?_⟩) (λc hc=>?_) ((e1.trans s).free hp) (λm=>?_) zac
 ·subst z
  obtain⟨o,ho⟩:=hf x hx
  have:=k5 x hy
  rw[ho] at this;cases this
 ·rcases zma.mp hc with hc | hc
  ·exact g5 c hc
  ·exact e1.free (k5 c hc)
 ·rcases zma.mp m with m | m
  ·obtain⟨o,ho⟩:=hf p m
   rw[s _ _ ho] at hp;cases hp
  ·obtain⟨o,ho⟩:=zaj.has _ k2 p m
   rw[ho] at hp;cases hp
theorem New.item{i:Nat}{x:V}(n:New H H' (.lst ds) (.ref a))(e:H' a=some (.lst xs))(hd:ds[i]?=some d)(hx:xs[i]?=some x):New H H' d x:=by
 obtain⟨a',vs,fp,ea,ha,g1,g2,g3,g4,g5⟩:=New.lso n
 cases ea
 rw[g1] at e;cases e
 obtain⟨f1,f2,rfl,r1,r2⟩:=zaj.cut i g2
 have hi:=(zge.mp hd).1
 have hj:=(zge.mp hx).1
 rw[List.drop_eq_getElem_cons hi,List.drop_eq_getElem_cons hj] at r2
 unfold zaj at r2
 obtain⟨v,r,f,g,e1,rfl,q1,q2⟩:=r2
 cases e1
 rw[List.getElem?_eq_getElem hi] at hd;cases hd
 rw[List.getElem?_eq_getElem hj] at hx;cases hx
 have n2:=(List.nodup_append.mp g3).2.1
 exact⟨f,q1,(List.nodup_append.mp n2).1,λb hb=>g5 b (List.mem_append_right _ (List.mem_append_left _ hb))⟩
variable {ws:List Int}
theorem New.pairT{w:Int}{t:Addr}(n:New H H1 (nums ws) (.ref a))(ht:H1 t=none):New H (upd H1 t (.tup [.int w,.ref a])) (.tup [.int w,nums ws]) (.ref t):=by
 obtain⟨a',e,h1,h2⟩:=New.iif.mp n
 cases e
 have s:=zah ht (.tup [.int w,.ref a])
 refine New.tup (fp:=[a]) (zaj.cint (zaj.cany (f:=[a]) (fp:=[]) (RepF.line (s _ _ h2)) zaj.nil)) (by simp) (λb hb=>?_) zac
 rw[zms.mp hb];exact h1
section
variable {ga wa:Addr}{goal:List Int}{known:List (List Int)}{m:Nat}
end
theorem zqo{P:Nat->V->Hp->Prop}(wk:Goes J H1 n P)(ls:List (List Int))(hn:ls.length=n)(hz:n<=sizeLine)(h9:∀ l∈ls,l.length=9)(step:∀ i x l H' (R:VK),i<n->ls[i]?=some l->Same H1 H'->P i x H'->(∀ a H3,Same H' H3->H3 a=some (.lst (l.map V.int))->R (.ref a) H3)->g x σ0 H' λσ2 H2=>te σ2 H2 R)(fin:∀ a H',Same H1 H'->H1 a=none->Ls H' a ls->Q (.ref a) H'):zll J g zp8 te σ0 H1 Q:=by
 intro Da hD
 refine⟨λi m ys H=>m=n - i/\i<=n/\Same H1 H/\H Da=some (.lst ys)/\Ls H Da (ls.take i),⟨n,rfl,Nat.zero_le _,zah hD _,zac,[],zac,rfl,λi a l e _=>by simp at e⟩,?_⟩
 rintro i m ys H ⟨rfl,hi,hs,hH,hL⟩
 refine⟨hH,?_⟩
 obtain⟨as,h1,h2,h3⟩:=hL
 have ey:ys=as.map V.ref:=by rw[hH] at h1;injection h1 with h1;injection h1
 subst ey
 rw[List.length_take] at h2
 by_cases hlt:i<n
 ·refine .inr ⟨wk.go i H hlt hs,by rw[zlm];omega,λys' H'=>(n - (i+1)<n - i/\i+1<=n/\Same H1 H'/\H' Da=some (.lst ys')/\Ls H' Da (ls.take (i+1))),λys' H' ⟨q1,q2,q3,q4,q5⟩=>⟨n - (i+1),q1,rfl,q2,q3,q4,q5⟩,λx H' hy=>?_⟩
  obtain⟨s1,hp⟩:=wk.yld i H x H' hlt hs hy
  have hi':i<ls.length:=by omega
  refine step i x ls[i] H' _ hlt (by simp) (hs.trans s1) hp λa H3 s3 ha=>?_
  have hD3:H3 Da=some (.lst (as.map V.ref)):=s3 _ _ (s1 _ _ hH)
  refine⟨hD3,by omega,hlt,λb o e=>?_,zac,as++[a],by rw[zac,List.map_append];rfl,by rw[List.length_append,List.length_take];simp;omega,λj b l e1 e2=>?_⟩
  ·rw[zai (zao e hD)]
   exact s3 _ _ (s1 _ _ (hs _ _ e))
  ·have key:H3 b=some (.lst (l.map V.int))/\l.length=9:=by
    refine⟨?_,h9 l (List.mem_of_mem_take (zmg e2))⟩
    rw[List.getElem?_append] at e1
    split at e1
    ·rename_i hj
     have hji:j<i:=by omega
     refine s3 _ _ (s1 _ _ (h3 j b l e1 ?_))
     rw[List.getElem?_take] at e2 ⊢
     rw[if_pos (by omega)] at e2
     rw[if_pos hji];exact e2
    ·rename_i hj
     have hj0:j - as.length=0:=by
      have:=(zge.mp e1).1
      simp at this;omega
     have hji:j=i:=by omega
     rw[hj0] at e1
     simp at e1
     subst e1
     rw[List.getElem?_take,if_pos (by omega),hji,List.getElem?_eq_getElem hi'] at e2
     cases e2
     exact ha
   rw[zai (λz=>by
    have q:=key.1
    rw[z] at q
    have:=zoH q hD3
    rw[this] at key;exact absurd key.2 (by decide))]
   exact key.1
 ·have e:i=n:=by omega
  subst e
  refine .inl ⟨wk.stop H hs,fin _ _ hs hD ⟨as,hH,by omega,λj a l e1 e2=>h3 j a l e1 ?_⟩⟩
  rw[List.take_of_length_le (by omega)];exact e2
theorem hr_u{k:Nat}(hr:Room k A):A.units+1<cLine:=by have:=hr.units;omega
variable {tx td ty:TE}
section
variable {D:Ends}
theorem zqp (h:td σ H λx H1=>∃ a,x=.ref a/\IsD H1 a/\ty σ H1 λy H2=>tx σ H2 λz H3=>∃ o,DGet H3 a y o/\Q (o.getD z) H3):zpn td ty tx σ H Q:=h
theorem zr4 (h:td σ H λx H1=>ty σ H1 λy H2=>∃ a v,x=.ref a/\DGet H2 a y (some v)/\Q v H2):zrt td ty σ H Q:=h
theorem i_din (h:ty σ H λy H1=>td σ H1 λx H2=>∃ a o,x=.ref a/\DGet H2 a y o/\Q (.bl o.isSome) H2):tDIn ty td σ H Q:=h
theorem zoI (h:ty σ H λy H1=>td σ H1 λx H2=>∃ a o,x=.ref a/\DGet H2 a y o/\Q (.bl (!o.isSome)) H2):zm4 ty td σ H Q:=h
theorem zr5 (h:tv σ H λv H1=>td σ H1 λx H2=>ty σ H2 λy H3=>∃ a H4,x=.ref a/\DPut H3 a y v H4/\D.nx σ H4):zru td ty tv D σ H:=h
theorem zil {trs:List (TE × TE)}(h:∀ p,H p=none->zg4 trs σ (upd H p (.dK [])) λps H2=>H2 p=some (.dK [])/\∃ kvs:List (Key × V),ps=kvs.map (λkv=>(kV kv.1,kv.2))/\kvs.length<=15/\Q (.ref p) (upd H2 p (.dK (zbR [] kvs)))):zrv trs σ H Q:=h
variable {R:List (V × V)->Hp->Prop}
theorem zoJ(h:R [] H):zg4 [] σ H R:=h
theorem zqq{tk:TE}{r:List (TE × TE)}(h:tk σ H λx H1=>tv σ H1 λy H2=>zg4 r σ H2 λps H3=>R ((x,y)::ps) H3):zg4 ((tk,tv)::r) σ H R:=h
end
theorem Ls.more{na p:Addr}{ls ms:List (List Int)}{bs:List Addr}(h:Ls H na ls)(e:H na=some (.lst xs))(hl:bs.length=ms.length)(hb:∀ (i:Nat) a l,bs[i]?=some a->ms[i]?=some l->H a=some (.lst (l.map V.int)))(hp:H p=none):Ls (L2.upd H p (.lst (xs++bs.map V.ref))) p (ls++ms):=by
 obtain⟨as,h1,h2,h3⟩:=h
 rw[h1] at e;cases e
 refine⟨as++bs,by rw[zac,List.map_append],by simp[h2,hl],λi a l e1 e2=>zah hp _ _ _ ?_⟩
 rw[List.getElem?_append] at e1 e2
 rw[<-h2] at e2
 split at e1
 ·rename_i z;rw[if_pos z] at e2;exact h3 i a l e1 e2
 ·rename_i z;rw[if_neg z] at e2;exact hb _ a l e1 e2
theorem zdb(h:H a=some (.lst (l.map V.int))):∀ (i:Nat) b m,[a][i]?=some b->[l][i]?=some m->H b=some (.lst (m.map V.int)):=λi b m e1 e2=>by
 cases i with
 | zero=>simp at e1 e2;subst e1;subst e2;exact h
 | succ i=>simp at e1
theorem zcU{c:Addr}{k:List Int}(h:H a=some (.lst (l.map V.int)))(h':H c=some (.lst (k.map V.int))):∀ (i:Nat) b m,[a,c][i]?=some b->[l,k][i]?=some m->H b=some (.lst (m.map V.int)):=λi b m e1 e2=>by
 cases i with
 | zero=>simp at e1 e2;subst e1;subst e2;exact h
 | succ i=>
  cases i with
  | zero=>simp at e1 e2;subst e1;subst e2;exact h'
  | succ i=>simp at e1
theorem zdy{bs:List Addr}{ms:List (List Int)}(e:H a=some (.lst (bs.map V.ref)))(hl:bs.length=ms.length)(hb:∀ (i:Nat) b l,bs[i]?=some b->ms[i]?=some l->H b=some (.lst (l.map V.int))):Rep K H (.lst (ms.map nums)) (.ref a):=(show Ls H a ms from ⟨bs,e,hl,hb⟩).rep
def tFs (te:TE):TE:=λσ H Q=>te σ H λx H1=>∃ i:Int,x=.int i/\i.natAbs<zbm/\∀ z,Q (.str z) H1
variable {k1:Nat}{p1 p2:Pos}
section
variable {a b:Str}{k2:Nat}{p3:Pos}
theorem zr6 (he:PE X e te)(ha:a.length<=400)(hb:b.length<=400):PE X (.JoinedStr [.Constant (.str a) k1 p1,.FormattedValue e (-1) none p2,.Constant (.str b) k2 p3] pos) (tFs te):=by
 intro pins s σ H Q I h
 have e0:(Str.empty++a).length=a.length:=by rw[strLen_append];show 0+a.length=_;omega
 refine PySem.wpAny_JoinedStr ?_
 show Joins _ _ _ [eval (.Constant (.str a) k1 p1) X.env,eval (.FormattedValue e (-1) none p2) X.env,eval (.Constant (.str b) k2 p3) X.env] _ _ _
 refine Calls.Constant_str ⟨a,_,rfl,by rw[e0];exact zaq (by omega),?_⟩
 refine PySem.wpAny_FormattedValue_plain (thn (he pins _ σ H _ (I.tok _) h) λv s1 ⟨x,H1,I1,rx,i,ex,hi,q⟩=>?_)
 subst ex
 obtain⟨t,rfl⟩:=rx
 have l2:=zhe hi
 have e1:((Str.empty++a)++Str.ofString (toString i)).length=a.length+(Str.ofString (toString i)).length:=by rw[strLen_append,e0]
 have e2:(((Str.empty++a)++Str.ofString (toString i))++b).length=a.length+(Str.ofString (toString i)).length+b.length:=by rw[strLen_append,e1]
 refine PySem.wpAny_formatField_int (zjN hi) ⟨_,_,rfl,by rw[show ((Str.empty++a)++_).length=_ from e1];exact zaq (by omega),?_⟩
 refine Calls.Constant_str ⟨b,_,rfl,by rw[show (((Str.empty++a)++_)++b).length=_ from e2];exact zaq (by omega),?_⟩
 exact⟨by rw[show (((Str.empty++a)++_)++b).length=_ from e2];exact zaq (by omega),.str _,H1,(((I1.tok _).tok _).tok _).tok _,⟨_,rfl⟩,q _⟩
theorem i_fs(h:te σ H λx H1=>∃ i:Int,x=.int i/\i.natAbs<zbm/\∀ z,Q (.str z) H1):tFs te σ H Q:=h
end
theorem zjP: zcA (CX1 P w) X E0:=λ_ _ _ _ _ _ _ h=>by
 obtain⟨_,_,_,_,_,_,_,_,_,h⟩:=h
 exact h.elim
theorem zqr{t:TA}(h:t σ H λvs H1=>sp vs H1 Q E):ziG sp [] E t σ H Q:=by
 have e:(λ(vs:List V) (H1:Hp)=>sp (vs++[]) H1 Q E)=λvs H1=>sp vs H1 Q E:=by funext vs H1;rw[List.append_nil]
 show t σ H λvs H1=>sp (vs++[]) H1 Q E
 rw[e];exact h
theorem zqs{C:Value}{t:TA}{D:Ends}(h:t σ H λvs H1=>vs.length<=sizeLine/\E C none H1):zpw C E t D σ H:=h
theorem Acc.ext{H3:Hp}{zs:List V}(a:Acc H da H2 ds vs)(f:Free H H2)(s:Same H2 H3)(n:New H2 H3 (.lst ds2) (.ref b))(hb:H3 b=some (.lst zs)):Acc H da (upd H3 da (.lst (vs++zs))) (ds++ds2) (vs++zs):=by
 obtain⟨fp,h1,h2,h3,h4,h5⟩:=a
 obtain⟨b',zs',fq,e,b0,g1,g2,g3,g4,g5⟩:=New.lso n
 cases e
 have ez:zs'=zs:=by rw[g1] at hb;injection hb with hb;injection hb
 subst ez
 have hd3:=s _ _ h1
 have tk:=zc8 (o:=.lst (vs++zs')) hd3
 have ndq:da∉fq:=λm=>by have:=g5 da m;rw[h1] at this;cases this
 have k1:∀ c∈fp,(upd H3 da (.lst (vs++zs'))) c=H2 c:=λc hc=>by
  obtain⟨o,ho⟩:=zaj.has ds h2 c hc
  rw[zai (show c≠da from λz=>h4 (by rw[<-z];exact hc)),ho]
  exact s _ _ ho
 have k2:∀ c∈fq,(upd H3 da (.lst (vs++zs'))) c=H3 c:=λc hc=>by rw[zai (show c≠da from λz=>ndq (by rw[<-z];exact hc))]
 refine⟨fp++fq,zac,(zaj.frame (s.tups.trans tk) ds k1 h2).append (zaj.frame tk ds2 k2 g2),List.nodup_append.mpr ⟨h3,g3,λx hx y hy z=>?_⟩,λm=>(zma.mp m).elim h4 ndq,λc m=>?_⟩
 ·subst z
  obtain⟨o,ho⟩:=zaj.has ds h2 x hx
  have:=g5 x hy
  rw[ho] at this;cases this
 ·rcases zma.mp m with m | m
  ·exact h5 c m
  ·exact f c (g5 c m)
theorem zr7{tb:XK->TS}{D:Ends}(h:tb (λC _ H'=>∀ a,th C a D σ H') D σ H):tTry tb th D σ H:=h
open PySem.Calls
theorem zkL:∀ {ns:List Int}{us:List Value},ns.length=us.length->(∀ (j:Nat) (u:Value),us[j]?=some u->∃ (i:Int) (t:Tok),ns[j]?=some i/\u=Value.int i t)->Vals (ns.map V.int) us
 | [],[],_,_=>.nil
 | [],_::_,e,_=>by simp at e
 | _::_,[],e,_=>by simp at e
 | n::ns,u::us,e,h=>by
  obtain⟨i,t,e1,e2⟩:=h 0 u rfl
  have e1:n=i:=by simpa using e1
  subst e1
  exact .cons ⟨t,e2⟩ (zkL (by simpa using e) λj v hv=>by
   obtain⟨i,t,q1,q2⟩:=h (j+1) v (by simpa using hv)
   exact⟨i,t,by simpa using q1,q2⟩)
def zpB:List V->Hp->VK->Prop:=λxs H Q=>∃ (a:Addr) (kvs:List (Key × V)) (ns:List Int),xs=[.ref a]/\H a=some (.dK kvs)/\kvs.map (·.1)=ns.map Sum.inl/\ns.length<64/\∀ (l:Addr) (ns':List Int),H l=none->ns'.Perm ns->ns'.Pairwise (·<=·)->Q (.ref l) (upd H l (.lst (ns'.map V.int)))
theorem zgi(hc:X.calm=true):zb3 X (.builtin "sorted") zpB:=by
 intro pins s σ H xs us Q I r h
 obtain⟨a,kvs,ns,rfl,ha,hk,h64,q⟩:=h
 obtain⟨u,rfl,rx⟩:=zhM r
 cases rx
 obtain⟨z,hd,vs,rel,dd⟩:=zkE I.hok ha
 obtain⟨ep,hat⟩:=dd.dictAt
 have hl:=rel.length
 have lk:kvs.length=ns.length:=by
  have:=congrArg List.length hk
  simpa using this
 refine call_function_entry kind_sorted plain_sorted entry_sorted (args_sorted1 _) ?_
 unfold Builtin.«sorted»
 refine wpAny_bind (m:=checkCount "sorted" 1 1 _) (wpAny_pure ?_)
 refine wpAny_bind (kdu_collect (A:=X.A.in1) (kdl_dict (knd:=zbh X.prog X.w) (kvs:=vs) (ep:=ep) hd) (show X.A.in1.handled=none from I.ok.hd hc) hat (by rw[<-hl];exact z) λh' tk acc hk' hacc=>?_)
 have hla:acc.toList.length=vs.length:=by rw[Array.length_toList];exact hacc.1
 have vl:Vals (ns.map V.int) acc.toList:=zkL (by omega) λj u hu=>by
  obtain⟨k,x,hx,hk2⟩:=hacc.2 j u (by rw[<-Array.getElem?_toList];exact hu)
  have e:(vs.map (·.1))[j]?=some k:=by rw[zgm,hx];rfl
  rw[<-rel.keys,hk,zgm] at e
  obtain⟨i,hi,rfl⟩:=zme.mp e
  rcases zbg (show zjl (Sum.inl i) u=true from hk2) with ⟨i',t,e,rfl⟩ | ⟨x',t,e,rfl⟩
  ·cases e;exact⟨i,t,hi,rfl⟩
  ·cases e
 refine wpAny_bind (wpAny_newList ?_ (by rw[hla,<-hl];exact z))
 have hoL:(h'.push {cls:=.type "list",data:=.seq acc.toList.toArray}).get? h'.objs.size=some (seqObj "list" acc.toList.toArray 0):=Heap.get?_push_size _ rfl
 have I1:Inv X pins σ H {s with heap:=h',toks:=tk}:=I.kept hk'
 refine wpAny_bind (wpAny_holding (wpAny_call_entry slot_list_sort ⟨_,hoL,rfl⟩ entry_list_sort (list_sort_tree hoL (zlY vl) (by omega) λout ns' a1 a2 a3=>⟨_,rfl,?_⟩) (args_list_sort _)))
 refine wpAny_pure ⟨_,rfl,?_⟩
 obtain⟨e,he⟩:=sortedHeap_at (out:=out) hoL
 have zn:(ns'.map V.int).length<=sizeLine:=by rw[zlm,a2.length_eq];exact zaq (by omega)
 refine⟨.ref h'.objs.size,_,I1.laid (a:=h'.objs.size) (t':=tk) (λb u hu=>?_) (Nat.le_refl _) (show zbU X.prog X.w _ _ _ (.lst (ns'.map V.int)) from ⟨zn,out.toList,e,zg6 a1,by rw[Array.toArray_toList];exact he⟩),rfl,q _ _ I1.fresh a2 a3⟩
 have hu:h'.get? b=some u:=hu
 have hlt:=Heap.lt_size hu
 show (sortedHeap (h'.push {cls:=.type "list",data:=.seq acc.toList.toArray}) h'.objs.size acc.toList out).get? b=some u
 rw[sortedHeap_old (Nat.ne_of_lt hlt) (by rw[size_push'];exact Nat.lt_succ_of_lt hlt)]
 exact Heap.get?_push_of_some _ hu
def zpC:List V->Hp->VK->Prop:=λxs H Q=>∃ (a:Addr) (kvs:List (Key × V)) (ns:List Int),xs=[.ref a]/\H a=some (.dK kvs)/\kvs.map (·.1)=ns.map Sum.inl/\∀ (l:Addr),H l=none->Q (.ref l) (upd H l (.lst (ns.map V.int)))
theorem zl8(hc:X.calm=true):zb3 X (.type "list") zpC:=by
 intro pins s σ H xs us Q I r h
 obtain⟨a,kvs,ns,rfl,ha,hk,q⟩:=h
 obtain⟨u,rfl,rx⟩:=zhM r
 cases rx
 obtain⟨z,hd,vs,rel,dd⟩:=zkE I.hok ha
 obtain⟨ep,hat⟩:=dd.dictAt
 have hl:=rel.length
 have lk:kvs.length=ns.length:=by
  have:=congrArg List.length hk
  simpa using this
 refine kdl_call (kdl_dict (knd:=zbh X.prog X.w) (kvs:=vs) (ep:=ep) hd) (I.ok.hd hc) hat (by rw[<-hl];exact z) λh' tk acc c' hk' hS' hacc=>?_
 have hla:acc.toList.length=vs.length:=by rw[Array.length_toList];exact hacc.1
 have vl:Vals (ns.map V.int) acc.toList:=zkL (by omega) λj u hu=>by
  obtain⟨k,x,hx,hk2⟩:=hacc.2 j u (by rw[<-Array.getElem?_toList];exact hu)
  have e:(vs.map (·.1))[j]?=some k:=by rw[zgm,hx];rfl
  rw[<-rel.keys,hk,zgm] at e
  obtain⟨i,hi,rfl⟩:=zme.mp e
  rcases zbg (show zjl (Sum.inl i) u=true from hk2) with ⟨i',t,e,rfl⟩ | ⟨x',t,e,rfl⟩
  ·cases e;exact⟨i,t,hi,rfl⟩
  ·cases e
 exact⟨.ref s.heap.objs.size,_,I.laid (t':=tk) hk' (Nat.le_refl _) (show zbU X.prog X.w _ _ _ (.lst (ns.map V.int)) from ⟨by rw[zlm];omega,acc.toList,c',vl,by rw[Array.toArray_toList];exact hS'⟩),rfl,q _ I.fresh⟩
variable {kvs:List (Key × V)}
theorem zqt(h:H a=some (.dK kvs))(e:kvs.map (·.1)=ns.map Sum.inl)(q:∀ (l:Addr),H l=none->Q (.ref l) (upd H l (.lst (ns.map V.int)))):zpC [.ref a] H Q:=⟨a,kvs,ns,rfl,h,e,q⟩
theorem zhg:bootBuiltins "sorted"=some (.builtin "sorted"):=by decide +kernel
theorem znt(h:H a=some (.dK kvs))(e:kvs.map (·.1)=ns.map Sum.inl)(l:ns.length<64)(q:∀ (l:Addr) (ns':List Int),H l=none->ns'.Perm ns->ns'.Pairwise (·<=·)->Q (.ref l) (upd H l (.lst (ns'.map V.int)))):zpB [.ref a] H Q:=⟨a,kvs,ns,rfl,h,e,l,q⟩
theorem zr8(h:∀ p,H p=none->Q (.ref p) (upd H p (.dK []))):zpl σ H Q:=h
theorem zjQ {κ:Type}[DecidableEq κ](k j:κ):∀ kvs:List (κ × V),valV (zd7 kvs k) j=if j=k then none else valV kvs j
 | []=>by simp[zd7,valV]
 | p::r=>by
  have ih:=zjQ k j r
  by_cases e:p.1=k
  ·rw[zna e,ih]
   by_cases z:j=k
   ·rw[if_pos z,if_pos z]
   ·rw[if_neg z,if_neg z,zbH (λw=>z (w.symm.trans e))]
  ·rw[znb e]
   by_cases w:p.1=j
   ·rw[zbN w,zbN w,if_neg (λz=>e (w.trans z))]
   ·rw[zbH w,zbH w,ih]
section
variable {a:Str}
theorem zly (he:PE X e te)(ha:a.length<=400):PE X (.JoinedStr [.Constant (.str a) k1 p1,.FormattedValue e (-1) none p2] pos) (tFs te):=by
 intro pins s σ H Q I h
 have e0:(Str.empty++a).length=a.length:=by rw[strLen_append];show 0+a.length=_;omega
 refine PySem.wpAny_JoinedStr ?_
 show Joins _ _ _ [eval (.Constant (.str a) k1 p1) X.env,eval (.FormattedValue e (-1) none p2) X.env] _ _ _
 refine Calls.Constant_str ⟨a,_,rfl,by rw[e0];exact zaq (by omega),?_⟩
 refine PySem.wpAny_FormattedValue_plain (thn (he pins _ σ H _ (I.tok _) h) λv s1 ⟨x,H1,I1,rx,i,ex,hi,q⟩=>?_)
 subst ex
 obtain⟨t,rfl⟩:=rx
 have l2:=zhe hi
 have e1:((Str.empty++a)++Str.ofString (toString i)).length=a.length+(Str.ofString (toString i)).length:=by rw[strLen_append,e0]
 refine PySem.wpAny_formatField_int (zjN hi) ⟨_,_,rfl,by rw[show ((Str.empty++a)++_).length=_ from e1];exact zaq (by omega),?_⟩
 exact⟨by rw[show ((Str.empty++a)++_).length=_ from e1];exact zaq (by omega),.str _,H1,((I1.tok _).tok _).tok _,⟨_,rfl⟩,q _⟩
end
section
variable {k j:Nat}
theorem zr9 (G:Mkr X.prog X.w X.K X.mg X.base x C ps j sp)(hr:Room k X.A)(hg:Gl X x)(hj:j+1<=k:=by decide)(hdb:(x == ("__debug__" : Str))=false:=by decide):PE X (.Call (.Name x p) [] [] pos) (zkA C sp [] E0 tNil):=by
 obtain⟨f,fd,M,F,hb,hm⟩:=G.ex
 exact zog M F (hr.mono hj) hg hm hb .nil za5 hdb
end
theorem zsa{m:Str}{t:TA}(h:ta σ H λx H1=>MethI C m x H1 (t σ H1 λvs H2=>sp (x::vs) H2 Q E)):zjp C m sp [] E ta t σ H Q:=by
 have e:(λ(x:V) (vs:List V) (H2:Hp)=>sp (x::(vs++[])) H2 Q E)=λx vs H2=>sp (x::vs) H2 Q E:=by funext x vs H2;rw[List.append_nil]
 show ta σ H λx H1=>MethI C m x H1 (t σ H1 λvs H2=>(λ(x:V) (vs:List V) (H2:Hp)=>sp (x::(vs++[])) H2 Q E) x vs H2)
 rw[e];exact h
theorem zqu(h:td σ H λx H1=>∃ a,x=.ref a/\IsD H1 a/\ty σ H1 λy H2=>tx σ H2 λz H3=>∃ kvs k,H3 a=some (.dK kvs)/\y=kV k/\(∀ v,valV kvs k=some v->Q v (upd H3 a (.dK (zd7 kvs k))))/\(valV kvs k=none->Q z H3)):zpo td ty tx σ H Q:=h
theorem ndS(h:N.Nodup:=by decide +kernel):N.Nodup:=h
theorem COk.m(kind:scope.kind=.function:=by rfl)(nocell:∀ y∈scope.names,y.2≠.cell:=by decide +kernel)(nm:∀ y∈scope.names,y.2=.local->scope.names.lookup y.1=some .local:=by decide +kernel)(fr:∀ y∈scope.names,y.2=.free->sc0.names.lookup y.1=some .cell\/sc0.names.lookup y.1=some .free:=by decide +kernel)(len:ms.length=N'.length:=by rfl)(sl:zha N scope N' ms (N.map some)=true:=by decide +kernel):COk sc0 N scope N' ms:=COk.mk' kind nocell nm fr len sl
section
variable {k:Nat}
end
def tTru (K:Fg)(ta:TE):TT:=λσ H Q=>ta σ H λx H'=>∃ k,TruV K x H' k/\Q k H'
theorem zqv{a:Expr}(K:Fg)(ha:PE X a ta)(hK:X.K=K:=by rfl)(he:∀ whole,isTrue a X.env whole=(do let v <-whole;standAt a.pos;holding [v] (truthy v)):=by intro _;rfl):PT X a (tTru K ta):=by subst hK;exact zob ha he
theorem i_tru{Q:Bool->Hp->Prop}(h:ta σ H λx H'=>∃ k,TruV K x H' k/\Q k H'):tTru K ta σ H Q:=h
theorem znu{P:Bool->Prop}(h:SqL K H a xs)(q:P (!xs.isEmpty)):∃ k,TruV K (.ref a) H k/\P k:=⟨_,.inl ⟨xs,h,rfl⟩,q⟩
theorem zsb(h:H a=some (.lst xs))(e:xs[xs.length - 1]?=some y)(q:Q y (upd H a (.lst xs.dropLast))):rPop (.ref a) [] H Q:=⟨a,xs,y,rfl,rfl,h,e,q⟩
theorem zsc(h:H a=some (.lst (y::xs)))(q:Q y (upd H a (.lst xs))):zpk (.ref a) [.int 0] H Q:=⟨a,y::xs,0,0,y,rfl,rfl,h,by decide,by decide,by unfold seqIndex?;simp,rfl,q⟩
mutual
theorem RepF.hasL {H:Hp} : ∀ (d:D) {v:V}{fp:List Addr},RepF H d v fp->∀ a∈fp,∃ xs,H a=some (.lst xs)
 | .non,_,_,h,a,m=>by unfold RepF at h;rw[h.2] at m;cases m
 | .bl _,_,_,h,a,m=>by unfold RepF at h;rw[h.2] at m;cases m
 | .int _,_,_,h,a,m=>by unfold RepF at h;rw[h.2] at m;cases m
 | .str _,_,_,h,a,m=>by unfold RepF at h;rw[h.2] at m;cases m
 | .lst ds,_,_,h,b,m=>by
  unfold RepF at h
  obtain⟨a,xs,r,h1,h0,h2,h3⟩:=h
  subst h0
  rcases List.mem_cons.mp m with rfl | m
  ·exact⟨_,h2⟩
  ·exact zaj.hasL ds h3 b m
 | .tup ds,_,_,h,b,m=>by
  unfold RepF at h
  obtain⟨a,xs,h1,h2,h3⟩:=h
  exact zaj.hasL ds h3 b m
theorem zaj.hasL {H:Hp} : ∀ (ds:List D) {vs:List V}{fp:List Addr},zaj H ds vs fp->∀ a∈fp,∃ xs,H a=some (.lst xs)
 | [],_,_,h,a,m=>by unfold zaj at h;rw[h.2] at m;cases m
 | d::ds,_,_,h,b,m=>by
  unfold zaj at h
  obtain⟨v,r,f,g,h1,h0,h2,h3⟩:=h
  subst h0
  rcases zma.mp m with m | m
  ·exact RepF.hasL d h2 b m
  ·exact zaj.hasL ds h3 b m
end
structure Kn (u:TS)(D:Ends)(NX:St->Hp->Prop):Prop where
 on:∀ σ H,u D σ H->NX σ H
theorem zpD{t:TS}{D:Ends}(h:∀ NX:St->Hp->Prop,Kn u D NX->t {D with nx:=NX} σ H):tSeq t u D σ H:=h _ ⟨λ_ _ q=>q⟩
theorem goOn{D:Ends}{NX:St->Hp->Prop}(k:Kn u D NX)(h:u D σ H):NX σ H:=k.on _ _ h
theorem i_ifK{t:TS}{D:Ends}(h:∀ T:St->Hp->Prop,Kn t D T->∀ U:St->Hp->Prop,Kn u D U->c σ H λb H1=>if b=true then T σ H1 else U σ H1):tIfS c t u D σ H:=h _ ⟨λ_ _ q=>q⟩ _ ⟨λ_ _ q=>q⟩
theorem zsd{n:Str}{ps:Arguments}{b:List Stmt}(h:zaI K a=some (zpM n q ps b sc))(hc:zak K a q=true):
  ∃ oc od sl kV dc pm an cd ct,K.lookup a=some ⟨oc,od,.func (fnOf n q ps b sc .none kV dc pm an cd ct),sl⟩/\codeIn K cd q=true/\keepIn K (.ref a)=true:=by
 unfold zaI at h
 unfold zak at hc
 split at h
 ·rename_i oc od f sl e
  rw[e] at hc
  simp only[Bool.and_eq_true] at hc
  obtain⟨c1,c2⟩:=hc
  obtain⟨f1,f2,f3,f4,f5,f6,f7,f8,f9,f10,f11,f12,f13,f14,f15⟩:=f
  have h:=Option.some.inj h
  unfold zpM at h
  simp only[Prod.mk.injEq] at h
  obtain⟨rfl,rfl,rfl,rfl,rfl,rfl,rfl,rfl,rfl⟩:=h
  exact⟨oc,od,sl,_,_,_,_,_,_,e,c1,c2⟩
 ·cases h
theorem zim(h:zgd K C bm newId=true):
  ∃ nm q N bs hdct sn sub ab col dd k0 k1 k2 k3 k5,K.lookup C=some (excClassObj nm q C N bs bm hdct sn sub ab col dd k0 k1 k2 k3 k5 newId):=by
 unfold zgd at h
 split at h
 ·rename_i cl dd c sl e
  simp only[Bool.and_eq_true] at h
  obtain⟨⟨⟨h1,h2⟩,h3⟩,h4⟩:=h
  obtain⟨c1,c2,c3,c4,c5,c6,c7,c8,c9,c10,c11⟩:=c
  have h1:=eq_of_beq h1
  have h2:c3=.ref C::bm:=eq_of_beq h2
  have h30:c11=false:=by cases c11 <;> first | rfl | cases h3
  subst h1 h2 h30
  split at h4
  ·rename_i k0 k1 k2 k3 v k5 es
   have h4:=eq_of_beq h4
   subst h4
   have es:sl=#[k0,k1,k2,k3,some (.builtin newId),k5]:=by rw[<-Array.toArray_toList (xs:=sl),es]
   subst es
   exact⟨_,_,_,_,_,_,_,_,_,_,_,_,_,_,_,e⟩
  ·cases h4
 ·cases h
theorem zlz{vs:List Value}(h:zic K a vs=true):∃ dd n ss,K.lookup a=some ⟨.type "tuple",dd,.seq vs.toArray n,ss⟩:=by
 unfold zic at h
 split at h
 ·rename_i cl dd xs n ss e
  simp only[Bool.and_eq_true] at h
  obtain⟨h1,h2⟩:=h
  have h1:=eq_of_beq h1
  have h2:xs.toList=vs:=eq_of_beq h2
  subst h1 h2
  exact⟨dd,n,ss,by rw[Array.toArray_toList];exact e⟩
 ·cases h
theorem walk_ofE{l:PySem.W.OpenLaw}{k:Nat}{q:Program}{loose:List Str}{XP:(Str->Option Value)->Heap->Prop}{YP:World->Heap->Prop}{d:DefRec}{S:Fg->Prop}{sp:Fg->Sp}(hn:l.most=some n)(hn2:n<=sizeLine)(hdf:d.params.defaults=[])(hr:Room k callerA)(hY:∀ (w:World) (h:Heap),YP w h->∃ K:Fg,K.In h/\S K)(F:∀ (w:World) (K:Fg) (mg:Str->Option Value) (fa:Addr) (h:Heap),S K->K.In h->h.Ns mainGlobals mg->mg d.name=some (.ref fa)->
   ∃ fd:FuncData,(∀ (s:Shared) (u:Value),BindsTo s fd ⟨[u],[]⟩ [(x,u)])/\
    ∀ base:Heap,K.In base->base.Ns mainGlobals mg->FnOk l.prog w K mg base CX k fa fd [x] (sp K))(hsp:∀ (K:Fg) (H:Hp) (a:Addr) (ns:List Int),ns.length<=n->Only H->SqL K H a (ns.map V.int)->sp K [.ref a] H (λv _=>v=.bl true) λ_ _ _=>False)(hCX:∀ (H:Hp) (s:Shared) (e:Value) (s':Shared),CX [] H s (λ_ _ _=>False) e s'->False):
  PySem.W.WalkO q loose XP YP l.row.toRowW d [] (λf vs=>PySem.call f vs):=by
 refine Att.attach_call hn hdf λw s₀ s₁ mg mb fa o pm cd doc a vs ns G Y ho hd hcd hmg hobj hints hlen hg=>?_
 obtain⟨K,KX,hS⟩:=hY w _ Y
 obtain⟨fd,hb,hF⟩:=F w K mg fa _ hS KX G.T.g hmg
 exact zom KX G.T.g G.T.b G.T.builtins G.T.nolimit hg hobj hints (Nat.le_trans hlen hn2) hr hF hb (λH hO hS=>hsp K H a ns hlen hO hS) λH e s'=>hCX H s₁ e s'
end L2

set_option maxHeartbeats 0
namespace L2
open PySem PySem.Spec PySem.Calls PyProof.Rows
variable {a:Addr}{o:Obj}{A:Around}{w:World}{E:Value->Shared->Prop}{prog:Program}{g:Array GenState}{d:Drawn}{os:OsState}
section
variable {h:Heap}{t:Nat}
end
section
variable {h:Heap}{t:Nat}{its:Array Value}{n:Nat}
end
section
variable {prog:Program}{w:World}{K:Type} [DecidableEq K] {knd:KeyKind prog w K}{A:Around}
end
section
variable {prog:Program}{w:World}{K:Type} [DecidableEq K] {knd:KeyKind prog w K}{A:Around}{E:Value->Shared->Prop}{s:Shared}
end
open PySem.W
def rIsB:R2:=λx y H Q=>∃ i j,x=.bl i/\y=.bl j/\Q (.bl (decide (i=j))) H
def zse:R2:=λx y H Q=>∃ i j,x=.bl i/\y=.bl j/\Q (.bl (!decide (i=j))) H
theorem zpE {X:Cx} : OpR X (compareOp .Is) rIsB:=by
 intro pins s σ H x y v u Q I rx ry h
 obtain⟨i,j,rfl,rfl,q⟩:=h
 cases rx
 cases ry
 exact is_bool (zbc I q (by cases i <;> cases j <;> rfl))
theorem ze5 {X:Cx} : OpR X (compareOp .IsNot) zse:=by
 intro pins s σ H x y v u Q I rx ry h
 obtain⟨i,j,rfl,rfl,q⟩:=h
 cases rx
 cases ry
 exact isnot_bool (zbc I q (by cases i <;> cases j <;> rfl))
variable {H:Hp}{i j:Bool}{Q:VK}
theorem zsf(q:Q (.bl (decide (i=j))) H):rIsB (.bl i) (.bl j) H Q:=⟨i,j,rfl,rfl,q⟩
theorem zhh(q:Q (.bl (!decide (i=j))) H):zse (.bl i) (.bl j) H Q:=⟨i,j,rfl,rfl,q⟩
variable {s:Shared}
section
variable {R:Result->Shared->Prop}
end
variable {K:Fg}{C:Addr}{name:Str}
section
variable {x D:Addr}{ox od:Obj}{odo:Option Obj}
theorem zoK {Q:Option Value->Shared->Prop}(X:K.In s.heap)(I:InstAt s.heap x ox D odo)(hga:findIn K (.ref D) "__getattribute__"=some (some (.builtin "BaseException.__getattribute__")))(hk:findIn K (.ref D) "__getattr__"=some none)(hb:mroIn K D (.type "BaseException")=some true)
  (hf:findObj K D odo "__class__"=some (.bind (.builtin "getset_descriptor.__get__") (.builtin "object.__class__"))) (hm:mroIn K D (.type "object")=some true)
  (h:Q (some (.ref D)) {s with toks:=s.toks+1}) :
  wpAny (model prog w) A (getAttr? (.ref x) "__class__") Q E s:=by
 obtain⟨hh,g,d,t,os⟩:=s
 have L0:=I.type (M:=model prog w)
 have L1:=looks_findIn (M:=model prog w) X hga
 have L2:=looks_findIn (M:=model prog w) X hk
 unfold getAttr? getAttrBy? getAttrBy
 refine wpAny_bind (wpAny_mkText (wpAny_bind (wpAny_attempt (wpAny_holding (wpAny_bind (L0.at (wpAny_bind (L1.at ?_))))))))
 show wpAny _ _ (getAttrByItsOwn _ _ _ _ _ _) _ _ _
 unfold getAttrByItsOwn hookBefore
 rw[show (if onTheHeap (Value.ref D)=true then typeLookup (.ref D) "__getattr__" else pure none)=typeLookup (.ref D) "__getattr__" from rfl]
 refine wpAny_bind (L2.at (wpAny_bind (wpAny_attempt (wpAny_holding ?_))))
 show wpAny _ _ (boundAndCalled _ _ _) _ _ _
 unfold boundAndCalled
 have f3:=PySem.F.excAttr_ValueError.ga.bind (.ref x)
 rw[f3]
 refine wpAny_bind (wpAny_pure ?_)
 have L3:=looks_mroIn (M:=model prog w) X hb
 refine wpAny_call (codeAny_call_builtin PySem.F.excAttr_ValueError.ga.plain F.entry_bexc_ga ?_)
 have hkd:builtinKind "BaseException.__getattribute__"=some .slot:=by decide +kernel
 have hsplit:splitId "BaseException.__getattribute__"=some ("BaseException","__getattribute__"):=by decide +kernel
 have ha:=F.args_bexc_ga (.ref x) (.str "__class__" t)
 have L4:=looks_find (M:=model prog w) X I hf
 simp only[checkBuiltinCall,hkd,hsplit,List.cons_append,List.nil_append]
 unfold isInstance
 repeat lk
 refine wpAny_run (class_get (s:=⟨hh,g,d,t+1,os⟩) (ox:=ox) (od:=odo) X I hm ?_)
 refine wpAny_pure (wpAny_pure ?_)
 exact handed_on rfl (wpAny_pure h)
end
structure ErrIs2 (K:Fg)(C:Addr):Prop where
 ga:findIn K (.ref C) "__getattribute__"=some (some (.builtin "BaseException.__getattribute__"))
 gk:findIn K (.ref C) "__getattr__"=some none
 ha:findIn K (.ref C) "__class__"=some (some (.builtin "object.__class__"))
 hn:specialIn K (.builtin "object.__class__") "__get__"=some (some (.builtin "getset_descriptor.__get__"))
 htk:takesIn K (.builtin "object.__class__")=some true
 hm:mroIn K C (.type "object")=some true
 hb:mroIn K C (.type "BaseException")=some true
variable {anc:List Value}
theorem zjR(e:Err K C anc)(i:ErrIs2 K C)(hc:o.cls=.ref C)(hd:o.dict=none)(hn:∀ v,o.data≠.cls v):KitX K (.ref a) (.ref C) (λh=>h.get? a=some o):=by
 obtain⟨cC,c1,c2,c3⟩:=e.cls
 have inst:∀ h:Heap,h.get? a=some o->InstAt h a o C none:=λh ho=>⟨ho,hc,by unfold notCls;split <;> simp_all,by rw[hd];trivial⟩
 refine⟨λM h _ ho=>(inst h ho).type,λM h X ho=>?_,λh tp dd its n sl X htp=>?_,λ{prog w A E Q s} X ho k=>?_⟩
 ·unfold clsIn at c1
  split at c1
  ·rename_i c' d' cd' sl' hl
   intro A' Q' E' s' k q
   unfold isType loadHead
   exact wpAny_bind (wpAny_loadPart (k _ _ (X _ _ hl)) (wpAny_pure q))
  ·cases c1
 ·refine Bool.eq_false_iff.mpr λq=>?_
  have e:C=tp:=Value.ref.inj (beq_iff_eq.mp q)
  subst e
  unfold clsIn at c1
  split at c1
  ·rename_i c' d' cd' sl' hl
   have z:=(X _ _ hl).symm.trans htp
   cases z
  ·cases c1
 ·have hf:findObj K C none "__class__"=some (.bind (.builtin "getset_descriptor.__get__") (.builtin "object.__class__")):=by
   unfold findObj
   rw[c1,Option.bind_some,i.ha,Option.bind_some]
   simp[i.hn,i.htk]
  exact zoK X (inst _ ho) i.ga i.gk i.hb hf i.hm k
theorem znv {X:Cx} : zb3 X (.builtin "isinstance") (λxs H Q=>∃ a C D anc ancD,xs=[.ref a,.ref D]/\Pin X a (.ref C)/\Err X.K C anc/\ErrIs2 X.K C/\Err X.K D ancD/\Q (.bl ((Value.ref C::anc).contains (.ref D))) H):=by
 intro pins s σ H xs us Q I r h
 obtain⟨a,C,D,anc,ancD,rfl,⟨o,hp,hc,hd,hn⟩,eC,iC,eD,q⟩:=h
 obtain⟨u,v,rfl,ru,rv⟩:=zoc r
 cases ru;cases rv
 exact kia_one (zjR eC iC hc hd hn) I.kIn (I.pin (a,o) (List.mem_append_left _ hp)).1 (zqn eC eD) (λz=>nomatch z) λtk=>⟨.bl _,H,I.tok tk,rfl,q⟩
structure RoomH (k:Nat)(A:Around):Prop where
 dp:A.depth+3 * k+5<recursionLimit
 un:A.units+16 * k+200<cLine
 gd:A.guards=some []
theorem Room.h{k:Nat}(r:Room k A)(v:Option Value):RoomH k (A.mark v):=⟨r.dp,r.un,r.gd⟩
theorem RoomH.deeper{k:Nat}(r:RoomH (k+1) A)(env:Env):RoomH k (A.deeper env):=
 ⟨by have:=r.dp;show A.depth+1+3 * k+5<_;omega,by have:=r.un;show A.units+3+16 * k+200<_;omega,r.gd⟩
theorem RoomH.depth{k:Nat}(r:RoomH k A):A.depth<recursionLimit:=by have:=r.dp;omega
def cxH (CX:CXT)(P:Program)(w:World)(K:Fg)(mg:Str->Option Value)(base:Heap)(N:List Str)(qual:Str)(scope:Scope)(f:Addr)(cd:Value)(A:Around)(outer:List Env)(s:Shared)(H:Hp)(E:XK)(x0:Addr)(o0:Obj):Cx:=
 {cxOf CX P w K mg base N qual scope f cd A outer s H E with calm:=false,pn:=[(x0,o0)]}
structure FnOkH (P:Program)(w:World)(K:Fg)(mg:Str->Option Value)(base:Heap)(CX:CXT)(k:Nat)(f:Addr)(fd:FuncData)(ps:List Str)(sp:Value->Addr->Sp):Prop where
 len:∀ c x vs H Q E,sp c x vs H Q E->vs.length=ps.length
 run:∀ (A:Around) (outer:List Env) (s:Shared) (H:Hp) (args:Args) (us:List Value) (vs:List V) (Q:VK) (E:XK) (x0:Addr) (o0:Obj),RoomH k A->Env0 P w K mg base A outer s H->s.heap.get? x0=some o0->H x0=none->x0∉frs outer->(∀ v,o0.data≠.cell v)->o0.dict=none->(∀ v,o0.data≠.cls v)->BindsTo s fd args (ps.zip us)->Vals vs us->sp o0.cls x0 vs H Q E->
  codeAny (model P w) A (.call (.ref f) args) (CR CX outer P w H s Q E) s
variable {CX:CXT}{P:Program}{mg:Str->Option Value}{base:Heap}{N ps:List Str}{qual:Str}{scope:Scope}{f x0:Addr}{cd:Value}{outer:List Env}{o0:Obj}
theorem zl9{s1:Shared}{E:XK}{us:List Value}{vs:List V}(S:FSc N ps scope)(ho:s.heap.get? x0=some o0)(hH:H x0=none)(hF:x0∉frs outer)(hC:∀ v,o0.data≠.cell v)(e0:Env0 P w K mg base A outer s H)(hl:vs.length=ps.length)(r:Vals vs us)(x:InCallC s s.heap.objs.size (bindL (envOfC qual scope s.heap.objs.size f cd).kindOf (ps.zip us) λ_=>none) (cellsFrom (s.heap.objs.size+1) scope.names []) (bindC (envOfC qual scope s.heap.objs.size f cd).kindOf (ps.zip us) λ_=>none) s1):
  Inv (cxH CX P w K mg base N qual scope f cd A outer s H E x0 o0) [] (start N vs) H s1:=by
 have hpl:ps.length<=N.length:=by have:=congrArg List.length S.pre;rw[List.length_take] at this;omega
 obtain⟨h1,tk,rfl,hk⟩:=x.done
 have noA:∀ b:Addr,b∉(cxH CX P w K mg base N qual scope f cd A outer s H E x0 o0).ex:=λb z=>absurd (show b∈([]:List Addr) from z) (by simp)
 refine⟨⟨e0.mod,S.kind,rfl,rfl,Nat.le_refl _,λy z c h1 h2=>?_,λy hy=>?_,λy c _ h=>?_,(λz=>absurd z Bool.false_ne_true),Around.frames_deeper e0.frames,.inr ⟨rfl,rfl⟩,λb z=>absurd z (noA b),e0.bs,e0.bsz,λb _ _=>noA b,λb z=>absurd z (noA b),e0.funs,e0.frf⟩,
  rfl,e0.bare,Un.kept hk,⟨_,x.toInCall.ns,λi y v h1 h2 h3=>?_⟩,λy c h=>⟨_,x.cell y c h⟩,e0.hok.fresh (Nat.le_refl _),λy c h=>?_,λp hp=>?_,e0.hok.kept hk,?_⟩
 ·exact name_of_addr x.apart (PySem.mem_of_lookup h1) (PySem.mem_of_lookup h2)
 ·have hy:scope.names.lookup y=some .cell\/scope.names.lookup y=some .free:=hy
  rcases hy with hy | hy
  ·exact zgC hy
  ·exact absurd rfl (S.nofree _ (PySem.mem_of_lookup hy))
 ·exact Nat.le_of_lt (x.above y c (PySem.mem_of_lookup h))
 ·have hi:i<vs.length:=by
   unfold start at h2
   by_cases hi:i<vs.length
   ·exact hi
   ·rw[List.getElem?_append_right (by simpa using hi)] at h2
    rw[List.getElem?_replicate] at h2
    split at h2 <;> cases h2
  have ha:vs[i]?=some v:=by
   unfold start at h2
   rw[List.getElem?_append_left (by simpa using hi),zgm] at h2
   cases e:vs[i]? with
   | none=>rw[e] at h2;cases h2
   | some a=>rw[e] at h2;cases h2;rfl
  obtain⟨u,hu,rv⟩:=r.get ha
  have hp:ps[i]?=some y:=by
   rw[<-S.pre,List.getElem?_take_of_lt (by omega)];exact h1
  have ndP:ps.Nodup:=by rw[<-S.pre];exact S.nd.sublist (List.take_sublist _ _)
  refine⟨u,rv,?_⟩
  rcases S.par y (zmg hp) with k | k
  ·exact .inl ⟨k,zgX ndP hp hu k⟩
  ·obtain⟨c,e⟩:=zgC (n:=s.heap.objs.size+1) k
   refine .inr ⟨.inl k,c,e,?_⟩
   have q:=x.cell y c e
   rw[zgY ndP hp hu (by show scope.names.lookup y≠_;rw[k];decide)] at q
   exact q
 ·exact e0.hok.fresh (Nat.le_of_lt (x.above y c (PySem.mem_of_lookup h)))
 ·have hp:p∈[(x0,o0)]:=hp
  rw[zms.mp hp]
  exact⟨hk _ _ ho,hH,Nat.ne_of_lt (Heap.lt_size ho),hF,hC⟩
 ·unfold start
  show _=N.length
  rw[List.length_append,zlm,List.length_replicate]
  omega
variable {body:List Stmt}{sp:Value->Addr->Sp}
theorem zsg{k:Nat}{params:Arguments}{dV kV doc pm cdv ct oc:Value}{an od:Option Addr}{osl:Array (Option Value)}(lk:K.lookup f=some ⟨oc,od,.func (PySem.W.fnOf name qual params body scope dV kV doc pm an cdv ct),osl⟩)(hcd:PySem.W.codeIn K cdv qual=true)(S:FSc N ps scope)(len:∀ c x vs H Q E,sp c x vs H Q E->vs.length=ps.length)(hbody:∀ (A:Around) (outer:List Env) (s:Shared) (H:Hp) (vs:List V) (Q:VK) (E:XK) (x0:Addr) (o0:Obj),RoomH k (A.deeper (envOfC qual scope s.heap.objs.size f cdv))->o0.dict=none->(∀ v,o0.data≠.cls v)->sp o0.cls x0 vs H Q E->
   ∃ t,PSs (cxH CX P w K mg base N qual scope f cdv A outer s H E x0 o0) body t/\t {nx:=λ_ H'=>Q .non H',rt:=Q} (start N vs) H):
  FnOkH P w K mg base CX (k+1) f (PySem.W.fnOf name qual params body scope dV kV doc pm an cdv ct) ps sp:=by
 refine⟨len,λA outer s H args us vs Q E x0 o0 hr e0 ho hH hF hC hd hn hb r hsp=>?_⟩
 have hl:=len _ _ _ _ _ _ hsp
 have KX:K.In s.heap:=e0.mod.kin.keeps λb o e=>(e0.bs b o e).1
 have lim:s.heap.NoLimit:=e0.mod.nolimit.keeps λb o e=>(e0.bs b o e).1
 have hkind:∀ y∈ps.zip us,scope.names.lookup y.1=some .local\/(scope.names.lookup y.1=some .cell/\((cellsFrom (s.heap.objs.size+1) scope.names []).lookup y.1).isSome=true):=λ⟨n,v⟩ hy=>by
  rcases S.par n (List.of_mem_zip hy).1 with q | q
  ·exact .inl q
  ·exact .inr ⟨q,PySem.W.cellsFrom_some _ _ _ (.inl q)⟩
 refine codeAny_call_function hr.depth (KX _ _ lk) rfl S.co S.gen rfl (PySem.W.codeRec_of KX hcd) (hb _ _ _ _ ?_)
 refine wpAny_newFunctionEnv_cells S.kind hkind λenv he s1 x=>?_
 subst he
 refine⟨lim.keeps x.toInCall.keep,codeAny_func ?_⟩
 obtain⟨t,ht,hq⟩:=hbody A outer s H vs Q E x0 o0 (hr.deeper _) hd hn hsp
 have I:Inv (cxH CX P w K mg base N qual scope f cdv A outer s H E x0 o0) [] (start N vs) H s1:=zl9 S ho hH hF hC e0 hl r x
 refine wpAny_mono (ht [] s1 (start N vs) H _ I hq) (λfl s' hs=>?_) λe s' hs=>hs
 have fin:∀ {σ':St}{H':Hp}{v:V}{u:Value},Inv (cxH CX P w K mg base N qual scope f cdv A outer s H E x0 o0) [] σ' H' s'->RelV v u->Q v H'->CE outer P w H s Q u s':=
  λ{σ' H' v u} J rv q=>⟨v,H',J.os,J.bare,J.base,J.hok,rv,q⟩
 cases fl with
 | ret u=>
  obtain⟨v,σ',H',J,rv,q⟩:=hs
  exact fin J rv q
 | next=>
  obtain⟨σ',H',J,q⟩:=hs
  exact fin (v:=V.non) (u:=Value.none) J rfl q
 | brk=>
  obtain⟨_,_,_,q⟩:=hs
  exact False.elim q
 | cont=>
  obtain⟨_,_,_,q⟩:=hs
  exact False.elim q
variable {x:Str}{fd:FuncData}{p pos:Pos}{e:Expr}{es:List Expr}
section
variable {X:Cx}{k:Nat}{E:XK}{t:TA}
theorem zoL (F:FnOkH X.prog X.w X.K X.mg X.base CX k f fd ps sp)(hr:Room k X.A)(hg:Gl X x)(hm:X.mg x=some (.ref f))(hk:PySem.W.keepIn X.K (.ref f)=true)(hb:zd6 X.K fd ps [])(hx:zcA CX (XH X a o) E)(hd:o.dict=none)(hn:∀ v,o.data≠.cls v)
  (ha:PA (XH X a o) (e::es) t) (hdb:(x == ("__debug__" : Str))=false:=by decide) (he:starEach (e::es) X.env=(false,eval e X.env)::starEach es X.env:=by rfl) (hpl:(backTo pos (starEach es X.env)).any (·.1)=false:=by rfl) :
  PE (XH X a o) (.Call (.Name x p) (e::es) [] pos) (ziG (sp o.cls a) [] E t):=by
 intro pins s σ H Q I h
 refine wpAny_Call_Name_kw (ze2 I hg hm ?_ hdb)
 refine PySem.W.callWith_K (h₀:=X.base) I.ok.mod.kin hk (thn (ha pos pins s σ H _ I h) λus s1 ⟨vs,H1,I1,r,q⟩=>⟨I1.kIn,?_⟩) he hpl
 have q:sp o.cls a (vs++[]) H1 Q E:=q
 rw[List.append_nil] at q
 have hl:us.length=ps.length:=by rw[<-r.length];exact F.len _ _ _ _ _ _ q
 have pin:=I1.pin (a,o) (List.mem_append_left _ (.head _))
 have hF:a∉frs X.stack:=by
  rcases I1.ok.stk with z | ⟨z,zf⟩
  ·have z:X.stack=X.outer:=z
   rw[z];exact pin.2.2.2.1
  ·have z:X.stack=X.env::X.outer:=z
   have zf:X.env.frame=some X.env.locals:=zf
   rw[z]
   unfold frs
   rw[List.filterMap_cons,zf]
   exact λy=>by
    rcases List.mem_cons.mp y with w | w
    ·exact pin.2.2.1 w
    ·exact pin.2.2.2.1 w
 have hb':=hb s1 us I1.kIn (by rw[List.append_nil];exact hl)
 rw[List.append_nil] at hb'
 refine wpAny_call (codeAny_mono (F.run (XH X a o).A X.stack s1 H1 ⟨us,[]⟩ us vs Q E a o (hr.h _) I1.env0 pin.1 pin.2.1 hF pin.2.2.2.2 hd hn hb' r q) λr s' hq=>?_)
 cases r with
 | error e=>exact hx pins σ H1 s1 e s' I1 hq
 | ok fl=>
  cases fl with
  | ret u=>exact I1.after hq
  | next=>exact False.elim hq
  | brk=>exact False.elim hq
  | cont=>exact False.elim hq
end
open PySem.SeqAt
def zqw:V->List V->Hp->VK->Prop:=λx vs H Q=>∃ (l:Addr) (bs:List Bool),x=.ref l/\vs=[.bl true]/\H l=some (.lst (bs.map V.bl))/\Q (.int (bs.countP id:Nat)) H
def zqx:V->List V->Hp->VK->Prop:=λx vs H Q=>∃ (l:Addr) (bs:List Bool) (j:Nat),x=.ref l/\vs=[.bl true]/\H l=some (.lst (bs.map V.bl))/\bs[j]?=some true/\(∀ m,m<j->bs[m]?=some false)/\j<1000/\Q (.int (j:Int)) H
theorem ziS:∀ {bs:List Bool}{us:List Value},Vals (bs.map V.bl) us->us=bs.map Value.bool
 | [],_,h=>by cases h;rfl
 | b::bs,_,h=>by
  cases h with
  | cons h1 h2=>cases h1;rw[ziS h2];rfl
theorem eqT {bs:List Bool}{y:Value}(hy:y∈(bs.map Value.bool).toArray)(A:Around)(s:Shared):EqAt A s y (.bool true) (isBoolOf true y):=by
 simp only[List.mem_toArray,zmm] at hy
 obtain⟨b,_,rfl⟩:=hy
 exact EqAt.bool_bool b true
variable {X:Cx}
theorem znw:MtM X "list.count" zqw:=by
 intro pins s σ H x vs v us Q I rx rv h
 obtain⟨l,bs,rfl,rfl,hH,q⟩:=h
 cases rx
 obtain⟨u,rfl,ru⟩:=rv.one
 cases ru
 obtain⟨z,its,n,r,hl,e⟩:=I.lstM hH
 have ei:=ziS r
 subst ei
 refine call_meets F.slot_list_count ⟨_,e,rfl⟩ F.entry_list_count (F.args_list_count_2 _ _) (list_countAt l (bs.map Value.bool).toArray n none #[] (.bool true) (isBoolOf true)) ⟨e,λy hy=>eqT hy _ _,?_⟩
 have h1:(bs.map Value.bool).toArray.toList.countP (isBoolOf true)=bs.countP id:=by
  rw[List.countP_map]
  congr 1
  funext b
  cases b <;> rfl
 rw[h1]
 exact⟨.int _,H,I.tok _,⟨_,rfl⟩,q⟩
theorem znx:MtM X "list.index" zqx:=by
 intro pins s σ H x vs v us Q I rx rv h
 obtain⟨l,bs,j,rfl,rfl,hH,hj,hm,hk,q⟩:=h
 cases rx
 obtain⟨u,rfl,ru⟩:=rv.one
 cases ru
 obtain⟨z,its,n,r,hl,e⟩:=I.lstM hH
 have ei:=ziS r
 subst ei
 obtain⟨jl,je⟩:=zge.mp hj
 refine call_meets F.slot_list_index ⟨_,e,rfl⟩ F.entry_list_index (F.args_list_index_2 _ _) (list_indexAt l (bs.map Value.bool).toArray n none #[] (.bool true) (isBoolOf true) j (by simpa using jl) (by omega) ?_ ?_) ⟨e,λy hy=>eqT hy _ _,⟨.int _,H,I.tok _,⟨_,rfl⟩,q⟩⟩
 ·simp only[List.getElem_toArray,List.getElem_map,je];rfl
 ·intro m hm1 hm2
  have hml:m<bs.length:=by simpa using hm1
  have:=hm m hm2
  rw[List.getElem?_eq_getElem hml] at this
  cases this':bs[m] with
  | true=>rw[this'] at this;cases this
  | false=>simp only[List.getElem_toArray,List.getElem_map,this'];rfl
theorem zoM{c:String}(e:Err K C anc)(hc:kitMeta c=true):kitOne K (.ref C) (.type c)=some (anc.contains (.type c)):=by
 obtain⟨cC,c1,c2,c3⟩:=e.cls
 unfold kitOne
 rw[if_neg (by simp)]
 unfold kitCls
 simp only[hc,if_true]
 unfold subIn mroIn
 simp only[c1,c2]
 simp
 rw[c2]
 simp
theorem zny: zb3 X (.builtin "isinstance") (λxs H Q=>∃ a C anc c,xs=[.ref a,.ty c]/\kitMeta c=true/\Pin X a (.ref C)/\Err X.K C anc/\ErrIs2 X.K C/\Q (.bl (anc.contains (.type c))) H):=by
 intro pins s σ H xs us Q I r h
 obtain⟨a,C,anc,c,rfl,hm,⟨o,hp,hc,hd,hn⟩,eC,iC,q⟩:=h
 obtain⟨u,v,rfl,ru,rv⟩:=zoc r
 cases ru;cases rv
 exact kia_one (zjR eC iC hc hd hn) I.kIn (I.pin (a,o) (List.mem_append_left _ hp)).1 (zoM eC hm) (λz=>nomatch z) λtk=>⟨.bl _,H,I.tok tk,rfl,q⟩
def rIsx2 (K:Fg)(a:Addr)(c:Value):List V->Hp->VK->Prop:=λxs H Q=>∃ C D anc ancD,xs=[.ref a,.ref D]/\c=.ref C/\Err K C anc/\ErrIs2 K C/\Err K D ancD/\Q (.bl ((Value.ref C::anc).contains (.ref D))) H
def rIsxT (K:Fg)(a:Addr)(c:Value):List V->Hp->VK->Prop:=λxs H Q=>∃ C anc n,xs=[.ref a,.ty n]/\kitMeta n=true/\c=.ref C/\Err K C anc/\ErrIs2 K C/\Q (.bl (anc.contains (.type n))) H
section
variable {E:XK}
theorem zjS (hd:o0.dict=none)(hn:∀ v,o0.data≠.cls v):zb3 (cxH CX P w K mg base N qual scope f cd A outer s H E x0 o0) (.builtin "isinstance") (rIsx2 K x0 o0.cls):=λpins s σ H xs us Q I r h=>by
 obtain⟨C,D,anc,ancD,rfl,hc,eC,iC,eD,q⟩:=h
 exact znv pins s σ H _ us Q I r ⟨x0,C,D,anc,ancD,rfl,⟨o0,.head _,hc,hd,hn⟩,eC,iC,eD,q⟩
theorem zsh (hd:o0.dict=none)(hn:∀ v,o0.data≠.cls v):zb3 (cxH CX P w K mg base N qual scope f cd A outer s H E x0 o0) (.builtin "isinstance") (rIsxT K x0 o0.cls):=λpins s σ H xs us Q I r h=>by
 obtain⟨C,anc,n,rfl,hm,hc,eC,iC,q⟩:=h
 exact zny pins s σ H _ us Q I r ⟨x0,C,anc,n,rfl,hm,⟨o0,.head _,hc,hd,hn⟩,eC,iC,q⟩
end
theorem zhi:bootBuiltins "ValueError"=some (.type "ValueError"):=by decide +kernel
structure FnH (P:Program)(w:World)(K:Fg)(mg:Str->Option Value)(base:Heap)(x:Str)(ps:List Str)(k:Nat)(sp:Value->Addr->Sp):Prop where
 ex:∃ f fd,FnOkH P w K mg base CX0 k f fd ps sp/\zd6 K fd ps []/\PySem.W.keepIn K (.ref f)=true/\mg x=some (.ref f)
variable {st:Stmt}
theorem FnH.of{k:Nat}(F:Fun K x x st f fd)(S:FSc N ps (zae st))(m:mg x=some (.ref f))(hb:∀ (kV doc pm:Value) (an:Option Addr) (cdv ct:Value) (us:List Value),us.length=ps.length->bindArgs (PySem.W.fnOf x x (zdf st) (zb4 st) (zae st) .none kV doc pm an cdv ct) ⟨us,[]⟩=pure (ps.zip us))(len:∀ c x vs H Q E,sp c x vs H Q E->vs.length=ps.length)(hbody:∀ (cdv:Value) (A:Around) (outer:List Env) (s:Shared) (H:Hp) (vs:List V) (Q:VK) (E:XK) (x0:Addr) (o0:Obj),RoomH k (A.deeper (envOfC x (zae st) s.heap.objs.size f cdv))->o0.dict=none->(∀ v,o0.data≠.cls v)->sp o0.cls x0 vs H Q E->
   ∃ t,PSs (cxH CX0 P w K mg base N x (zae st) f cdv A outer s H E x0 o0) (zb4 st) t/\t {nx:=λ_ H'=>Q .non H',rt:=Q} (start N vs) H):FnH P w K mg base x ps (k+1) sp:=by
 refine⟨f,fd,?_,F.binds hb,F.kp,m⟩
 obtain⟨oc,od,kV,doc,pm,an,cdv,ct,osl,rfl,lk,hcd⟩:=F.ex
 exact zsg lk hcd S len λA outer s H vs Q E x0 o0 hr hd hn hsp=>hbody cdv A outer s H vs Q E x0 o0 hr hd hn hsp
variable {j:Nat}
section
variable {k:Nat}{t:TA}
theorem RoomH.le{k:Nat}(r:RoomH k A)(h:j<=k):RoomH j A:=⟨by have:=r.dp;omega,by have:=r.un;omega,r.gd⟩
theorem FnOkH.mono(F:FnOkH P w K mg base CX j f fd ps sp)(h:j<=k):FnOkH P w K mg base CX k f fd ps sp:=
 ⟨F.len,λA outer s H args us vs Q E x0 o0 hr=>F.run A outer s H args us vs Q E x0 o0 (hr.le h)⟩
theorem zpF (G:FnH X.prog X.w X.K X.mg X.base x ps j sp)(hr:Room k X.A)(hg:Gl X x)(hd:o.dict=none)(hn:∀ v,o.data≠.cls v)(ha:PA (XH X a o) (e::es) t)(hj:j<=k:=by decide)(hdb:(x == ("__debug__" : Str))=false:=by decide)
  (he:starEach (e::es) X.env=(false,eval e X.env)::starEach es X.env:=by rfl) (hpl:(backTo pos (starEach es X.env)).any (·.1)=false:=by rfl):PE (XH X a o) (.Call (.Name x p) (e::es) [] pos) (ziG (sp o.cls a) [] E0 t):=by
 obtain⟨f,fd,F,hb,hk,hm⟩:=G.ex
 exact zoL (F.mono hj) hr hg hm hk hb za5 hd hn ha hdb he hpl
end
structure QEx (X:Cx)(e:Expr)(t:XK->TE):Prop where
 run:PEx X e t
structure QSx (X:Cx)(st:Stmt)(t:XK->TS):Prop where
 run:PSx X st t
structure QSxs (X:Cx)(st:List Stmt)(t:XK->TS):Prop where
 run:PSxs X st t
section
variable {k:Nat}{sp:Sp}{m:Str}{o:Expr}{ta:TE}{t:TA}{apos:Pos}{te:XK->TE}{tt uu:XK->TS}
theorem zsi {pl:Sem Bool}(G:Mth (CX1 X.prog X.w) X.prog X.w X.K X.mg X.base C m ps j sp)(c:Cls X.K C)(hr:Room k X.A)(ho:QE X.nox o ta)(ha:QA X.nox (e::es) t)(hj:j<=k:=by decide)
  (hst:starEach (e::es) X.env=(false,eval e X.env)::starEach es X.env:=by rfl) (hpl:(backTo pos (starEach es X.env)).any (·.1)=false:=by rfl)
  (ht:eval (.Call (.Attribute o m apos) (e::es) [] pos) X.env=(do
   let ov <-eval o X.env
   standAt apos.atName
   let (f,first) <-holding [ov] (getMethod ov m pl)
   callWith pos f first (backTo pos (starEach (e::es) X.env)) (backToKw pos (keywordEach [] X.env))):=by rfl):QEx X (.Call (.Attribute o m apos) (e::es) [] pos) (λE=>zjp C m sp [] E ta t):=⟨znq G c hr ho.run ha.run hj hst hpl ht⟩
theorem zoN (he:QEx X e te)(hs:swapsWith e none pos.line X.env=pure false:=by rfl):QSx X (.Expr e pos) (λE=>zmD (te E)):=⟨zlv he.run hs⟩
theorem zoO (h1:QSx X st tt):QSxs X [st] tt:=⟨zlw h1.run⟩
theorem zsj{h0:ExceptHandler}{hs:List ExceptHandler}{tx:XK->TS}{th:Value->Addr->TS}(hex:X.ex=[])(hst:X.stack=X.env::X.outer)(hf:X.env.frame=some X.env.locals)(hb:QSxs X body tx)(hh:PH X (h0::hs) th):QS X (.Try body (h0::hs) [] [] pos) (tTry tx th):=⟨zpz hex hst hf hb.run hh⟩
end
end L2

namespace My
def cell (ns:List Int)(k:Int):Int:=ns.getD k.toNat 0
def dot:List Int->List Int->Int
 | f::fs,n::ns=>f * n+dot fs ns
 | _,_=>0
def zdz (l ns:List Int):Int:=l.headD 0+dot l.tail ns
theorem zfm:∀ (fs ns:List Int) (i:Nat) (f n:Int),fs[i]?=some f->ns[i]?=some n->dot (fs.take (i+1)) (ns.take (i+1))=dot (fs.take i) (ns.take i)+f * n
 | [],_,i,f,n,h,_=>by simp at h
 | _::_,[],i,f,n,_,h=>by simp at h
 | a::fs,b::ns,0,f,n,h1,h2=>by
  simp at h1 h2
  subst h1;subst h2
  simp[dot]
 | a::fs,b::ns,i+1,f,n,h1,h2=>by
  have ih:=zfm fs ns i f n (by simpa using h1) (by simpa using h2)
  simp only[List.take_succ_cons,dot]
  rw[ih,Int.add_assoc]
def zaC (i:Int):List Int:=0::(List.range 8).map λ(k:Nat)=>if (0+(k:Int))=i then 1 else 0
def addW (w:Int)(t l:List Int):List Int:=List.zipWith (λs n=>s+n * w) t l
def zhj (ps:List (List Int × Int))(t:List Int):List Int:=ps.foldl (λt p=>addW p.2 t p.1) t
def zbV (ls:List (List Int))(ws:List Int):List Int:=zhj (ls.zip ws) (List.replicate 9 0)
def ziT (c:Int):List Int->List Int
 | []=>[]
 | x::r=>(x+c)::r
def zaY (line:List Int)(eight:List (List Int)):List Int:=ziT (line.headD 0) (zbV eight line.tail)
variable {w:Int}{l:List Int}
theorem zhk{t:List Int}(h1:t.length=9)(h2:l.length=9):(addW w t l).length=9:=by
 unfold addW;rw[List.length_zipWith,h1,h2];rfl
theorem zeu:∀ (ps:List (List Int × Int)) (t:List Int),t.length=9->(∀ p∈ps,p.1.length=9)->(zhj ps t).length=9
 | [],t,h,_=>h
 | p::ps,t,h,hp=>zeu ps _ (zhk h (hp p List.mem_cons_self)) λq hq=>hp q (List.mem_cons_of_mem _ hq)
variable {ws:List Int}
theorem znz{ls:List (List Int)}(h:∀ l∈ls,l.length=9):∀ p∈ls.zip ws,p.1.length=9:=λp hp=>h p.1 (List.of_mem_zip hp).1
theorem za7{ls:List (List Int)}(h:∀ l∈ls,l.length=9):(zbV ls ws).length=9:=zeu _ _ (by simp) (znz h)
theorem zmb (ps:List (List Int × Int))(p:List Int × Int)(t:List Int):zhj (ps++[p]) t=addW p.2 (zhj ps t) p.1:=by
 unfold zhj;rw[List.foldl_append];rfl
variable {i:Nat}
theorem zqy{ls:List (List Int)}(h1:ls[i]?=some l)(h2:ws[i]?=some w):(ls.zip ws)[i]?.toList=[(l,w)]:=by
 rw[(List.getElem?_zip_eq_some (z:=(l,w))).mpr ⟨h1,h2⟩];rfl
theorem ze6 (h:Int)(t ns:List Int):zdz (h::t) ns=h+dot t ns:=rfl
open PySem L2
def zaF (ls:List (List Int)):D:=.lst (ls.map nums)
def zlA:List Int:=[0,1,2,3,4,5,0,1]
def zdA:List (List Int):=zlA.map zaC
def dueL (leaves:List (List Int))(notes:List (List (List Int)))(place:Int):List (List Int):=if place=(notes.length:Int) then leaves.map λl=>zaY l zdA else notes.getD place.toNat []
theorem znA {i:Int} : ∀ n∈zaC i,n=0\/n=1:=λn h=>by
 rcases List.mem_cons.mp h with h | h
 ·exact .inl h
 ·obtain⟨k,_,rfl⟩:=zmm.mp h
  split
  ·exact .inr rfl
  ·exact .inl rfl
theorem zmd:∀ l∈zdA,l.length=9:=λl h=>by
 obtain⟨i,_,rfl⟩:=zmm.mp h
 simp[zaC]
theorem zmf:∀ l∈zdA,∀ n∈l,n=0\/n=1:=λl h n hn=>by
 obtain⟨i,_,rfl⟩:=zmm.mp h
 exact znA n hn
inductive Dd where
 | set (hand:Int) (line:List Int) | part (hand:Int) (line:List Int) (by':Int) | draw (hand low high:Int)
 | turn (line:List Int) (place:Int) | hold (line:List Int) | call (number g0 g1 t0 t1:Int)
def toD:Dd->D
 | .set h l=>.tup [.str "set",.int h,nums l]
 | .part h l b=>.tup [.str "part",.int h,nums l,.int b]
 | .draw h lo hi=>.tup [.str "draw",.int h,.int lo,.int hi]
 | .turn l p=>.tup [.str "turn",nums l,.int p]
 | .hold l=>.tup [.str "hold",nums l]
 | .call n g0 g1 t0 t1=>.tup [.str "call",.int n,.tup [.int g0,.int g1],.tup [.int t0,.int t1]]
def zhR:Dd->Prop
 | .set _ l=>l.length=9
 | .part _ l _=>l.length=9
 | .turn l _=>l.length=9
 | .hold l=>l.length=9
 | _=>True
def btw (a b c:Int):Bool:=decide (a<=b) && decide (b<=c)
def zeN (n:Int):Bool:=btw (-1000000000) n 1000000000
def zev (spots:List Nat)(l:List Int):Bool:=(l.map zeN).all id && (spots.map λs=>decide (l.getD s 0=0)).all id
def zdm (spots:List Nat)(ls:List (List Int)):Bool:=decide ((ls.length:Int)<=2) && (ls.map (zev spots)).all id
def zb8 (h:Int):Bool:=btw 0 h 3
def zbK (n:Int):Dd->Bool
 | .set h l=>zb8 h && zev [7,8] l
 | .part h l b=>zb8 h && (zev [7,8] l && btw 1 b 1000)
 | .draw h lo hi=>zb8 h && (zeN lo && (zeN hi && decide (lo<=hi)))
 | .turn l p=>zev [7,8] l && btw 0 p n
 | .hold l=>zev [7,8] l
 | .call m g0 g1 t0 t1=>([zb8 g0,zb8 g1].all id && [zb8 t0,zb8 t1].all id) && (btw 0 m 99 && !decide (t0=t1))
def zhl (needs leaves:List (List Int)):Bool:=zdm [1,2,3,4,7,8] needs && zdm [1,2,3,4] leaves
def ze7 (deeds:List Dd):Bool:=btw 1 (deeds.length:Int) 8 && (deeds.map (zbK (deeds.length:Int))).all id
def ze8 (deeds:List Dd)(notes:List (List (List Int))):Bool:=decide ((notes.length:Int)=(deeds.length:Int)) && (notes.map (zdm [7,8])).all id
def zd2 (needs leaves:List (List Int))(deeds:List Dd)(notes:List (List (List Int))):Bool:=zhl needs leaves && (ze7 deeds && ze8 deeds notes)
def negs (ws:List Int):List Int:=ws.map λw=>-w
def zkM (goal:List Int)(hyps:List (List Int))(whole:Int)(ws:List Int):List Int:=zbV (goal::hyps) (whole::negs ws)
def zoP (goal:List Int)(hyps:List (List Int))(whole:Int)(ws:List Int):Bool:=decide (-whole<(zkM goal hyps whole ws).headD 0) && decide ((zkM goal hyps whole ws).tail=List.replicate 8 0)
def rowB (hyps:List (List Int))(whole:Int)(ws:List Int):Bool:=decide (1<=whole) && (decide (ws.length=hyps.length) && ws.all λw=>decide (0<=w))
def zew (goal:List Int)(hyps:List (List Int))(whole:Int)(ws:List Int):Bool:=rowB hyps whole ws && zoP goal hyps whole ws
def zd8:Nat->List (List Int)
 | 0=>[[]]
 | n+1=>(zd8 n).map (λr=>r++[0])++(zd8 n).map λr=>r++[1]
theorem zdB:∀ (n:Nat) (r:List Int),r∈zd8 n->r.length=n/\∀ w∈r,w=0\/w=1
 | 0,r,h=>by
  unfold zd8 at h
  rw[zms] at h
  subst h
  exact⟨rfl,λw hw=>by cases hw⟩
 | n+1,r,h=>by
  unfold zd8 at h
  rcases zma.mp h with h | h
  ·obtain⟨q,hq,rfl⟩:=zmm.mp h
   obtain⟨a,b⟩:=zdB n q hq
   refine⟨by simp[a],λw hw=>?_⟩
   rcases zma.mp hw with hw | hw
   ·exact b w hw
   ·exact .inl (zms.mp hw)
  ·obtain⟨q,hq,rfl⟩:=zmm.mp h
   obtain⟨a,b⟩:=zdB n q hq
   refine⟨by simp[a],λw hw=>?_⟩
   rcases zma.mp hw with hw | hw
   ·exact b w hw
   ·exact .inr (zms.mp hw)
theorem zgj:∀ n:Nat,(zd8 n).length=2 ^ n
 | 0=>rfl
 | n+1=>by
  unfold zd8
  rw[List.length_append,zlm,zlm,zgj n,Nat.pow_succ];omega
def zin (goal:List Int)(hyps:List (List Int))(whole:Int)(ws:List Int):Option (Int × List Int):=if zew goal hyps whole ws=true then some (whole,ws) else none
def zgK (goal:List Int)(hyps:List (List Int))(whole:Int):Option (Int × List Int):=(zd8 hyps.length).findSome? (zin goal hyps whole)
def zbx (goal:List Int)(hyps:List (List Int)):Option (Int × List Int):=[1,2,3,4].findSome? (zgK goal hyps)
variable {α β:Type}
theorem ziU: ∀ {l:List α}{f:α->Option β}{i:Nat}{x:α}{y:β},(l.take i).findSome? f=none->l[i]?=some x->f x=some y->l.findSome? f=some y
 | [],f,i,x,y,_,e,_=>by simp at e
 | a::l,f,0,x,y,_,e,h=>by
  simp at e;subst e
  rw[List.findSome?_cons,h]
 | a::l,f,i+1,x,y,n,e,h=>by
  rw[List.take_succ_cons,List.findSome?_cons] at n
  cases hf:f a with
  | some z=>rw[hf] at n;cases n
  | none=>
   rw[hf] at n
   rw[List.findSome?_cons,hf]
   exact ziU n (by simpa using e) h
theorem zhm: ∀ {l:List α}{f:α->Option β}{i:Nat}{x:α},(l.take i).findSome? f=none->l[i]?=some x->f x=none->(l.take (i+1)).findSome? f=none
 | [],f,i,x,_,e,_=>by simp at e
 | a::l,f,0,x,_,e,h=>by
  simp at e;subst e
  simp[h]
 | a::l,f,i+1,x,n,e,h=>by
  rw[List.take_succ_cons,List.findSome?_cons] at n
  cases hf:f a with
  | some z=>rw[hf] at n;cases n
  | none=>
   rw[hf] at n
   rw[List.take_succ_cons,List.findSome?_cons,hf]
   exact zhm n (by simpa using e) h
variable {n:Nat}
theorem zlB{l:List α}{f:α->Option β}(h:(l.take n).findSome? f=none)(hn:l.length<=n):l.findSome? f=none:=by
 rwa [List.take_of_length_le hn] at h
theorem zmh{goal:List Int}{hyps:List (List Int)}(h:zbx goal hyps=some (w,ws)):(1<=w/\w<=4)/\ws∈zd8 hyps.length/\zew goal hyps w ws=true:=by
 unfold zbx at h
 obtain⟨v,hv,h⟩:=List.exists_of_findSome?_eq_some h
 unfold zgK at h
 obtain⟨r,hr,h⟩:=List.exists_of_findSome?_eq_some h
 unfold zin at h
 split at h
 ·rename_i hs
  cases h
  refine⟨?_,hr,hs⟩
  simp at hv
  rcases hv with rfl | rfl | rfl | rfl <;> omega
 ·cases h
variable {needs leaves:List (List Int)}{notes:List (List (List Int))}{deeds:List Dd}
section
end
def kL (n:Int):List Int:=n::List.replicate 8 0
def zhn (line:List Int):List Int:=zbV [line,kL 1] [-1,-1]
def ze9 (lo:Int):List Int:=zbV [zaC 6,kL lo] [1,-1]
def zho (hi:Int):List Int:=zbV [kL hi,zaC 6] [1,-1]
def zdW (line:List Int)(b:Int):List Int:=zbV [line,zaC 6] [1,-b]
def greatest (line:List Int)(b:Int):List Int:=zbV [zaC 6,kL (b - 1),line] [b,1,-1]
theorem zbu (n:Int):(kL n).length=9:=by simp[kL]
theorem zar (i:Int):(zaC i).length=9:=by simp[zaC]
structure Good (needs leaves:List (List Int))(n:Nat)(notes:List (List (List Int))):Prop where
 dn:n=notes.length
 d:n<=100
 n:needs.length<=100
 l:leaves.length<=100
 n9:∀ l∈needs,l.length=9
 l9:∀ l∈leaves,l.length=9
 o:∀ ls∈notes,ls.length<=100/\∀ l∈ls,l.length=9
theorem Good.due(g:Good needs leaves n notes)(place:Int):(dueL leaves notes place).length<=100/\∀ l∈dueL leaves notes place,l.length=9:=by
 unfold dueL
 split
 ·refine⟨by rw[zlm];exact g.l,λl hl=>?_⟩
  obtain⟨m,hm,rfl⟩:=zmm.mp hl
  have h9:∀ l∈zdA,l.length=9:=λl hl=>by
   unfold zdA at hl
   obtain⟨i,_,rfl⟩:=zmm.mp hl
   exact zar i
  have hs:=za7 (ws:=m.tail) h9
  unfold zaY
  cases e:zbV zdA m.tail with
  | nil=>rw[e] at hs;simp at hs
  | cons x r=>rw[e] at hs;simpa [ziT] using hs
 ·rw[List.getD_eq_getElem?_getD]
  cases e:notes[place.toNat]? with
  | none=>simp
  | some ls=>exact g.o ls (zmg e)
theorem zoQ {i:Int}(h:0<=i):((List.range 9).map λ(k:Nat)=>if decide (0+(k:Int)=i+1)=true then (1:Int) else 0)=zaC i:=by
 unfold zaC
 rw[List.range_succ_eq_map,zmc,List.map_map]
 congr 1
 ·rw[decide_eq_false (by omega)];rfl
 ·refine List.map_congr_left λk _=>?_
  show (if decide (0+((k+1:Nat):Int)=i+1)=true then (1:Int) else 0)=if 0+(k:Int)=i then 1 else 0
  by_cases z:0+(k:Int)=i
  ·rw[if_pos z,decide_eq_true (by omega)];rfl
  ·rw[if_neg z,decide_eq_false (by omega)];rfl
open PyProof.Rows
def ziV (H:Hp):List D->List V->Prop
 | [],[]=>True
 | d::ds,x::xs=>Part H d x/\ziV H ds xs
 | _,_=>False
variable {H:Hp}
theorem zjT: ∀ {ds:List D}{xs:List V},ziV H ds xs->ds.length=xs.length
 | [],[],_=>rfl
 | _::_,_::_,h=>by rw[List.length_cons,List.length_cons,zjT h.2]
 | [],_::_,h=>h.elim
 | _::_,[],h=>h.elim
theorem zlC: ∀ {ds:List D}{xs:List V},ziV H ds xs->∀ (i:Nat) dd x,ds[i]?=some dd->xs[i]?=some x->Part H dd x
 | [],_,_,i,_,_,e,_=>by simp at e
 | _::_,[],h,_,_,_,_,_=>h.elim
 | d::ds,x::xs,h,0,_,_,e1,e2=>by simp at e1 e2;subst e1;subst e2;exact h.1
 | d::ds,x::xs,h,i+1,dd,y,e1,e2=>zlC h.2 i dd y (by simpa using e1) (by simpa using e2)
theorem zjU: ∀ {ds:List D}{xs:List V},ds.length=xs.length->(∀ (i:Nat) dd x,ds[i]?=some dd->xs[i]?=some x->Part H dd x)->ziV H ds xs
 | [],[],_,_=>trivial
 | [],_::_,e,_=>by simp at e
 | _::_,[],e,_=>by simp at e
 | d::ds,x::xs,e,h=>⟨h 0 d x rfl rfl,zjU (by simpa using e) λi dd y e1 e2=>h (i+1) dd y (by simpa using e1) (by simpa using e2)⟩
variable {xs:List V}{ds:List D}
theorem zkN{t:Addr}(h:H t=some (.tup xs))(l:ds.length<=8)(p:ziV H ds xs):zch H (.tup ds) (.ref t):=⟨t,xs,ds,rfl,rfl,h,zjT p,l,zlC p⟩
variable {v:V}
theorem zbk(h:zch H (.tup ds) v):∃ t xs,v=.ref t/\H t=some (.tup xs)/\ziV H ds xs:=by
 obtain⟨t,xs,ds',e,rfl,h1,h2,_,h3⟩:=h
 cases e
 exact⟨t,xs,rfl,h1,zjU h2 h3⟩
theorem zal{d:D}(h:ziV H (d::ds) xs):∃ x r,xs=x::r/\Part H d x/\ziV H ds r:=by
 cases xs with
 | nil=>exact h.elim
 | cons x r=>exact⟨x,r,rfl,h.1,h.2⟩
theorem zbL(h:ziV H [] xs):xs=[]:=by
 cases xs with
 | nil=>rfl
 | cons x r=>exact h.elim
variable {x:V}
theorem zbO{s:Str}(h:Part H (.str s) x):x=.str s:=by
 rcases h with ⟨i,e,_⟩ | ⟨z,e,rfl⟩ | ⟨b,l,e,_⟩ | ⟨b,i,j,e,_⟩ <;> cases e
 rfl
theorem zbq{s:Int}(h:Part H (.int s) x):x=.int s:=by
 rcases h with ⟨i,e,rfl⟩ | ⟨z,e,_⟩ | ⟨b,l,e,_⟩ | ⟨b,i,j,e,_⟩ <;> cases e
 rfl
theorem zlD:∀ {l m:List Int},l.map D.int=m.map D.int->l=m
 | [],[],_=>rfl
 | [],_::_,e=>by simp at e
 | _::_,[],e=>by simp at e
 | a::l,b::m,e=>by
  rw[zmc,zmc] at e
  injection e with e1 e2
  injection e1 with e1
  rw[e1,zlD e2]
theorem zcs(h:Part H (nums l) x):∃ b,x=.ref b/\H b=some (.lst (l.map V.int)):=by
 rcases h with ⟨i,e,_⟩ | ⟨z,e,_⟩ | ⟨b,m,e,h1,h2⟩ | ⟨b,i,j,e,_⟩
 ·cases e
 ·cases e
 ·injection e with e
  rw[zlD e]
  exact⟨b,h1,h2⟩
 ·cases e
variable {j:Int}
theorem zfn{i:Int}(h:Part H (.tup [.int i,.int j]) x):∃ b,x=.ref b/\H b=some (.tup [.int i,.int j]):=by
 rcases h with ⟨i',e,_⟩ | ⟨z,e,_⟩ | ⟨b,m,e,h1,h2⟩ | ⟨b,i',j',e,h1,h2⟩
 ·cases e
 ·cases e
 ·cases e
 ·cases e
  exact⟨b,h1,h2⟩
def R2 {α:Type}(P:α->V->Prop)(as:List α)(xs:List V):Prop:=as.length=xs.length/\∀ (i:Nat) a x,as[i]?=some a->xs[i]?=some x->P a x
theorem R2.mono{P P':α->V->Prop}{as:List α}(h:R2 P as xs)(m:∀ a x,P a x->P' a x):R2 P' as xs:=⟨h.1,λi a x e1 e2=>m a x (h.2 i a x e1 e2)⟩
theorem R2.get{P:α->V->Prop}{as:List α}(h:R2 P as xs)(hi:i<as.length):∃ x,xs[i]?=some x/\P (as[i]) x:=by
 have hj:i<xs.length:=by rw[<-h.1];exact hi
 exact⟨xs[i],by simp,h.2 i _ _ (by simp) (by simp)⟩
def zfa (H:Hp):List Dd->List V->Prop:=R2 λd x=>zch H (toD d) x
variable {H':Hp}
theorem zfa.same{ds:List Dd}(e:Same H H')(h:zfa H ds xs):zfa H' ds xs:=R2.mono h λ_ _ z=>z.sq e.sq
def zcV:Dd->Str
 | .set _ _=>"set"
 | .part _ _ _=>"part"
 | .draw _ _ _=>"draw"
 | .turn _ _=>"turn"
 | .hold _=>"hold"
 | .call _ _ _ _ _=>"call"
variable {d:Dd}
theorem znB(h:zch H (toD d) x):∃ t xs,x=.ref t/\H t=some (.tup (.str (zcV d)::xs)):=by
 cases d <;> (obtain⟨t,xs,rfl,h1,px⟩:=zbk h;obtain⟨x0,r,rfl,e0,px⟩:=zal px;cases zbO e0;exact⟨t,r,rfl,h1⟩)
theorem zlE(h:zhR d):Deed (toD d):=by
 cases d with
 | set hd l=>exact⟨_,rfl,by simp,λc hc=>by
   simp at hc
   rcases hc with rfl | rfl | rfl
   ·exact .inr (.inl ⟨_,rfl⟩)
   ·exact .inl ⟨_,rfl⟩
   ·exact .inr (.inr (.inl ⟨l,h,rfl⟩))⟩
 | part hd l b=>exact⟨_,rfl,by simp,λc hc=>by
   simp at hc
   rcases hc with rfl | rfl | rfl | rfl
   ·exact .inr (.inl ⟨_,rfl⟩)
   ·exact .inl ⟨_,rfl⟩
   ·exact .inr (.inr (.inl ⟨l,h,rfl⟩))
   ·exact .inl ⟨_,rfl⟩⟩
 | draw hd lo hi=>exact⟨_,rfl,by simp,λc hc=>by
   simp at hc
   rcases hc with rfl | rfl | rfl | rfl
   ·exact .inr (.inl ⟨_,rfl⟩)
   ·exact .inl ⟨_,rfl⟩
   ·exact .inl ⟨_,rfl⟩
   ·exact .inl ⟨_,rfl⟩⟩
 | turn l p=>exact⟨_,rfl,by simp,λc hc=>by
   simp at hc
   rcases hc with rfl | rfl | rfl
   ·exact .inr (.inl ⟨_,rfl⟩)
   ·exact .inr (.inr (.inl ⟨l,h,rfl⟩))
   ·exact .inl ⟨_,rfl⟩⟩
 | hold l=>exact⟨_,rfl,by simp,λc hc=>by
   simp at hc
   rcases hc with rfl | rfl
   ·exact .inr (.inl ⟨_,rfl⟩)
   ·exact .inr (.inr (.inl ⟨l,h,rfl⟩))⟩
 | call m g0 g1 t0 t1=>exact⟨_,rfl,by simp,λc hc=>by
   simp at hc
   rcases hc with rfl | rfl | rfl | rfl
   ·exact .inr (.inl ⟨_,rfl⟩)
   ·exact .inl ⟨_,rfl⟩
   ·exact .inr (.inr (.inr ⟨_,_,rfl⟩))
   ·exact .inr (.inr (.inr ⟨_,_,rfl⟩))⟩
theorem zeros9e:List.replicate 9 (0:Int)=[0,0,0,0,0,0,0,0,0]:=rfl
theorem kLe (n:Int):kL n=[n,0,0,0,0,0,0,0,0]:=rfl
abbrev Du:=List Int × List (List Int)
def duD (g:Du):D:=.tup [nums g.1,zaF g.2]
def zio (H:Hp)(g:Du)(v:V):Prop:=∃ T ga na,v=.ref T/\H T=some (.tup [.ref ga,.ref na])/\H ga=some (.lst (g.1.map V.int))/\Ls H na g.2
variable {g:Du}
theorem zio.same(e:Same H H')(h:zio H g v):zio H' g v:=by
 obtain⟨T,ga,na,rfl,h1,h2,h3⟩:=h
 exact⟨T,ga,na,rfl,e _ _ h1,e _ _ h2,h3.same e⟩
theorem RepF.duty{f:List Addr}(h:RepF H (duD g) v f):∃ (T ga na:Addr) (as:List Addr),v=.ref T/\H T=some (.tup [.ref ga,.ref na])/\H ga=some (.lst (g.1.map V.int))/\H na=some (.lst (as.map V.ref))/\as.length=g.2.length/\(∀ (i:Nat) a l,as[i]?=some a->g.2[i]?=some l->H a=some (.lst (l.map V.int)))/\ga∈f/\na∈f/\∀ b∈as,b∈f:=by
 unfold duD RepF at h
 obtain⟨T,xs,rfl,hT,hx⟩:=h
 unfold zaj at hx
 obtain⟨x1,r1,f1,g1,rfl,rfl,h1,hx⟩:=hx
 unfold zaj at hx
 obtain⟨x2,r2,f2,g2,rfl,rfl,h2,hx⟩:=hx
 unfold zaj at hx
 obtain⟨rfl,rfl⟩:=hx
 unfold RepF at h1
 obtain⟨ga,ys,r3,rfl,rfl,hga,hy⟩:=h1
 obtain⟨rfl,rfl⟩:=zaj.ints_eq hy
 unfold zaF RepF at h2
 obtain⟨na,zs,as,rfl,rfl,hna,hz⟩:=h2
 obtain⟨rfl,e2,e3⟩:=zaj.lines hz
 refine⟨T,ga,na,as,rfl,hT,hga,hna,e2,λi a l q1 q2=>?_,by simp,by simp,λb hb=>by simp[hb]⟩
 obtain⟨l',z1,z2⟩:=e3 i a q1
 rw[q2] at z1;cases z1
 exact z2
theorem RepF.dutyAt{f:List Addr}(h:RepF H (duD g) v f):zio H g v:=by
 obtain⟨T,ga,na,as,rfl,h1,h2,h3,h4,h5,_⟩:=RepF.duty h
 exact⟨T,ga,na,rfl,h1,h2,as,h3,h4,h5⟩
variable {fp:List Addr}
theorem zaj.duties{gs:List Du}(h:zaj H (gs.map duD) xs fp):R2 (zio H) gs xs:=⟨by have:=h.length;simpa using this,λi g x e1 e2=>by
 obtain⟨f,hf⟩:=zaj.item h i (duD g) x (by rw[zgm,e1];rfl) e2
 exact RepF.dutyAt hf⟩
theorem znC{k:Int}(h0:0<=k):cutV xs none (some k)=xs.take k.toNat:=by
 have e:k=(k.toNat:Int):=by omega
 rw[e]
 unfold cutV
 rw[HT.sIx_none,HT.sIx_nat,List.drop_zero,Nat.sub_zero,Int.toNat_natCast]
 by_cases z:k.toNat<=xs.length
 ·rw[Nat.min_eq_left z]
 ·rw[Nat.min_eq_right (by omega),List.take_of_length_le (Nat.le_refl _),List.take_of_length_le (by omega)]
def NoD (H H':Hp):Prop:=∀ b o,H b=some o->(∀ kvs,o≠HO.dK kvs)->H' b=some o
theorem _root_.L2.Same.nod(e:Same H H'):NoD H H':=λb o h _=>e b o h
variable {H1 H2:Hp}
theorem NoD.trans(a:NoD H H1)(b:NoD H1 H2):NoD H H2:=λc o h n=>b c o (a c o h n) n
variable {p:Addr}{o:HO}{kvs:List (Key × V)}
theorem zhp(h:H p=some (.dK kvs)):NoD H (upd H p o):=λb u e n=>by
 rw[zai (λz=>by rw[z,h] at e;exact n kvs (Option.some.inj e).symm)]
 exact e
theorem NoD.sq(e:NoD H H'):Sq H H':=λb o h q=>e b o h λkvs z=>by rw[z] at q;cases q
theorem znD {κ:Type}[DecidableEq κ](kvs:List (κ × V))(k:κ)(v:V):(putK kvs k v).map (·.1)=if k∈kvs.map (·.1) then kvs.map (·.1) else kvs.map (·.1)++[k]:=by
 cases h:valV kvs k with
 | some y=>
  rw[if_pos (zm8 h)]
  unfold putK
  rw[zc6,h]
  rw[if_pos (show (some y).isSome=true from rfl),List.map_map]
  refine List.map_congr_left λp _=>?_
  show (if p.1=k then (p.1,v) else p).1=p.1
  split <;> rfl
 | none=>rw[if_neg (zon h),zoj v h,List.map_append];rfl
variable {ks:List Int}
theorem zkO{m:Int}: (Sum.inl m:Key)∈ks.map (Sum.inl:Int->Key)↔m∈ks:=by
 constructor
 ·intro h
  obtain⟨x,hx,e⟩:=zmm.mp h
  injection e with e
  rw[<-e];exact hx
 ·intro h;exact List.mem_map_of_mem h
theorem zmi{m:Int}: (ks.map (Sum.inl:Int->Key)).filter (λk=>decide (k≠Sum.inl m))=(ks.filter λk=>decide (k≠m)).map Sum.inl:=by
 rw[List.filter_map]
 congr 1
 refine List.filter_congr λx _=>?_
 show decide ((Sum.inl x:Key)≠Sum.inl m)=decide (x≠m)
 refine decide_eq_decide.mpr ⟨λh z=>h (by rw[z]),λh z=>h (by injection z)⟩
theorem zmj{k:Key}: (zd7 kvs k).map (·.1)=(kvs.map (·.1)).filter (λj=>decide (j≠k)):=by
 unfold zd7
 rw[List.filter_map]
 rfl
def KVs (P:Int->V->Prop)(kvs:List (Key × V))(ks:List Int):Prop:=kvs.map (·.1)=ks.map Sum.inl/\ks.Nodup/\∀ m∈ks,∃ v,valV kvs (.inl m)=some v/\P m v
variable {P:Int->V->Prop}
theorem KVs.nil: KVs P [] []:=⟨rfl,List.nodup_nil,λm hm=>by simp at hm⟩
variable {P':Int->V->Prop}
theorem KVs.mono(h:KVs P kvs ks)(m:∀ k v,P k v->P' k v):KVs P' kvs ks:=⟨h.1,h.2.1,λk hk=>by
 obtain⟨v,h1,h2⟩:=h.2.2 k hk
 exact⟨v,h1,m k v h2⟩⟩
theorem KVs.len(h:KVs P kvs ks):kvs.length=ks.length:=by
 have:=congrArg List.length h.1
 simpa using this
theorem KVs.no{m:Int}(h:KVs P kvs ks)(n:m∉ks):valV kvs (.inl m)=none:=by
 cases e:valV kvs (.inl m) with
 | none=>rfl
 | some v=>
  have:=zm8 e
  rw[h.1] at this
  exact absurd (zkO.mp this) n
theorem KVs.put{m:Int}(h:KVs P kvs ks)(hv:P m v):KVs P (putK kvs (.inl m) v) (if m∈ks then ks else ks++[m]):=by
 refine⟨?_,?_,λk hk=>?_⟩
 ·rw[znD,h.1]
  by_cases z:m∈ks
  ·rw[if_pos (zkO.mpr z),if_pos z]
  ·rw[if_neg (λw=>z (zkO.mp w)),if_neg z,List.map_append];rfl
 ·by_cases z:m∈ks
  ·rw[if_pos z];exact h.2.1
  ·rw[if_neg z];exact zm9 h.2.1 z
 ·rw[zeF]
  by_cases e:k=m
  ·subst e;exact⟨v,by rw[if_pos rfl],hv⟩
  ·rw[if_neg (λw=>e (by injection w))]
   refine h.2.2 k ?_
   by_cases z:m∈ks
   ·rw[if_pos z] at hk;exact hk
   ·rw[if_neg z] at hk
    rcases zma.mp hk with w | w
    ·exact w
    ·exact absurd (zms.mp w) e
theorem KVs.put'{m:Int}(h:KVs P kvs ks)(hv:P' m v)(hP:∀ k v,k≠m->P k v->P' k v):KVs P' (putK kvs (.inl m) v) (if m∈ks then ks else ks++[m]):=by
 have h0:KVs (λk w=>k=m/\w=v\/P k w) (putK kvs (.inl m) v) (if m∈ks then ks else ks++[m]):=(h.mono λk w z=>.inr z).put (.inl ⟨rfl,rfl⟩)
 refine⟨h0.1,h0.2.1,λk hk=>?_⟩
 by_cases e:k=m
 ·subst e
  exact⟨v,by rw[zeF,if_pos rfl],hv⟩
 ·obtain⟨w,e1,e2⟩:=h0.2.2 k hk
  rcases e2 with ⟨e2,_⟩ | e2
  ·exact absurd e2 e
  ·exact⟨w,e1,hP k w e e2⟩
theorem KVs.drop{m:Int}(h:KVs P kvs ks):KVs P (zd7 kvs (.inl m)) (ks.filter λk=>decide (k≠m)):=by
 refine⟨by rw[zmj,h.1];exact zmi,h.2.1.filter _,λk hk=>?_⟩
 obtain⟨h1,h2⟩:=List.mem_filter.mp hk
 have h2:k≠m:=of_decide_eq_true h2
 rw[zjQ,if_neg (λw=>h2 (by injection w))]
 exact h.2.2 k h1
theorem zqz(h1:leaves.length<=2)(h2:∀ ls∈notes,ls.length<=2)(place:Int):(dueL leaves notes place).length<=2:=by
 unfold dueL
 split
 ·rw[zlm];exact h1
 ·rw[List.getD_eq_getElem?_getD]
  cases e:notes[place.toNat]? with
  | none=>simp
  | some ls=>exact h2 ls (zmg e)
def zaP (ch:Nat->Option (List Int)):List (List Int):=(List.range 8).map λ(i:Nat)=>(ch i).getD (zaC (0+(i:Int)))
def ch1 (k:Int)(l:List Int)(i:Nat):Option (List Int):=if k=0+(i:Int) then some l else none
def ch2 (k0:Int)(l0:List Int)(k1:Int)(l1:List Int)(i:Nat):Option (List Int):=if k1=0+(i:Int) then some l1 else if k0=0+(i:Int) then some l0 else none
def ch4 (i:Nat):Option (List Int):=if i=0 then some (zaC 4) else if i=1 then some (zaC 5) else if i=2 then some (kL 0) else if i=3 then some (kL 0) else none
def zd9 (goal:List Int)(hyps:List (List Int)):D:=.tup [nums goal,zaF hyps]
def zjV (needs leaves:List (List Int))(notes:List (List (List Int))):List D:=((dueL leaves notes 0).map λl=>zaY l (zaP ch4)).map λg=>zd9 g needs
abbrev Oath:=Int->List (List Int) × List (List Int)
def zfo (N A:List (List Int))(T:Int->List (List Int))(oath:Oath):Dd->List D
 | .set h l=>(A.map λx=>zaY x (zaP (ch1 h l))).map λg=>zd9 g N
 | .part h l b=>(A.map λx=>zaY x (zaP (ch1 h (zaC 6)))).map λg=>zd9 g (N++[zdW l b,greatest l b])
 | .draw h lo hi=>(A.map λx=>zaY x (zaP (ch1 h (zaC 6)))).map λg=>zd9 g (N++[ze9 lo,zho hi])
 | .turn l p=>((T p).map λg=>zd9 g (N++[l]))++A.map λg=>zd9 g (N++[zhn l])
 | .hold l=>[zd9 l N]++A.map λg=>zd9 g (N++[l])
 | .call m g0 g1 t0 t1=>(((oath m).1.map λx=>zaY x (zaP (ch2 4 (zaC g0) 5 (zaC g1)))).map λg=>zd9 g N)++(A.map λx=>zaY x (zaP (ch2 t0 (zaC 6) t1 (zaC 7)))).map λg=>zd9 g (N++(oath m).2.map λx=>zaY x (zaP (ch2 4 (zaC g0) 5 (zaC g1))))
def zbf (leaves:List (List Int))(notes:List (List (List Int)))(oath:Oath):List Dd->Nat->List D
 | [],_=>[]
 | d::ds,p=>zfo (dueL leaves notes p) (dueL leaves notes (p+1)) (dueL leaves notes) oath d++zbf leaves notes oath ds (p+1)
theorem zfb (leaves:List (List Int))(notes:List (List (List Int)))(oath:Oath):∀ (xs ys:List Dd) (p:Nat),zbf leaves notes oath (xs++ys) p=zbf leaves notes oath xs p++zbf leaves notes oath ys (p+xs.length)
 | [],ys,p=>rfl
 | x::xs,ys,p=>by
  show zfo _ _ _ _ x++zbf leaves notes oath (xs++ys) (p+1)=(zfo _ _ _ _ x++zbf leaves notes oath xs (p+1))++_
  rw[zfb leaves notes oath xs ys (p+1),List.append_assoc,List.length_cons,show p+1+xs.length=p+(xs.length+1) by omega]
def zhq (needs leaves:List (List Int))(deeds:List Dd)(notes:List (List (List Int)))(oath:Oath):List D:=zjV needs leaves notes++zbf leaves notes oath deeds 0
def zcW (N A:List (List Int))(T:Int->List (List Int))(oath:Oath):Dd->List Du
 | .set h l=>A.map λx=>(zaY x (zaP (ch1 h l)),N)
 | .part h l b=>A.map λx=>(zaY x (zaP (ch1 h (zaC 6))),N++[zdW l b,greatest l b])
 | .draw h lo hi=>A.map λx=>(zaY x (zaP (ch1 h (zaC 6))),N++[ze9 lo,zho hi])
 | .turn l p=>((T p).map λg=>(g,N++[l]))++A.map λg=>(g,N++[zhn l])
 | .hold l=>[(l,N)]++A.map λg=>(g,N++[l])
 | .call m g0 g1 t0 t1=>((oath m).1.map λx=>(zaY x (zaP (ch2 4 (zaC g0) 5 (zaC g1))),N))++A.map λx=>(zaY x (zaP (ch2 t0 (zaC 6) t1 (zaC 7))),N++(oath m).2.map λx=>zaY x (zaP (ch2 4 (zaC g0) 5 (zaC g1))))
theorem znE (N A:List (List Int))(T:Int->List (List Int))(oath:Oath)(d:Dd):(zcW N A T oath d).map duD=zfo N A T oath d:=by
 cases d <;> simp only[zcW,zfo,List.map_append,List.map_map,zmc,List.map_nil] <;> rfl
def zlF (needs leaves:List (List Int))(notes:List (List (List Int))):List Du:=(dueL leaves notes 0).map λl=>(zaY l (zaP ch4),needs)
def zfp (leaves:List (List Int))(notes:List (List (List Int)))(oath:Oath):List Dd->Nat->List Du
 | [],_=>[]
 | d::ds,p=>zcW (dueL leaves notes p) (dueL leaves notes (p+1)) (dueL leaves notes) oath d++zfp leaves notes oath ds (p+1)
theorem zjW (leaves:List (List Int))(notes:List (List (List Int)))(oath:Oath):∀ (ds:List Dd) (p:Nat),(zfp leaves notes oath ds p).map duD=zbf leaves notes oath ds p
 | [],p=>rfl
 | d::ds,p=>by
  show (zcW _ _ _ _ d++zfp leaves notes oath ds (p+1)).map duD=zfo _ _ _ _ d++zbf leaves notes oath ds (p+1)
  rw[List.map_append,znE,zjW leaves notes oath ds (p+1)]
def zhr (needs leaves:List (List Int))(deeds:List Dd)(notes:List (List (List Int)))(oath:Oath):List Du:=zlF needs leaves notes++zfp leaves notes oath deeds 0
theorem ziq (needs leaves:List (List Int))(deeds:List Dd)(notes:List (List (List Int)))(oath:Oath):(zhr needs leaves deeds notes oath).map duD=zhq needs leaves deeds notes oath:=by
 unfold zhr zhq
 rw[List.map_append,zjW]
 congr 1
 unfold zlF zjV
 rw[List.map_map,List.map_map]
 rfl
def Sm (l:List Int):Prop:=∀ n∈l,-(2 ^ 64)<n/\n<2 ^ 64
def zdn:Dd->Option Int
 | .call m _ _ _ _=>some m
 | _=>none
def zaV (deeds:List Dd):List Int:=deeds.filterMap zdn
def dOk (n:Nat):Dd->Prop
 | .set _ l=>l.length=9/\Sm l
 | .part _ l b=>l.length=9/\(-1000000<b/\b<1000000)
 | .turn l p=>l.length=9/\0<=p/\p<=(n:Int)
 | .hold l=>l.length=9
 | _=>True
theorem zmk{m:Int}(h:m∈zaV deeds):∃ d∈deeds,zdn d=some m:=by
 unfold zaV at h
 exact List.mem_filterMap.mp h
variable {g0 g1 t0 t1:Int}
theorem zoR{m:Int}(h:Dd.call m g0 g1 t0 t1∈deeds):m∈zaV deeds:=by
 unfold zaV
 exact List.mem_filterMap.mpr ⟨_,h,rfl⟩
def OffA (S:List Addr)(H H':Hp):Prop:=∀ b o,b∉S->H b=some o->H' b=some o
variable {S:List Addr}
theorem _root_.L2.Same.offA(e:Same H H'):OffA S H H':=λb o _ h=>e b o h
theorem OffA.trans(a:OffA S H H1)(b:OffA S H1 H2):OffA S H H2:=λc o n h=>b c o n (a c o n h)
theorem zbI(h:p∈S):OffA S H (upd H p o):=λb u n e=>by
 rw[zai (λz=>n (by rw[z];exact h))];exact e
theorem OffA.nod(e:OffA S H H')(h:∀ a∈S,∃ kvs,H a=some (.dK kvs)):NoD H H':=λb o hb n=>e b o (λz=>by
 obtain⟨kvs,hk⟩:=h b z
 rw[hk] at hb
 exact n kvs (Option.some.inj hb).symm) hb
structure Cr where
 needs:List (List Int)
 leaves:List (List Int)
 deeds:List Dd
 notes:List (List (List Int))
def hfl (la va:Addr):List (Str × V):=putF "vouched" (.ref va) (putF "laid" (.ref la) [])
theorem zdo (la va:Addr):(hfl la va).lookup ("laid" : Str)=some (.ref la):=by
 unfold hfl
 rw[zaO,if_neg (by decide +kernel),zaO,if_pos rfl]
theorem zdC (la va:Addr):(hfl la va).lookup ("vouched" : Str)=some (.ref va):=by
 unfold hfl
 rw[zaO,if_pos rfl]
variable {la va:Addr}
theorem zcj{m:Str}(h1:¬ m ="vouched":=by decide +kernel)(h2:¬ m ="laid":=by decide +kernel):(hfl la va).lookup m=none:=by
 unfold hfl
 rw[zaO,if_neg h1,zaO,if_neg h2]
 rfl
theorem zlG {n:Int} : ∀ {l:List Int},inV (.int n) (l.map V.int)=decide (n∈l)
 | []=>by simp[inV]
 | a::l=>by
  have ih:=zlG (n:=n) (l:=l)
  unfold inV at ih ⊢
  rw[zmc,List.any_cons,ih]
  by_cases z:n=a
  ·subst z;simp[eqV]
  ·have:eqV (.int a) (.int n)=false:=by
    simp[eqV]
    intro w;exact z w.symm
   rw[this]
   simp[z]
theorem zml (zs:List Int):(zs.map V.int).all zeJ=true:=by rw[List.all_map,List.all_eq_true];intro x _;rfl
theorem zeros8e:List.replicate 8 (0:Int)=[0,0,0,0,0,0,0,0]:=rfl
def found (g:Du):Prop:=(zbx g.1 g.2).isSome=true
theorem e9 {ch:Nat->Option (List Int)}(h:∀ i l,ch i=some l->l.length=9):∀ l∈zaP ch,l.length=9:=λl hl=>by
 obtain⟨i,_,rfl⟩:=zmm.mp hl
 cases e:ch i with
 | none=>exact zar _
 | some l=>exact h i l e
theorem e9_1{k:Int}(h:l.length=9):∀ x∈zaP (ch1 k l),x.length=9:=e9 λi m e=>by
 unfold ch1 at e
 split at e
 ·cases e;exact h
 ·cases e
theorem e9_2 {k0 k1:Int}{l0 l1:List Int}(h0:l0.length=9)(h1:l1.length=9):∀ x∈zaP (ch2 k0 l0 k1 l1),x.length=9:=e9 λi m e=>by
 unfold ch2 at e
 split at e
 ·cases e;exact h1
 split at e
 ·cases e;exact h0
 ·cases e
theorem e9_4:∀ x∈zaP ch4,x.length=9:=e9 λi m e=>by
 unfold ch4 at e
 split at e
 ·cases e;exact zar _
 split at e
 ·cases e;exact zar _
 split at e
 ·cases e;exact zbu _
 split at e
 ·cases e;exact zbu _
 ·cases e
theorem zkP{b:Int}(h:l.length=9):(zdW l b).length=9/\(greatest l b).length=9/\(zhn l).length=9:=by
 refine⟨?_,?_,?_⟩
 ·unfold zdW;exact za7 λz hz=>by
   simp at hz
   rcases hz with rfl | rfl
   ·exact h
   ·exact zar 6
 ·unfold greatest;exact za7 λz hz=>by
   simp at hz
   rcases hz with rfl | rfl | rfl
   ·exact zar 6
   ·exact zbu _
   ·exact h
 ·unfold zhn;exact za7 λz hz=>by
   simp at hz
   rcases hz with rfl | rfl
   ·exact h
   ·exact zbu _
theorem znF {lo hi:Int} : (ze9 lo).length=9/\(zho hi).length=9:=by
 refine⟨?_,?_⟩
 ·unfold ze9;exact za7 λz hz=>by
   simp at hz
   rcases hz with rfl | rfl
   ·exact zar 6
   ·exact zbu _
 ·unfold zho;exact za7 λz hz=>by
   simp at hz
   rcases hz with rfl | rfl
   ·exact zbu _
   ·exact zar 6
section
variable {t g u:Addr}
end
theorem zhs:∀ {l m:List Int},l.Nodup->(∀ x∈l,x∈m)->l.length<=m.length
 | [],m,_,_=>Nat.zero_le _
 | x::l,m,nd,h=>by
  obtain⟨n1,n2⟩:=List.nodup_cons.mp nd
  have hx:=h x List.mem_cons_self
  have ih:=zhs (l:=l) (m:=m.erase x) n2 λy hy=>(List.mem_erase_of_ne (λz=>n1 (by rw[<-z];exact hy))).mpr (h y (List.mem_cons_of_mem _ hy))
  rw[List.length_erase_of_mem hx] at ih
  have:0<m.length:=List.length_pos_of_mem hx
  rw[List.length_cons]
  omega
def flds (v1 v2 v3 v4:V):List (Str × V):=putF "notes" v4 (putF "deeds" v3 (putF "leaves" v2 (putF "needs" v1 [])))
theorem zcn (v1 v2 v3 v4:V):(flds v1 v2 v3 v4).lookup ("needs" : Str)=some v1:=by
 unfold flds
 rw[zaO,if_neg (by decide +kernel),zaO,if_neg (by decide +kernel),zaO,if_neg (by decide +kernel),zaO,if_pos rfl]
theorem zb9 (v1 v2 v3 v4:V):(flds v1 v2 v3 v4).lookup ("leaves" : Str)=some v2:=by
 unfold flds
 rw[zaO,if_neg (by decide +kernel),zaO,if_neg (by decide +kernel),zaO,if_pos rfl]
theorem zbP (v1 v2 v3 v4:V):(flds v1 v2 v3 v4).lookup ("deeds" : Str)=some v3:=by
 unfold flds
 rw[zaO,if_neg (by decide +kernel),zaO,if_pos rfl]
theorem zdc (v1 v2 v3 v4:V):(flds v1 v2 v3 v4).lookup ("notes" : Str)=some v4:=by
 unfold flds
 rw[zaO,if_pos rfl]
theorem za2{f:Str}{fs:List (Str × V)}(h:fs.length<n):(putF f v fs).length<n+1:=Nat.lt_of_le_of_lt (ze3 f v fs) (by omega)
def znG (needs leaves:List (List Int))(deeds:List D)(notes:List (List (List Int))):List D:=[zaF needs,zaF leaves,.lst deeds,.lst (notes.map zaF)]
def zby (K:Fg)(cC:Addr)(H:Hp)(p:Addr)(needs leaves:List (List Int))(deeds:List D)(notes:List (List (List Int))):Prop:=
 ∃ dx w1 w2 w3 w4,H p=some (.ins cC dx (flds w1 w2 w3 w4))/\Rep K H (zaF needs) w1/\Rep K H (zaF leaves) w2/\Rep K H (.lst deeds) w3/\Rep K H (.lst (notes.map zaF)) w4
variable {K:Fg}
theorem reps4{d1 d2 d3 d4:D}{w1 w2 w3 w4:V}(h:Reps K H [d1,d2,d3,d4] [w1,w2,w3,w4]):Rep K H d1 w1/\Rep K H d2 w2/\Rep K H d3 w3/\Rep K H d4 w4:=by
 unfold Reps at h
 obtain⟨_,_,e,h1,h⟩:=h
 cases e
 unfold Reps at h
 obtain⟨_,_,e,h2,h⟩:=h
 cases e
 unfold Reps at h
 obtain⟨_,_,e,h3,h⟩:=h
 cases e
 unfold Reps at h
 obtain⟨_,_,e,h4,h⟩:=h
 cases e
 exact⟨h1,h2,h3,h4⟩
variable {cC:Addr}
theorem zby.same{deeds:List D}(e:Same H H')(h:zby K cC H p needs leaves deeds notes):zby K cC H' p needs leaves deeds notes:=by
 obtain⟨dx,w1,w2,w3,w4,h0,h1,h2,h3,h4⟩:=h
 exact⟨dx,w1,w2,w3,w4,e _ _ h0,Rep.same e _ h1,Rep.same e _ h2,Rep.same e _ h3,Rep.same e _ h4⟩
def zd3 (K:Fg)(cC:Addr)(H:Hp)(p:Addr)(needs leaves:List (List Int))(deeds:List Dd)(notes:List (List (List Int))):Prop:=
 zby K cC H p needs leaves (deeds.map toD) notes/\∃ dx w1 w2 b3 w4 dvs,H p=some (.ins cC dx (flds w1 w2 (.ref b3) w4))/\H b3=some (.lst dvs)/\zfa H deeds dvs
theorem zd3.same(e:Same H H')(h:zd3 K cC H p needs leaves deeds notes):zd3 K cC H' p needs leaves deeds notes:=by
 obtain⟨h0,dx,w1,w2,b3,w4,dvs,h1,h2,h3⟩:=h
 exact⟨h0.same e,dx,w1,w2,b3,w4,dvs,e _ _ h1,e _ _ h2,h3.same e⟩
def znH (K:Fg)(cC:Addr)(H:Hp)(kvs:List (Key × V))(oath:Oath):Dd->Prop
 | .call m _ _ _ _=>∃ o deeds ns,valV kvs (.inl m)=some (.ref o)/\zby K cC H o (oath m).1 (oath m).2 deeds ns/\Good (oath m).1 (oath m).2 deeds.length ns
 | _=>True
variable {oath:Oath}
theorem znH.same(h:znH K cC H kvs oath d)(e:Same H H'):znH K cC H' kvs oath d:=by
 cases d with
 | call m g0 g1 t0 t1=>
  obtain⟨o,ds,ns,h1,h2,h3⟩:=h
  exact⟨o,ds,ns,h1,h2.same e,h3⟩
 | _=>trivial
theorem zby.nod{deeds:List D}(e:NoD H H')(h:zby K cC H p needs leaves deeds notes):zby K cC H' p needs leaves deeds notes:=by
 obtain⟨dx,w1,w2,w3,w4,h0,h1,h2,h3,h4⟩:=h
 exact⟨dx,w1,w2,w3,w4,e _ _ h0 (λ_ z=>by cases z),Rep.sq e.sq _ h1,Rep.sq e.sq _ h2,Rep.sq e.sq _ h3,Rep.sq e.sq _ h4⟩
def zoS (ls:List (List Int))(ws:List Int):Prop:=∀ (i:Nat) (l:List Int) (w:Int),ls[i]?=some l->ws[i]?=some w->∀ n∈l,CMul n w
theorem zcq(h:n<=1000):n<sizeLine:=Nat.lt_of_le_of_lt h (by decide)
structure Cr.Nine (c:Cr):Prop where
 n9:∀ l∈c.needs,l.length=9
 l9:∀ l∈c.leaves,l.length=9
 d9:∀ d∈c.deeds,zhR d
 o9:∀ ls∈c.notes,ls.length<=100/\∀ l∈ls,l.length=9
 n:c.needs.length<=100
 l:c.leaves.length<=100
 d:c.deeds.length<=100
 o:c.notes.length<=100
def Cr.right (c:Cr):Bool:=zd2 c.needs c.leaves c.deeds c.notes
structure Cr.Rt (c:Cr):Prop where
 nine:c.Nine
 r:c.right=true
variable {c:Cr}
theorem Cr.Rt.parts(h:c.Rt):c.needs.length<=2/\c.leaves.length<=2/\(1<=c.deeds.length/\c.deeds.length<=8)/\c.notes.length=c.deeds.length/\(∀ ls∈c.notes,ls.length<=2)/\∀ d∈c.deeds,zbK (c.deeds.length:Int) d=true:=by
 have r:zd2 c.needs c.leaves c.deeds c.notes=true:=h.r
 simp only[zd2,zhl,ze7,ze8,zdm,btw,Bool.and_eq_true,decide_eq_true_eq,List.all_map,List.all_eq_true,Function.comp_apply,id_eq] at r
 obtain⟨⟨⟨a1,_⟩,a2,_⟩,⟨⟨b1,b2⟩,b3⟩,c1,c2⟩:=r
 exact⟨by omega,by omega,⟨by omega,by omega⟩,by omega,λls hl=>by have:=(c2 ls hl).1;omega,b3⟩
theorem zjX{spots:List Nat}(h:zev spots l=true):Sm l:=λn hn=>by
 simp only[zev,zeN,btw,Bool.and_eq_true,decide_eq_true_eq,List.all_map,List.all_eq_true,Function.comp_apply,id_eq] at h
 have:=h.1 n hn
 constructor <;> omega
theorem zsk(h9:zhR d)(h:zbK (n:Int) d=true):dOk n d:=by
 cases d with
 | set hd l=>
  simp only[zbK,Bool.and_eq_true] at h
  exact⟨h9,zjX h.2⟩
 | part hd l b=>
  simp only[zbK,btw,Bool.and_eq_true,decide_eq_true_eq] at h
  exact⟨h9,by omega,by omega⟩
 | draw hd lo hi=>trivial
 | turn l p=>
  simp only[zbK,btw,Bool.and_eq_true,decide_eq_true_eq] at h
  exact⟨h9,h.2.1,h.2.2⟩
 | hold l=>exact h9
 | call m g0 g1 t0 t1=>trivial
theorem Cr.Rt.dok(h:c.Rt):∀ d∈c.deeds,dOk c.deeds.length d:=λd hd=>zsk (h.nine.d9 d hd) (h.parts.2.2.2.2.2 d hd)
theorem Cr.Rt.called(h:c.Rt){m:Int}(hm:m∈zaV c.deeds):0<=m/\m<=99:=by
 obtain⟨d,hd,e⟩:=zmk hm
 have k:=h.parts.2.2.2.2.2 d hd
 cases d with
 | call n g0 g1 t0 t1=>
  have e:n=m:=by injection e
  subst e
  simp only[zbK,btw,Bool.and_eq_true,decide_eq_true_eq] at k
  exact k.2.1
 | _=>cases e
theorem Cr.Rt.calledMost(h:c.Rt):∀ m∈zaV c.deeds,m.natAbs<zbm:=λm hm=>by
 have:=h.called hm
 unfold zbm;omega
theorem Cr.Rt.good(h:c.Rt):Good c.needs c.leaves c.deeds.length c.notes where
 dn:=h.parts.2.2.2.1.symm
 d:=h.nine.d
 n:=h.nine.n
 l:=h.nine.l
 n9:=h.nine.n9
 l9:=h.nine.l9
 o:=h.nine.o9
def znI (cr:Int->Cr):Oath:=λm=>((cr m).needs,(cr m).leaves)
def Cr.gs (c:Cr)(cr:Int->Cr):List Du:=zhr c.needs c.leaves c.deeds c.notes (znI cr)
def zht (g:Du):Prop:=g.1.length=9/\g.2.length<=4/\∀ l∈g.2,l.length=9
theorem zfc{E:List (List Int)}(h:∀ x∈E,x.length=9):(zaY l E).length=9:=by
 unfold zaY
 have:=za7 (ls:=E) (ws:=l.tail) h
 cases e:zbV E l.tail with
 | nil=>rw[e] at this;simp at this
 | cons x r=>rw[e] at this;simpa [ziT] using this
theorem zkQ{N A:List (List Int)}{T:Int->List (List Int)}(hN:N.length<=2/\∀ l∈N,l.length=9)(hA:A.length<=2/\∀ l∈A,l.length=9)(hT:∀ p,(T p).length<=2/\∀ l∈T p,l.length=9)(ok:dOk n d)(ho:∀ m,zdn d=some m->(oath m).1.length<=2/\(oath m).2.length<=2):
  (zcW N A T oath d).length<=4/\∀ g∈zcW N A T oath d,zht g:=by
 have two:∀ {x y:List Int}{g:List Int},g.length=9->x.length=9->y.length=9->zht (g,N++[x,y]):=λ{x y g} hg hx hy=>⟨hg,by simp;omega,λl hl=>by
  simp only[zma,List.mem_cons,List.not_mem_nil,or_false] at hl
  rcases hl with z | z | z
  ·exact hN.2 l z
  ·rw[z];exact hx
  ·rw[z];exact hy⟩
 have one:∀ {x:List Int}{g:List Int},g.length=9->x.length=9->zht (g,N++[x]):=λ{x g} hg hx=>⟨hg,by simp;omega,λl hl=>by
  simp only[zma,List.mem_cons,List.not_mem_nil,or_false] at hl
  rcases hl with z | z
  ·exact hN.2 l z
  ·rw[z];exact hx⟩
 have nil:∀ {g:List Int},g.length=9->zht (g,N):=λhg=>⟨hg,by show N.length<=4;omega,hN.2⟩
 have b6:=zar 6
 have b7:=zar 7
 cases d with
 | set h l=>
  refine⟨by simp only[zcW,zlm];omega,λg hg=>?_⟩
  obtain⟨x,hx,rfl⟩:=zmm.mp hg
  exact nil (zfc (e9_1 ok.1))
 | part h l b=>
  refine⟨by simp only[zcW,zlm];omega,λg hg=>?_⟩
  obtain⟨x,hx,rfl⟩:=zmm.mp hg
  exact two (zfc (e9_1 b6)) (zkP ok.1).1 (zkP ok.1).2.1
 | draw h lo hi=>
  refine⟨by simp only[zcW,zlm];omega,λg hg=>?_⟩
  obtain⟨x,hx,rfl⟩:=zmm.mp hg
  exact two (zfc (e9_1 b6)) (znF (hi:=hi)).1 (znF (lo:=lo)).2
 | turn l p=>
  refine⟨by have:=(hT p).1;simp only[zcW,List.length_append,zlm];omega,λg hg=>?_⟩
  rcases zma.mp hg with hg | hg
  ·obtain⟨x,hx,rfl⟩:=zmm.mp hg
   exact one ((hT p).2 x hx) ok.1
  ·obtain⟨x,hx,rfl⟩:=zmm.mp hg
   exact one (hA.2 x hx) (zkP (b:=0) ok.1).2.2
 | hold l=>
  refine⟨by simp only[zcW,List.length_append,zlm,List.length_cons,List.length_nil];omega,λg hg=>?_⟩
  rcases zma.mp hg with hg | hg
  ·rw[zms.mp hg];exact nil ok
  ·obtain⟨x,hx,rfl⟩:=zmm.mp hg
   exact one (hA.2 x hx) ok
 | call m g0 g1 t0 t1=>
  have o2:=ho m rfl
  refine⟨by simp only[zcW,List.length_append,zlm];omega,λg hg=>?_⟩
  rcases zma.mp hg with hg | hg
  ·obtain⟨x,hx,rfl⟩:=zmm.mp hg
   exact nil (zfc (e9_2 (zar g0) (zar g1)))
  ·obtain⟨x,hx,rfl⟩:=zmm.mp hg
   refine⟨zfc (e9_2 b6 b7),?_,λl hl=>?_⟩
   ·simp only[List.length_append,zlm];omega
   ·rcases zma.mp hl with z | z
    ·exact hN.2 l z
    ·obtain⟨y,_,rfl⟩:=zmm.mp z
     exact zfc (e9_2 (zar g0) (zar g1))
theorem zhu(hD:∀ p,(dueL leaves notes p).length<=2/\∀ l∈dueL leaves notes p,l.length=9):∀ (ds:List Dd) (p:Nat),(∀ d∈ds,dOk n d)->(∀ d∈ds,∀ m,zdn d=some m->(oath m).1.length<=2/\(oath m).2.length<=2)->(zfp leaves notes oath ds p).length<=4 * ds.length/\∀ g∈zfp leaves notes oath ds p,zht g
 | [],_,_,_=>⟨Nat.le_refl _,λg hg=>by cases hg⟩
 | d::ds,p,h,ho=>by
  have ih:=zhu hD ds (p+1) (λe he=>h e (List.mem_cons_of_mem _ he)) λe he=>ho e (List.mem_cons_of_mem _ he)
  have h1:=zkQ (d:=d) (hD p) (hD ((p:Int)+1)) hD (h d List.mem_cons_self) (ho d List.mem_cons_self)
  refine⟨?_,λg hg=>?_⟩
  ·show (zcW _ _ _ _ d++zfp leaves notes oath ds (p+1)).length<=_
   rw[List.length_append,List.length_cons]
   omega
  ·rcases zma.mp (show g∈zcW _ _ _ _ d++zfp leaves notes oath ds (p+1) from hg) with z | z
   ·exact h1.2 g z
   ·exact ih.2 g z
variable {cr:Int->Cr}
theorem Cr.Rt.gs(h:c.Rt)(ho:∀ m∈zaV c.deeds,(cr m).Rt):(c.gs cr).length<=34/\∀ g∈c.gs cr,zht g:=by
 have hD:∀ p,(dueL c.leaves c.notes p).length<=2/\∀ l∈dueL c.leaves c.notes p,l.length=9:=λp=>⟨zqz h.parts.2.1 h.parts.2.2.2.2.1 p,(h.good.due p).2⟩
 have k:=zhu (oath:=znI cr) hD c.deeds 0 h.dok λd hd m e=>by
  have:=ho m (List.mem_filterMap.mpr ⟨d,hd,e⟩)
  exact⟨this.parts.1,this.parts.2.1⟩
 have d8:=h.parts.2.2.1.2
 have h0:=(hD 0).1
 unfold Cr.gs zhr zlF
 refine⟨by rw[List.length_append,zlm];omega,λg hg=>?_⟩
 rcases zma.mp hg with z | z
 ·obtain⟨x,_,rfl⟩:=zmm.mp z
  exact⟨zfc e9_4,by show c.needs.length<=4;have:=h.parts.1;omega,h.nine.n9⟩
 ·exact k.2 g z
def zbv (cC:Addr)(H:Hp)(p:Addr)(c:Cr)(fp:List Addr):Prop:=∃ dx w1 w2 w3 w4 f,fp=p::f/\H p=some (.ins cC dx (flds w1 w2 w3 w4))/\zaj H (znG c.needs c.leaves (c.deeds.map toD) c.notes) [w1,w2,w3,w4] f
theorem zbv.at(h:zbv cC H p c fp):zby K cC H p c.needs c.leaves (c.deeds.map toD) c.notes:=by
 obtain⟨dx,w1,w2,w3,w4,f,rfl,hp,r⟩:=h
 obtain⟨h1,h2,h3,h4⟩:=reps4 (zaj.reps (K:=K) _ r)
 exact⟨dx,w1,w2,w3,w4,hp,h1,h2,h3,h4⟩
theorem zbv.t(h9:∀ d∈c.deeds,zhR d)(h:zbv cC H p c fp):zd3 K cC H p c.needs c.leaves c.deeds c.notes:=by
 refine⟨h.at,?_⟩
 obtain⟨dx,w1,w2,w3,w4,f,rfl,hp,r⟩:=h
 obtain⟨x1,x2,x3,x4,f1,f2,f3,f4,e,g1,g2,g3,g4⟩:=zpu r
 cases e
 obtain⟨b3,dvs',r3,rfl,h3',z3⟩:=RepF.lso g3
 refine⟨dx,w1,w2,b3,w4,dvs',hp,h3',by simpa using z3.length,λi d x q1 q2=>?_⟩
 obtain⟨f,hf⟩:=zaj.item z3 i (toD d) x (by rw[zgm,q1];rfl) q2
 exact znn (zlE (h9 d (zmg q1))) hf
theorem zbv.has(h:zbv cC H p c fp):∀ b∈fp,∃ o,H b=some o:=λb hb=>by
 obtain⟨dx,w1,w2,w3,w4,f,rfl,hp,r⟩:=h
 rcases List.mem_cons.mp hb with rfl | hb
 ·exact⟨_,hp⟩
 ·exact zaj.has _ r b hb
theorem zbv.hasN(h:zbv cC H p c fp):∀ b∈fp,∃ o,H b=some o/\∀ kvs,o≠HO.dK kvs:=λb hb=>by
 obtain⟨dx,w1,w2,w3,w4,f,rfl,hp,r⟩:=h
 rcases List.mem_cons.mp hb with rfl | hb
 ·exact⟨_,hp,λ_ z=>by cases z⟩
 ·obtain⟨xs,e⟩:=zaj.hasL _ r b hb
  exact⟨_,e,λ_ z=>by cases z⟩
theorem zbv.frame(tk:Tups H H')(k:∀ b∈fp,∀ o,H b=some o->H' b=some o)(h:zbv cC H p c fp):zbv cC H' p c fp:=by
 obtain⟨dx,w1,w2,w3,w4,f,rfl,hp,r⟩:=h
 refine⟨dx,w1,w2,w3,w4,f,rfl,k p List.mem_cons_self _ hp,zaj.frame tk _ (λb hb=>?_) r⟩
 obtain⟨o,ho⟩:=zaj.has _ r b hb
 rw[ho]
 exact k b (List.mem_cons_of_mem _ hb) o ho
theorem zbv.same(e:Same H H')(h:zbv cC H p c fp):zbv cC H' p c fp:=h.frame e.tups λb _ o ho=>e b o ho
theorem zbv.nod(e:NoD H H')(h:zbv cC H p c fp):zbv cC H' p c fp:=by
 obtain⟨dx,w1,w2,w3,w4,f,rfl,hp,r⟩:=h
 exact⟨dx,w1,w2,w3,w4,f,rfl,e _ _ hp (λ_ z=>by cases z),zaj.sq e.sq _ r⟩
def CrIn (cC:Addr)(H:Hp)(cr:Int->Cr)(fp:List Addr)(m:Int)(v:V):Prop:=∃ p f,v=.ref p/\zbv cC H p (cr m) f/\∀ b∈f,b∈fp
structure HAt (cH cC:Addr)(H:Hp)(h la va:Addr)(ks:List Int)(cr:Int->Cr)(vs:List Int)(fp:List Addr):Prop where
 ins:∃ dx,H h=some (.ins cH dx (hfl la va))
 laid:∃ kvs,H la=some (.dK kvs)/\KVs (CrIn cC H cr fp) kvs ks
 vou:∃ kvs,H va=some (.dK kvs)/\KVs (λ_ v=>v=.bl true) kvs vs
 ne:la≠va
 rt:∀ m∈ks,(cr m).Rt
 few:ks.length<=60
 sub:∀ m∈vs,m∈ks
 has:∀ b∈fp,∃ o,H b=some o/\∀ kvs,o≠HO.dK kvs
variable {cH:Addr}
section
variable {h:Addr}{vs:List Int}
theorem HAt.frame (A:HAt cH cC H h la va ks cr vs fp)(tk:Tups H H')(k:∀ b,b∈h::la::va::fp->∀ o,H b=some o->H' b=some o):HAt cH cC H' h la va ks cr vs fp where
 ins:=by obtain⟨dx,e⟩:=A.ins;exact⟨dx,k _ (by simp) _ e⟩
 laid:=by
  obtain⟨kvs,e,q⟩:=A.laid
  exact⟨kvs,k _ (by simp) _ e,q.mono λm v ⟨p,f,e1,e2,e3⟩=>⟨p,f,e1,e2.frame tk λb hb o ho=>k b (by simp[e3 b hb]) o ho,e3⟩⟩
 vou:=by obtain⟨kvs,e,q⟩:=A.vou;exact⟨kvs,k _ (by simp) _ e,q⟩
 ne:=A.ne
 rt:=A.rt
 few:=A.few
 sub:=A.sub
 has:=λb hb=>by obtain⟨o,e,n⟩:=A.has b hb;exact⟨o,k b (by simp[hb]) o e,n⟩
theorem HAt.same (A:HAt cH cC H h la va ks cr vs fp)(e:Same H H'):HAt cH cC H' h la va ks cr vs fp:=A.frame e.tups λb _ o ho=>e b o ho
theorem HAt.putV{vs':List Int}(A:HAt cH cC H h la va ks cr vs fp)(q:KVs (λ_ v=>v=.bl true) kvs vs')(s:∀ m∈vs',m∈ks):HAt cH cC (upd H va (.dK kvs)) h la va ks cr vs' fp where
 ins:=by
  obtain⟨dx,z⟩:=A.ins
  obtain⟨kv0,hv,_⟩:=A.vou
  exact⟨dx,by rw[zai (zn4 z hv (by intro w;cases w))];exact z⟩
 laid:=by
  obtain⟨kv0,hv,_⟩:=A.vou
  obtain⟨kl,z,q⟩:=A.laid
  exact⟨kl,by rw[zai A.ne];exact z,q.mono λm v ⟨p,f,e1,e2,e3⟩=>⟨p,f,e1,e2.nod (zhp hv),e3⟩⟩
 vou:=⟨kvs,zac,q⟩
 ne:=A.ne
 rt:=A.rt
 few:=A.few
 sub:=s
 has:=λb hb=>by
  obtain⟨kv0,hv,_⟩:=A.vou
  obtain⟨o,z,n⟩:=A.has b hb
  exact⟨o,zhp hv b o z n,n⟩
theorem HAt.nd (A:HAt cH cC H h la va ks cr vs fp):ks.Nodup:=by obtain⟨_,_,q⟩:=A.laid;exact q.2.1
theorem HAt.vfew (A:HAt cH cC H h la va ks cr vs fp):vs.length<=60:=by
 obtain⟨_,_,q⟩:=A.vou
 have:=zhs q.2.1 A.sub
 have:=A.few
 omega
end
theorem OffA.putDict(e:OffA S H H'){T:List Addr}(h:∀ b∈S,b∈T):OffA T H H':=λb o n z=>e b o (λw=>n (h b w)) z
variable {dx:Addr}
theorem HAt.start{h:Addr}(h1:H h=some (.ins cH dx (hfl la va)))(h2:H la=some (.dK []))(h3:H va=some (.dK []))(ne:la≠va):HAt cH cC H h la va [] cr [] [] where
 ins:=⟨dx,h1⟩
 laid:=⟨[],h2,KVs.nil⟩
 vou:=⟨[],h3,KVs.nil⟩
 ne:=ne
 rt:=λm hm=>by cases hm
 few:=Nat.zero_le _
 sub:=λm hm=>by cases hm
 has:=λm hm=>by cases hm
variable {ha:Addr}
theorem znJ{u x:HO}(ha0:H ha=none)(dx0:H dx=none)(o1:OffA [ha] (upd (upd H dx u) ha x) H1):Same H H1:=λb o e=>o1 b o (by simp[zao e ha0]) (by rw[zai (zao e ha0),zai (zao e dx0)];exact e)
def zbw (ks:List Int)(cr:Int->Cr)(n:Int):List Int:=if n∈ks then zaV (cr n).deeds else []
def setC (cr:Int->Cr)(n:Int)(c:Cr):Int->Cr:=λm=>if m=n then c else cr m
theorem zhv:∀ {a b:List (List Int)},zb0 (a.map nums) (b.map nums)=decide (a=b)
 | [],[]=>by unfold List.map zb0;rfl
 | [],_::_=>by rw[zmc];unfold List.map zb0;simp
 | _::_,[]=>by rw[zmc];unfold List.map zb0;simp
 | m::ms,n::ns=>by
  rw[zmc,zmc]
  unfold zb0 nums pyEq
  rw[zhv,zfR,Bool.eq_iff_iff]
  simp
theorem zir {a b:List (List Int)} : pyEq (zaF a) (zaF b)=decide (a=b):=by
 unfold zaF pyEq
 exact zhv
def rowD:Option (Int × List Int)->D
 | none=>.non
 | some (w,ws)=>.tup [.int w,nums ws]
variable {a:Addr}{Q:VK}
theorem i_inI{n:Int}(h:SqL K H a (l.map V.int))(q:Q (.bl (decide (n∈l))) H):rIn K false (.int n) (.ref a) H Q:=i_in (.inl h) rfl (zml _) (by rw[zlG];exact q)
theorem zkR{m:Int}(nd:l.Nodup)(e:l[i]?=some m):m∉l.take i:=by
 obtain⟨hi,rfl⟩:=zge.mp e
 intro z
 rw[<-List.take_append_drop i l,List.drop_eq_getElem_cons hi] at nd
 exact (List.nodup_append.mp nd).2.2 _ z _ List.mem_cons_self rfl
def zgL (gs:List Du):Prop:=∀ g∈gs,found g
structure Fm where
 n:Int
 p:Int
 hands:List Int
 asked:List Int
def zcH (f:Fm):List Int:=f.hands++f.asked++f.hands.take 2
def zaM (ls:List (List Int))(ns:List Int):Option Nat:=ls.findIdx? λl=>decide (zdz l ns<0)
abbrev End:=Option (List V)
def brk (w:Str)(f:Fm)(i:Nat):List V:=[.str "broken",.str w,.int f.n,.int f.p,.int (i:Int)]
def zfq (c:Cr)(p:Int):Option Dd:=c.deeds[p.toNat]?
def zkS:Option Dd->Int × Int
 | some (.call _ _ _ t0 t1)=>(t0,t1)
 | _=>(0,1)
def zjY (cr:Int->Cr)(g:Fm)(l0 l1:Int):Fm:={g with hands:=(g.hands.set (zkS (zfq (cr g.n) g.p)).1.toNat l0).set (zkS (zfq (cr g.n) g.p)).2.toNat l1,p:=g.p+1}
def zmn (f:Fm):List V:=[.str "done",.int (f.hands.getD 0 0),.int (f.hands.getD 1 0)]
def zdX (cr:Int->Cr)(f:Fm):End:=(zaM ((cr f.n).notes.getD f.p.toNat []) (zcH f)).map (brk "notes" f)
def come (cr:Int->Cr):Fm->List Fm->List Fm × End
 | f,[]=>if f.p=((cr f.n).deeds.length:Int) then (match zaM (cr f.n).leaves (zcH f) with
   | some i=>([f],some (brk "leaves" f i))
   | none=>([],some (zmn f))) else ([f],zdX cr f)
 | f,g::st=>if f.p=((cr f.n).deeds.length:Int) then (match zaM (cr f.n).leaves (zcH f) with
   | some i=>(f::g::st,some (brk "leaves" f i))
   | none=>come cr (zjY cr g (f.hands.getD 0 0) (f.hands.getD 1 0)) st) else (f::g::st,zdX cr f)
structure Rs where
 st:List Fm
 ins:List Int
 k:Int
 en:End
def zdD (cr:Int->Cr)(s:Rs)(f:Fm)(st:List Fm):Rs:={s with st:=(come cr f st).1,en:=(come cr f st).2}
def putR (cr:Int->Cr)(s:Rs)(f:Fm)(st:List Fm)(h x:Int):Rs:=zdD cr s {f with hands:=f.hands.set h.toNat x,p:=f.p+1} st
def zeO (a0 a1:Int):List Int:=[0,0,0,0,a0,a1,0,0]
def zdE (n a0 a1:Int):Fm:=⟨n,0,[a0,a1,0,0],[a0,a1]⟩
def zfW (cr:Int->Cr)(ks:List Int)(s:Rs)(f:Fm)(st:List Fm):Dd->Rs
 | .set h l=>putR cr s f st h (zdz l (zcH f))
 | .part h l b=>putR cr s f st h (zdz l (zcH f) / b)
 | .draw h lo hi=>match s.ins with
  | []=>{s with en:=some [.str "dry"]}
  | x::r=>if lo<=x/\x<=hi then putR cr {s with ins:=r} f st h x else {s with ins:=r,en:=some [.str "stray"]}
 | .turn l q=>zdD cr s {f with p:=if 0<=zdz l (zcH f) then q else f.p+1} st
 | .hold l=>match zaM [l] (zcH f) with
  | some i=>{s with en:=some (brk "hold" f i)}
  | none=>zdD cr s {f with p:=f.p+1} st
 | .call m g0 g1 _ _=>if m∉ks then {s with en:=some [.str "lost"]} else if 20<=(f::st).length then {s with en:=some [.str "deep"]} else
   match zaM (cr m).needs (zeO (f.hands.getD g0.toNat 0) (f.hands.getD g1.toNat 0)) with
   | some i=>{s with en:=some (brk "needs" f i)}
   | none=>zdD cr s (zdE m (f.hands.getD g0.toNat 0) (f.hands.getD g1.toNat 0)) (f::st)
def zhS (cr:Int->Cr)(ks:List Int)(s:Rs):Rs:=match s.st with
 | []=>s
 | f::st=>match zfq (cr f.n) f.p with
  | none=>s
  | some d=>zfW cr ks {s with k:=s.k+1} f st d
def goR (cr:Int->Cr)(ks:List Int):Nat->Rs->Rs
 | 0,s=>s
 | n+1,s=>if s.en=none then goR cr ks n (zhS cr ks s) else s
structure WfF (ks:List Int)(cr:Int->Cr)(f:Fm):Prop where
 m:f.n∈ks
 p0:0<=f.p
 pn:f.p<=((cr f.n).deeds.length:Int)
 h4:f.hands.length=4
 a2:f.asked.length=2
def zis (cr:Int->Cr)(f:Fm):Prop:=∃ m g0 g1 t0 t1,zfq (cr f.n) f.p=some (.call m g0 g1 t0 t1)
def Wf (ks:List Int)(cr:Int->Cr)(st:List Fm):Prop:=(∀ f∈st,WfF ks cr f)/\∀ f∈st.tail,zis cr f
variable {f:Fm}{st:List Fm}
theorem Wf.tail(h:Wf ks cr (f::st)):Wf ks cr st:=⟨λg hg=>h.1 g (List.mem_cons_of_mem _ hg),λg hg=>h.2 g (List.mem_of_mem_tail hg)⟩
theorem zis.lt(h:zis cr f):f.p.toNat<(cr f.n).deeds.length:=by
 obtain⟨m,g0,g1,t0,t1,e⟩:=h
 exact (zge.mp e).1
theorem zlH{g:Fm}{l0 l1:Int}(h:WfF ks cr g)(c:zis cr g):WfF ks cr (zjY cr g l0 l1) where
 m:=h.m
 p0:=by have:=h.p0;show 0<=g.p+1;omega
 pn:=by have:=c.lt;have:=h.p0;show g.p+1<=((cr g.n).deeds.length:Int);omega
 h4:=by unfold zjY;simp[h.h4]
 a2:=h.a2
theorem zkT: ∀ {f:Fm}{st:List Fm},Wf ks cr (f::st)->Wf ks cr (come cr f st).1/\((come cr f st).2=none->∃ g r,(come cr f st).1=g::r/\g.p<((cr g.n).deeds.length:Int))
 | f,[],h=>by
  unfold come
  split
  ·split
   ·exact⟨h,λz=>by cases z⟩
   ·exact⟨⟨λg hg=>(by cases hg),λg hg=>(by cases hg)⟩,λz=>(by cases z)⟩
  ·rename_i ne
   exact⟨h,λ_=>⟨f,[],rfl,by have:=(h.1 f List.mem_cons_self).pn;omega⟩⟩
 | f,g::st,h=>by
  unfold come
  split
  ·split
   ·exact⟨h,λz=>by cases z⟩
   ·refine zkT ⟨λk hk=>?_,λk hk=>h.tail.2 k hk⟩
    rcases List.mem_cons.mp hk with rfl | hk
    ·exact zlH (h.tail.1 g List.mem_cons_self) (h.2 g List.mem_cons_self)
    ·exact h.tail.1 k (List.mem_cons_of_mem _ hk)
  ·rename_i ne
   exact⟨h,λ_=>⟨f,g::st,rfl,by have:=(h.1 f List.mem_cons_self).pn;omega⟩⟩
structure WfR (ks:List Int)(cr:Int->Cr)(s:Rs):Prop where
 w:Wf ks cr s.st
 on:s.en=none->∃ f st,s.st=f::st/\f.p<((cr f.n).deeds.length:Int)
variable {s:Rs}
theorem zdY(h:Wf ks cr (f::st)):WfR ks cr (zdD cr s f st):=⟨(zkT h).1,(zkT h).2⟩
theorem Wf.top{g:Fm}(h:Wf ks cr (f::st))(w:WfF ks cr g):Wf ks cr (g::st):=⟨λk hk=>by
 rcases List.mem_cons.mp hk with rfl | hk
 ·exact w
 ·exact h.1 k (List.mem_cons_of_mem _ hk),h.2⟩
theorem zit{n:Int}{m:Int}(h:zbK n (.call m g0 g1 t0 t1)=true):(0<=g0/\g0<=3)/\(0<=g1/\g1<=3)/\(0<=t0/\t0<=3)/\(0<=t1/\t1<=3)/\0<=m/\m<=99:=by
 simp only[zbK,zb8,btw,List.all_cons,List.all_nil,id,Bool.and_true,Bool.and_eq_true,decide_eq_true_eq] at h
 omega
theorem zoT(hrt:∀ m∈ks,(cr m).Rt)(h:WfR ks cr s)(he:s.en=none):WfR ks cr (zhS cr ks s):=by
 obtain⟨f,st,e,hp⟩:=h.on he
 have hw:=h.w
 rw[e] at hw
 have wf:=hw.1 f List.mem_cons_self
 have hlt:f.p.toNat<(cr f.n).deeds.length:=by have:=wf.p0;omega
 have ok:=(hrt f.n wf.m).parts.2.2.2.2.2
 unfold zhS
 rw[e]
 dsimp only
 unfold zfq
 rw[List.getElem?_eq_getElem hlt]
 dsimp only
 have hok:=ok _ (List.getElem_mem hlt)
 have hd:zfq (cr f.n) f.p=some (cr f.n).deeds[f.p.toNat]:=List.getElem?_eq_getElem hlt
 generalize (cr f.n).deeds[f.p.toNat]=d at *
 have up:∀ x,WfF ks cr {f with hands:=x,p:=f.p+1}↔x.length=4:=λx=>⟨λz=>z.h4,λz=>⟨wf.m,by have:=wf.p0;show 0<=f.p+1;omega,by show f.p+1<=((cr f.n).deeds.length:Int);omega,z,wf.a2⟩⟩
 have same:∀ (x:List Int) (y:Int) (z:List V),WfR ks cr ({st:=f::st,ins:=x,k:=y,en:=some z} : Rs):=λx y z=>⟨hw,λw=>by cases w⟩
 cases d with
 | set hd l=>exact zdY (hw.top ((up _).mpr (by simp[wf.h4])))
 | part hd l b=>exact zdY (hw.top ((up _).mpr (by simp[wf.h4])))
 | draw hd lo hi=>
  unfold zfW
  dsimp only
  split
  ·exact same _ _ _
  ·split
   ·exact zdY (hw.top ((up _).mpr (by simp[wf.h4])))
   ·exact same _ _ _
 | turn l q=>
  simp only[zbK,btw,Bool.and_eq_true,decide_eq_true_eq] at hok
  refine zdY (hw.top ⟨wf.m,?_,?_,wf.h4,wf.a2⟩)
  ·dsimp only;have:=wf.p0;split <;> omega
  ·dsimp only;split <;> omega
 | hold l=>
  unfold zfW
  dsimp only
  split
  ·exact same _ _ _
  ·exact zdY (hw.top ((up f.hands).mpr wf.h4))
 | call m g0 g1 t0 t1=>
  unfold zfW
  dsimp only
  split
  ·exact same _ _ _
  ·rename_i mk
   split
   ·exact same _ _ _
   ·split
    ·exact same _ _ _
    ·refine zdY ⟨λk hk=>?_,λk hk=>?_⟩
     ·rcases List.mem_cons.mp hk with rfl | hk
      ·exact⟨Classical.byContradiction λz=>mk z,by show (0:Int)<=0;omega,by show (0:Int)<=_;omega,rfl,rfl⟩
      ·exact hw.1 k hk
     ·rcases List.mem_cons.mp (show k∈f::st from hk) with rfl | hk
      ·exact⟨m,g0,g1,t0,t1,hd⟩
      ·exact hw.2 k hk
theorem zqA(h:s.en≠none):∀ n,goR cr ks n s=s
 | 0=>rfl
 | n+1=>by unfold goR;rw[if_neg h]
variable {r:List (Str × V)}
theorem zcz{k x:Str}(h:(k == x)=false):List.lookup k ((x,v)::r)=List.lookup k r:=by simp[List.lookup,h]
theorem ziW{k:Str}: List.lookup k ((k,v)::r)=some v:=by simp[List.lookup]
theorem zhT{k x:Str}{w:V}(h:¬ x=k):putF k v ((x,w)::r)=(x,w)::putF k v r:=by
 show (if x=k then _ else _)=_
 rw[if_neg h]
theorem zqB{k:Str}{w:V}: putF k v ((k,w)::r)=(k,v)::r:=by
 show (if k=k then _ else _)=_
 rw[if_pos rfl]
theorem zpG{k:Str}: putF k v []=[(k,v)]:=rfl
def ffl (n p:Int)(ha aa:Addr):List (Str × V):=[("number",.int n),("place",.int p),("hands",.ref ha),("asked",.ref aa)]
theorem zjZ (n p:Int)(ha aa:Addr):(ffl n p ha aa).lookup ("number" : Str)=some (.int n):=ziW
theorem zcI (n p:Int)(ha aa:Addr):(ffl n p ha aa).lookup ("place" : Str)=some (.int p):=by
 unfold ffl;rw[zcz (by decide +kernel)];exact ziW
theorem zca (n p:Int)(ha aa:Addr):(ffl n p ha aa).lookup ("hands" : Str)=some (.ref ha):=by
 unfold ffl;rw[zcz (by decide +kernel),zcz (by decide +kernel)];exact ziW
theorem zoU (n p:Int)(ha aa:Addr):(ffl n p ha aa).lookup ("asked" : Str)=some (.ref aa):=by
 unfold ffl;rw[zcz (by decide +kernel),zcz (by decide +kernel),zcz (by decide +kernel)];exact ziW
variable {aa:Addr}
theorem zmo{n p:Int}{m:Str}(h:(m =="number" || (m =="place" || (m =="hands" || m =="asked")))=false:=by decide +kernel):(ffl n p ha aa).lookup m=none:=by
 simp only[Bool.or_eq_false_iff] at h
 obtain⟨h1,h2,h3,h4⟩:=h
 unfold ffl;rw[zcz h1,zcz h2,zcz h3,zcz h4];rfl
variable {q:Int}
theorem zpH{n p:Int}: putF "place" (.int q) (ffl n p ha aa)=ffl n q ha aa:=by
 unfold ffl;rw[zhT (by decide +kernel),zqB]
theorem zqC{n p:Int}: putF "asked" (.ref aa) (putF "hands" (.ref ha) (putF "place" (.int p) (putF "number" (.int n) [])))=ffl n p ha aa:=by
 repeat (first | rw[zpG] | rw[zhT (by decide +kernel)])
 rfl
def rfls (ka ia sa:Addr)(k:Int)(ev:V):List (Str × V):=[("known",.ref ka),("inputs_left",.ref ia),("stack",.ref sa),("steps_done",.int k),("ending",ev)]
variable {ka ia sa:Addr}
section
variable {k:Int}{ev ew:V}
theorem zfr:(rfls ka ia sa k ev).lookup ("known" : Str)=some (.ref ka):=ziW
theorem zj0:(rfls ka ia sa k ev).lookup ("inputs_left" : Str)=some (.ref ia):=by
 unfold rfls;rw[zcz (by decide +kernel)];exact ziW
theorem zbQ:(rfls ka ia sa k ev).lookup ("stack" : Str)=some (.ref sa):=by
 unfold rfls;rw[zcz (by decide +kernel),zcz (by decide +kernel)];exact ziW
theorem zlI:(rfls ka ia sa k ev).lookup ("steps_done" : Str)=some (.int k):=by
 unfold rfls;rw[zcz (by decide +kernel),zcz (by decide +kernel),zcz (by decide +kernel)];exact ziW
theorem zex:(rfls ka ia sa k ev).lookup ("ending" : Str)=some ev:=by
 unfold rfls;rw[zcz (by decide +kernel),zcz (by decide +kernel),zcz (by decide +kernel),zcz (by decide +kernel)];exact ziW
theorem zcf {m:Str}(h:(m =="known" || (m =="inputs_left" || (m =="stack" || (m =="steps_done" || m =="ending"))))=false:=by decide +kernel):(rfls ka ia sa k ev).lookup m=none:=by
 simp only[Bool.or_eq_false_iff] at h
 obtain⟨h1,h2,h3,h4,h5⟩:=h
 unfold rfls;rw[zcz h1,zcz h2,zcz h3,zcz h4,zcz h5];rfl
theorem zoV:putF "steps_done" (.int j) (rfls ka ia sa k ev)=rfls ka ia sa j ev:=by
 unfold rfls;rw[zhT (by decide +kernel),zhT (by decide +kernel),zhT (by decide +kernel),zqB]
theorem zcX:putF "ending" ew (rfls ka ia sa k ev)=rfls ka ia sa k ew:=by
 unfold rfls;rw[zhT (by decide +kernel),zhT (by decide +kernel),zhT (by decide +kernel),zhT (by decide +kernel),zqB]
theorem zqD:putF "ending" ev (putF "steps_done" (.int k) (putF "stack" (.ref sa) (putF "inputs_left" (.ref ia) (putF "known" (.ref ka) []))))=rfls ka ia sa k ev:=by
 repeat (first | rw[zpG] | rw[zhT (by decide +kernel)])
 rfl
end
def zkU (H:Hp):End->V->Prop
 | none,v=>v=.non
 | some xs,v=>∃ T,v=.ref T/\H T=some (.tup xs)
variable {en:End}
theorem zkU.tups(t:Tups H H')(h:zkU H en v):zkU H' en v:=by
 cases en with
 | none=>exact h
 | some xs=>obtain⟨T,e,z⟩:=h;exact⟨T,e,t _ _ z⟩
theorem zkU.none_iff(h:zkU H en v):decide (v=V.non)=en.isNone:=by
 cases en with
 | none=>rw[show v=.non from h];rfl
 | some xs=>obtain⟨T,e,z⟩:=h;rw[e,zkK];rfl
structure KnownAt (cC:Addr)(H:Hp)(ka:Addr)(ks:List Int)(cr:Int->Cr)(kfp:List Addr):Prop where
 d:∃ kvs,H ka=some (.dK kvs)/\KVs (CrIn cC H cr kfp) kvs ks
 rt:∀ m∈ks,(cr m).Rt
 has:∀ b∈kfp,∃ o,H b=some o
variable {kfp:List Addr}
section
theorem KnownAt.frame (A:KnownAt cC H ka ks cr kfp)(tk:Tups H H')(k:∀ b∈kfp,∀ o,H b=some o->H' b=some o)(k2:∀ kvs,H ka=some (.dK kvs)->H' ka=some (.dK kvs)):KnownAt cC H' ka ks cr kfp where
 d:=by
  obtain⟨kvs,e,q⟩:=A.d
  exact⟨kvs,k2 _ e,q.mono λm v ⟨p,f,e1,e2,e3⟩=>⟨p,f,e1,e2.frame tk λb hb o ho=>k b (e3 b hb) o ho,e3⟩⟩
 rt:=A.rt
 has:=λb hb=>by obtain⟨o,e⟩:=A.has b hb;exact⟨o,k b hb o e⟩
theorem KnownAt.upd{b:Addr}{u:HO}(A:KnownAt cC H ka ks cr kfp)(hb:b∉kfp)(h:H b=some u)(n1:∀ xs,u≠.tup xs)(n2:∀ kvs,u≠.dK kvs):KnownAt cC (L2.upd H b o) ka ks cr kfp:=
 A.frame (zgG λxs z=>n1 xs (by rw[h] at z;exact Option.some.inj z)) (λc hc o' ho=>by rw[zai (λz=>hb (by rw[<-z];exact hc))];exact ho) λkvs z=>by rw[zai (zn4 z h (λw=>n2 kvs w.symm))];exact z
end
abbrev Fa:=Addr × Addr × Addr
def zd4 (cF:Addr)(H:Hp):List Fm->List Fa->Prop
 | [],[]=>True
 | f::st,(p,ha,aa)::r=>(∃ dx,H p=some (.ins cF dx (ffl f.n f.p ha aa)))/\H ha=some (.lst (f.hands.map V.int))/\H aa=some (.lst (f.asked.map V.int))/\zd4 cF H st r
 | _,_=>False
def fasL (fas:List Fa):List Addr:=fas.flatMap λt=>[t.1,t.2.1,t.2.2]
theorem zbb (t:Fa)(fas:List Fa):fasL (t::fas)=t.1::t.2.1::t.2.2::fasL fas:=by unfold fasL;simp
variable {cF:Addr}
theorem zd4.frame: ∀ {st:List Fm}{fas:List Fa},(∀ b∈fasL fas,∀ o,H b=some o->H' b=some o)->zd4 cF H st fas->zd4 cF H' st fas
 | [],[],_,_=>trivial
 | f::st,(p,ha,aa)::r,k,h=>by
  obtain⟨⟨dx,h1⟩,h2,h3,h4⟩:=h
  rw[zbb] at k
  exact⟨⟨dx,k _ (by simp) _ h1⟩,k _ (by simp) _ h2,k _ (by simp) _ h3,zd4.frame (λb hb=>k b (by simp[hb])) h4⟩
 | [],_::_,_,h=>h.elim
 | _::_,[],_,h=>h.elim
theorem zd4.len: ∀ {st:List Fm}{fas:List Fa},zd4 cF H st fas->st.length=fas.length
 | [],[],_=>rfl
 | f::st,t::r,h=>by rw[List.length_cons,List.length_cons,zd4.len h.2.2.2]
 | [],_::_,h=>h.elim
 | _::_,[],h=>h.elim
theorem zd4.has: ∀ {st:List Fm}{fas:List Fa},zd4 cF H st fas->∀ b∈fasL fas,∃ o,H b=some o/\(∀ xs,o≠.tup xs)/\∀ kvs,o≠.dK kvs
 | [],[],_,b,hb=>by simp[fasL] at hb
 | f::st,(p,ha,aa)::r,h,b,hb=>by
  obtain⟨⟨dx,h1⟩,h2,h3,h4⟩:=h
  rw[zbb] at hb
  simp only[List.mem_cons] at hb
  rcases hb with rfl | rfl | rfl | hb
  ·exact⟨_,h1,λ_ z=>(by cases z),λ_ z=>(by cases z)⟩
  ·exact⟨_,h2,λ_ z=>(by cases z),λ_ z=>(by cases z)⟩
  ·exact⟨_,h3,λ_ z=>(by cases z),λ_ z=>(by cases z)⟩
  ·exact zd4.has h4 b hb
 | [],_::_,h,_,_=>h.elim
 | _::_,[],h,_,_=>h.elim
def zau (r ia sa:Addr)(fas:List Fa):List Addr:=r::ia::sa::fasL fas
structure RunX (cR cF cC:Addr)(H:Hp)(r ka ia sa:Addr)(ks:List Int)(cr:Int->Cr)(fas:List Fa)(s:Rs)(kfp:List Addr):Prop where
 ins:∃ dx ev,H r=some (.ins cR dx (rfls ka ia sa s.k ev))/\zkU H s.en ev
 kn:KnownAt cC H ka ks cr kfp
 inp:H ia=some (.lst (s.ins.map V.int))
 sta:H sa=some (.lst (fas.reverse.map λt=>V.ref t.1))
 fr:zd4 cF H s.st fas
 nd:(zau r ia sa fas).Nodup
 off:∀ b∈zau r ia sa fas,b∉kfp
variable {fas:List Fa}
section
variable {cR r:Addr}
theorem RunX.has (A:RunX cR cF cC H r ka ia sa ks cr fas s kfp):∀ b∈zau r ia sa fas,∃ o,H b=some o/\(∀ xs,o≠.tup xs)/\∀ kvs,o≠.dK kvs:=λb hb=>by
 unfold zau at hb
 simp only[List.mem_cons] at hb
 rcases hb with rfl | rfl | rfl | hb
 ·obtain⟨dx,ev,e,_⟩:=A.ins;exact⟨_,e,λ_ z=>(by cases z),λ_ z=>(by cases z)⟩
 ·exact⟨_,A.inp,λ_ z=>(by cases z),λ_ z=>(by cases z)⟩
 ·exact⟨_,A.sta,λ_ z=>(by cases z),λ_ z=>(by cases z)⟩
 ·exact A.fr.has b hb
theorem RunX.frame (A:RunX cR cF cC H r ka ia sa ks cr fas s kfp)(tk:Tups H H')(k:∀ b,b∈zau r ia sa fas\/b∈kfp->∀ o,H b=some o->H' b=some o)(k2:∀ kvs,H ka=some (.dK kvs)->H' ka=some (.dK kvs)):RunX cR cF cC H' r ka ia sa ks cr fas s kfp where
 ins:=by obtain⟨dx,ev,e,z⟩:=A.ins;exact⟨dx,ev,k _ (.inl (by simp[zau])) _ e,z.tups tk⟩
 kn:=A.kn.frame tk (λb hb=>k b (.inr hb)) k2
 inp:=k _ (.inl (by simp[zau])) _ A.inp
 sta:=k _ (.inl (by simp[zau])) _ A.sta
 fr:=A.fr.frame λb hb=>k b (.inl (by simp[zau,hb]))
 nd:=A.nd
 off:=A.off
theorem RunX.same (A:RunX cR cF cC H r ka ia sa ks cr fas s kfp)(e:Same H H'):RunX cR cF cC H' r ka ia sa ks cr fas s kfp:=A.frame e.tups (λb _ o ho=>e b o ho) λkvs z=>e _ _ z
theorem RunX.ndr (A:RunX cR cF cC H r ka ia sa ks cr fas s kfp):r≠ia/\r≠sa/\r∉fasL fas/\ia≠sa/\ia∉fasL fas/\sa∉fasL fas/\(fasL fas).Nodup:=by
 have h:=A.nd
 unfold zau at h
 simp only[List.nodup_cons,List.mem_cons,not_or] at h
 obtain⟨⟨a1,a2,a3⟩,⟨b1,b2⟩,c1,d1⟩:=h
 exact⟨a1,a2,a3,b1,b2,c1,d1⟩
theorem RunX.setR{k':Int}{ev ew:V}{en':End}(A:RunX cR cF cC H r ka ia sa ks cr fas s kfp)(h:H r=some (.ins cR dx (rfls ka ia sa s.k ev)))(he:zkU H en' ew):RunX cR cF cC (upd H r (.ins cR dx (rfls ka ia sa k' ew))) r ka ia sa ks cr fas {s with k:=k',en:=en'} kfp where
 ins:=⟨dx,ew,zac,he.tups (zgG λxs z=>by rw[h] at z;cases z)⟩
 kn:=A.kn.upd (A.off r (by simp[zau])) h (λ_ z=>by cases z) (λ_ z=>by cases z)
 inp:=by rw[zai A.ndr.1.symm];exact A.inp
 sta:=by rw[zai A.ndr.2.1.symm];exact A.sta
 fr:=A.fr.frame λb hb o ho=>by rw[zai (λz=>A.ndr.2.2.1 (by rw[<-z];exact hb))];exact ho
 nd:=A.nd
 off:=A.off
variable {xs:List Int}
theorem RunX.setIn(A:RunX cR cF cC H r ka ia sa ks cr fas s kfp):RunX cR cF cC (upd H ia (.lst (xs.map V.int))) r ka ia sa ks cr fas {s with ins:=xs} kfp where
 ins:=by obtain⟨dx,ev,e,z⟩:=A.ins;exact⟨dx,ev,by rw[zai A.ndr.1];exact e,z.tups (zc8 A.inp)⟩
 kn:=A.kn.upd (A.off ia (by simp[zau])) A.inp (λ_ z=>by cases z) (λ_ z=>by cases z)
 inp:=zac
 sta:=by rw[zai A.ndr.2.2.2.1.symm];exact A.sta
 fr:=A.fr.frame λb hb o ho=>by rw[zai (λz=>A.ndr.2.2.2.2.1 (by rw[<-z];exact hb))];exact ho
 nd:=A.nd
 off:=A.off
theorem zpI{t:Fa}(h:(fasL (t::fas)).Nodup):t.1≠t.2.1/\t.1≠t.2.2/\t.1∉fasL fas/\t.2.1≠t.2.2/\t.2.1∉fasL fas/\t.2.2∉fasL fas:=by
 rw[zbb] at h
 simp only[List.nodup_cons,List.mem_cons,not_or] at h
 obtain⟨⟨a1,a2,a3⟩,⟨b1,b2⟩,c1,d1⟩:=h
 exact⟨a1,a2,a3,b1,b2,c1⟩
theorem RunX.setP(A:RunX cR cF cC H r ka ia sa ks cr ((p,ha,aa)::fas) s kfp)(hs:s.st=f::st)(h:H p=some (.ins cF dx (ffl f.n f.p ha aa))):RunX cR cF cC (upd H p (.ins cF dx (ffl f.n q ha aa))) r ka ia sa ks cr ((p,ha,aa)::fas) {s with st:={f with p:=q}::st} kfp:=by
 obtain⟨r1,r2,r3,i1,i2,s1,fn⟩:=A.ndr
 obtain⟨n1,n2,n3,n4,n5,n6⟩:=zpI fn
 rw[zbb] at r3 i2 s1
 simp only[List.mem_cons,not_or] at r3 i2 s1
 have fr:=A.fr
 rw[hs] at fr
 obtain⟨⟨dx',f1⟩,f2,f3,f4⟩:=fr
 have nt:Tups H (upd H p (.ins cF dx (ffl f.n q ha aa))):=zgG λxs z=>by rw[h] at z;cases z
 refine⟨?_,A.kn.upd (A.off p (by simp[zau,zbb])) h (λ_ z=>by cases z) (λ_ z=>by cases z),?_,?_,⟨⟨dx,zac⟩,?_,?_,f4.frame λb hb o ho=>?_⟩,A.nd,A.off⟩
 ·obtain⟨dx',ev,e,z⟩:=A.ins;exact⟨dx',ev,by rw[zai r3.1];exact e,z.tups nt⟩
 ·rw[zai i2.1];exact A.inp
 ·rw[zai s1.1];exact A.sta
 ·rw[zai (Ne.symm n1)];exact f2
 ·rw[zai (Ne.symm n2)];exact f3
 ·rw[zai (λz=>n3 (by rw[<-z];exact hb))];exact ho
theorem RunX.setH(A:RunX cR cF cC H r ka ia sa ks cr ((p,ha,aa)::fas) s kfp)(hs:s.st=f::st):RunX cR cF cC (upd H ha (.lst (xs.map V.int))) r ka ia sa ks cr ((p,ha,aa)::fas) {s with st:={f with hands:=xs}::st} kfp:=by
 obtain⟨r1,r2,r3,i1,i2,s1,fn⟩:=A.ndr
 obtain⟨n1,n2,n3,n4,n5,n6⟩:=zpI fn
 rw[zbb] at r3 i2 s1
 simp only[List.mem_cons,not_or] at r3 i2 s1
 have fr:=A.fr
 rw[hs] at fr
 obtain⟨⟨dx',f1⟩,f2,f3,f4⟩:=fr
 have nt:Tups H (upd H ha (.lst (xs.map V.int))):=zc8 f2
 refine⟨?_,A.kn.upd (A.off ha (by simp[zau,zbb])) f2 (λ_ z=>by cases z) (λ_ z=>by cases z),?_,?_,⟨⟨dx',?_⟩,zac,?_,f4.frame λb hb o ho=>?_⟩,A.nd,A.off⟩
 ·obtain⟨dx',ev,e,z⟩:=A.ins;exact⟨dx',ev,by rw[zai r3.2.1];exact e,z.tups nt⟩
 ·rw[zai i2.2.1];exact A.inp
 ·rw[zai s1.2.1];exact A.sta
 ·rw[zai n1];exact f1
 ·rw[zai (Ne.symm n4)];exact f3
 ·rw[zai (λz=>n5 (by rw[<-z];exact hb))];exact ho
theorem RunX.pop {t:Fa}(A:RunX cR cF cC H r ka ia sa ks cr (t::fas) s kfp)(hs:s.st=f::st):RunX cR cF cC (upd H sa (.lst (fas.reverse.map λt=>V.ref t.1))) r ka ia sa ks cr fas {s with st:=st} kfp:=by
 obtain⟨r1,r2,r3,i1,i2,s1,fn⟩:=A.ndr
 have fr:=A.fr
 rw[hs] at fr
 obtain⟨p,ha,aa⟩:=t
 obtain⟨⟨dx',f1⟩,f2,f3,f4⟩:=fr
 rw[zbb] at r3 i2 s1 fn
 simp only[List.mem_cons,not_or] at r3 i2 s1
 refine⟨?_,A.kn.upd (A.off sa (by simp[zau])) A.sta (λ_ z=>by cases z) (λ_ z=>by cases z),?_,zac,f4.frame λb hb o ho=>?_,?_,λb hb=>A.off b ?_⟩
 ·obtain⟨dx',ev,e,z⟩:=A.ins;exact⟨dx',ev,by rw[zai r2];exact e,z.tups (zc8 A.sta)⟩
 ·rw[zai i1];exact A.inp
 ·rw[zai (λz=>s1.2.2.2 (by rw[<-z];exact hb))];exact ho
 ·have:=A.nd
  unfold zau at this ⊢
  rw[zbb] at this
  simp only[List.nodup_cons,List.mem_cons,not_or] at this ⊢
  exact⟨⟨this.1.1,this.1.2.1,this.1.2.2.2.2.2⟩,⟨this.2.1.1,this.2.1.2.2.2.2⟩,this.2.2.1.2.2.2,this.2.2.2.2.2.2⟩
 ·unfold zau at hb ⊢
  rw[zbb]
  simp only[List.mem_cons] at hb ⊢
  rcases hb with z | z | z | z
  ·exact .inl z
  ·exact .inr (.inl z)
  ·exact .inr (.inr (.inl z))
  ·exact .inr (.inr (.inr (.inr (.inr (.inr z)))))
theorem RunX.push(A:RunX cR cF cC H r ka ia sa ks cr fas s kfp)(e:Same H H')(p0:H p=none)(h0:H ha=none)(a0:H aa=none)(n1:p≠ha)(n2:p≠aa)(n3:ha≠aa)(hk:∀ b∈kfp,∃ o,H b=some o)(h1:H' p=some (.ins cF dx (ffl f.n f.p ha aa)))(h2:H' ha=some (.lst (f.hands.map V.int)))(h3:H' aa=some (.lst (f.asked.map V.int))):
  RunX cR cF cC (upd H' sa (.lst ((fas.reverse.map λt=>V.ref t.1)++[.ref p]))) r ka ia sa ks cr ((p,ha,aa)::fas) {s with st:=f::s.st} kfp:=by
 have A':=A.same e
 obtain⟨r1,r2,r3,i1,i2,s1,fn⟩:=A.ndr
 have ow:∀ b∈zau r ia sa fas,b≠p/\b≠ha/\b≠aa:=λb hb=>by
  obtain⟨o,ho,_⟩:=A.has b hb
  exact⟨zao ho p0,zao ho h0,zao ho a0⟩
 have os:=ow sa (by simp[zau])
 refine⟨?_,A'.kn.upd (A.off sa (by simp[zau])) A'.sta (λ_ z=>by cases z) (λ_ z=>by cases z),?_,by rw[zac];simp,⟨⟨dx,?_⟩,?_,?_,A'.fr.frame λb hb o ho=>?_⟩,?_,λb hb=>?_⟩
 ·obtain⟨dx',ev,e,z⟩:=A'.ins;exact⟨dx',ev,by rw[zai r2];exact e,z.tups (zc8 A'.sta)⟩
 ·rw[zai i1];exact A'.inp
 ·rw[zai os.1.symm];exact h1
 ·rw[zai os.2.1.symm];exact h2
 ·rw[zai os.2.2.symm];exact h3
 ·rw[zai (λz=>s1 (by rw[<-z];exact hb))];exact ho
 ·have nd:=A.nd
  have o1:=ow r (by simp[zau])
  have o2:=ow ia (by simp[zau])
  have of':∀ b∈fasL fas,b≠p/\b≠ha/\b≠aa:=λb hb=>ow b (by simp[zau,hb])
  unfold zau at nd ⊢
  rw[zbb]
  simp only[List.nodup_cons,List.mem_cons,not_or] at nd ⊢
  exact⟨⟨nd.1.1,nd.1.2.1,o1.1,o1.2.1,o1.2.2,nd.1.2.2⟩,⟨nd.2.1.1,o2.1,o2.2.1,o2.2.2,nd.2.1.2⟩,⟨os.1,os.2.1,os.2.2,nd.2.2.1⟩,⟨n1,n2,λz=>(of' p z).1 rfl⟩,⟨n3,λz=>(of' ha z).2.1 rfl⟩,λz=>(of' aa z).2.2 rfl,nd.2.2.2⟩
 ·have kn:∀ b∈kfp,b≠p/\b≠ha/\b≠aa:=λb hb=>by
   obtain⟨o,ho⟩:=hk b hb
   exact⟨zao ho p0,zao ho h0,zao ho a0⟩
  unfold zau at hb
  rw[zbb] at hb
  simp only[List.mem_cons] at hb
  rcases hb with rfl | rfl | rfl | rfl | rfl | rfl | hb
  ·exact A.off b (by simp[zau])
  ·exact A.off b (by simp[zau])
  ·exact A.off b (by simp[zau])
  ·exact λz=>(kn _ z).1 rfl
  ·exact λz=>(kn _ z).2.1 rfl
  ·exact λz=>(kn _ z).2.2 rfl
  ·exact A.off b (by simp[zau,hb])
end
theorem zqE{xs:List α}{v:α}: atI (xs++[v]) (-1)=some v:=by
 unfold atI ixN
 rw[if_neg (by omega),if_pos (by simp;omega),show ((-1:Int)+((xs++[v]).length:Nat)).toNat=xs.length by simp;omega]
 simp
theorem zfs{t:Fa}: atI ((t::fas).reverse.map λt=>V.ref t.1) (-1)=some (.ref t.1):=by
 rw[List.reverse_cons,List.map_append]
 exact zqE
theorem znK {c:Int}{fs ns:List Int}(h:Sm (c::fs)):∀ (i:Nat) (f n:Int),fs[i]?=some f->ns[i]?=some n->CMul f n:=λi f n e _=>.inl (h f (List.mem_cons_of_mem _ (zmg e)))
theorem zdF(h:WfF ks cr f):(zcH f).length=8:=by
 unfold zcH
 simp[h.h4,h.a2]
theorem KnownAt.craft(A:KnownAt cC H ka ks cr kfp){m:Int}(hm:m∈ks):∃ kvs p f,H ka=some (.dK kvs)/\valV kvs (.inl m)=some (.ref p)/\zbv cC H p (cr m) f:=by
 obtain⟨kvs,e,q⟩:=A.d
 obtain⟨v,e1,p,f,rfl,e3,_⟩:=q.2.2 m hm
 exact⟨kvs,p,f,e,e1,e3⟩
theorem KnownAt.no(A:KnownAt cC H ka ks cr kfp){m:Int}(hm:m∉ks):∃ kvs,H ka=some (.dK kvs)/\valV kvs (.inl m)=none:=by
 obtain⟨kvs,e,q⟩:=A.d
 exact⟨kvs,e,q.no hm⟩
def zdp (K:Fg)(H:Hp)(a:Addr)(ls:List (List Int)):Prop:=∃ xs,H a=some (.lst xs)/\Reps K H (ls.map nums) xs
theorem zdp.same{ls:List (List Int)}(e:Same H H')(h:zdp K H a ls):zdp K H' a ls:=by
 obtain⟨xs,h1,h2⟩:=h
 exact⟨xs,e _ _ h1,Reps.same e _ h2⟩
theorem ziX{ls:List (List Int)}{f:List Addr}(h:RepF H (zaF ls) v f):∃ a,v=.ref a/\zdp K H a ls:=by
 unfold zaF RepF at h
 obtain⟨a,xs,r,rfl,rfl,h1,h2⟩:=h
 exact⟨a,rfl,xs,h1,zaj.reps (K:=K) _ h2⟩
theorem zbv.out(h9:∀ d∈c.deeds,zhR d)(h:zbv cC H p c fp):∃ dx y1 y2 b3 b4 dvs nvs,H p=some (.ins cC dx (flds (.ref y1) (.ref y2) (.ref b3) (.ref b4)))/\zdp K H y1 c.needs/\zdp K H y2 c.leaves/\H b3=some (.lst dvs)/\zfa H c.deeds dvs/\H b4=some (.lst nvs)/\R2 (λls x=>∃ a,x=.ref a/\zdp K H a ls) c.notes nvs:=by
 obtain⟨dx,w1,w2,w3,w4,f,rfl,hp,r⟩:=h
 obtain⟨x1,x2,x3,x4,f1,f2,f3,f4,e,g1,g2,g3,g4⟩:=zpu r
 cases e
 obtain⟨y1,rfl,hy1⟩:=ziX (K:=K) g1
 obtain⟨y2,rfl,hy2⟩:=ziX (K:=K) g2
 obtain⟨b3,dvs,r3,rfl,h3,z3⟩:=RepF.lso g3
 obtain⟨b4,nvs,r4,rfl,h4,z4⟩:=RepF.lso g4
 refine⟨dx,y1,y2,b3,b4,dvs,nvs,hp,hy1,hy2,h3,⟨by simpa using z3.length,λi d x e1 e2=>?_⟩,h4,⟨by simpa using z4.length,λi ls x e1 e2=>?_⟩⟩
 ·obtain⟨f,hf⟩:=zaj.item z3 i (toD d) x (by rw[zgm,e1];rfl) e2
  exact znn (zlE (h9 d (zmg e1))) hf
 ·obtain⟨f,hf⟩:=zaj.item z4 i (zaF ls) x (by rw[zgm,e1];rfl) e2
  exact ziX hf
theorem Cr.Rt.sm(h:c.Rt):(∀ l∈c.needs,l.length=9/\Sm l)/\(∀ l∈c.leaves,l.length=9/\Sm l)/\(∀ ls∈c.notes,∀ l∈ls,l.length=9/\Sm l):=by
 have r:zd2 c.needs c.leaves c.deeds c.notes=true:=h.r
 simp only[zd2,zhl,ze7,ze8,zdm,Bool.and_eq_true,decide_eq_true_eq,List.all_map,List.all_eq_true,Function.comp_apply,id_eq] at r
 obtain⟨⟨⟨_,a1⟩,_,a2⟩,_,_,c2⟩:=r
 exact⟨λl hl=>⟨h.nine.n9 l hl,zjX (a1 l hl)⟩,λl hl=>⟨h.nine.l9 l hl,zjX (a2 l hl)⟩,λls hls l hl=>⟨(h.nine.o9 ls hls).2 l hl,zjX ((c2 ls hls).2 l hl)⟩⟩
def badV:Option Nat->V
 | some i=>.int (i:Int)
 | none=>.non
theorem znL{ls:List (List Int)}{P:List Int->Bool}(h:(ls.take i).findIdx? P=none)(e:ls[i]?=some l):ls.findIdx? P=if P l=true then some i else (ls.drop (i+1)).findIdx? P |>.map (· + (i+1)):=by
 obtain⟨hi,rfl⟩:=zge.mp e
 have s:ls=ls.take i++ls[i]::ls.drop (i+1):=by rw[List.getElem_cons_drop,List.take_append_drop]
 have l':(ls.take i).length=i:=by rw[List.length_take];omega
 conv=>lhs;rw[s]
 rw[List.findIdx?_append,h,List.findIdx?_cons]
 simp only[Option.none_or,l']
 split
 ·simp
 ·simp only[Option.map_map]
  congr 1
  funext x
  simp;omega
variable {y:V}
theorem zkV{g:Addr}(h:SqL K H g [x,y]\/SqT K H g [x,y])(q:Q x H):rIx K (.ref g) (.int 0) H Q:=by
 rcases h with h | h
 ·exact zbX h zbs q
 ·exact zaL h zbs q
theorem zkW{g:Addr}(h:SqL K H g [x,y]\/SqT K H g [x,y])(q:Q y H):rIx K (.ref g) (.int 1) H Q:=by
 rcases h with h | h
 ·exact zbX h (zaB (j:=1) rfl) q
 ·exact zaL h (zaB (j:=1) rfl) q
end My

namespace L2
open PySem PySem.Spec PySem.Calls PyProof.Rows PySem.W
theorem i_bm0 {K:Fg}{σ:St}{H:Hp}{Q:VK}{T:String}{r:V->List V->Hp->VK->Prop}{to:TE}(h:to σ H λx H1=>tyV K T x H1/\r x [] H1 Q):tBM0 K T r to σ H Q:=h
variable {X:Cx}{es:List Expr}{te:TE}{pos:Pos}
section
variable {CX:CXT}{C:Addr}{ps:List Str}{j k:Nat}{sp:Sp}{E:XK}{x m:Str}{o e:Expr}{ta:TE}{t:TA}{p apos:Pos}
theorem q_mk (G:Mkr X.prog X.w X.K X.mg X.base x C ps j sp)(hr:Room k X.A)(hg:Gl X x)(ha:QA X (e::es) t)(hj:j+1<=k:=by decide)(hdb:(x == ("__debug__" : Str))=false:=by decide)
  (he:starEach (e::es) X.env=(false,eval e X.env)::starEach es X.env:=by rfl) (hpl:(backTo pos (starEach es X.env)).any (·.1)=false:=by rfl):QE X (.Call (.Name x p) (e::es) [] pos) (zkA C sp [] E0 t):=⟨zoD G hr hg ha.run hj hdb he hpl⟩
theorem q_mth {pl:Sem Bool}(G:Mth CX X.prog X.w X.K X.mg X.base C m ps j sp)(c:Cls X.K C)(hr:Room k X.A)(hx:zcA CX X E)(he:QE X o ta)(ha:QA X (e::es) t)(hj:j<=k:=by decide)
  (hst:starEach (e::es) X.env=(false,eval e X.env)::starEach es X.env:=by rfl) (hpl:(backTo pos (starEach es X.env)).any (·.1)=false:=by rfl)
  (ht:eval (.Call (.Attribute o m apos) (e::es) [] pos) X.env=(do
   let ov <-eval o X.env
   standAt apos.atName
   let (f,first) <-holding [ov] (getMethod ov m pl)
   callWith pos f first (backTo pos (starEach (e::es) X.env)) (backToKw pos (keywordEach [] X.env))):=by rfl) :
  QE X (.Call (.Attribute o m apos) (e::es) [] pos) (zjp C m sp [] E ta t):=⟨zaS G c hr hx he.run ha.run hj hst hpl ht⟩
theorem zqF (h:QE X e te)(hs:swapsWith e none pos.line X.env=pure false:=by rfl):QS X (.Expr e pos) (zmD te):=⟨za1 h.run hs⟩
end
theorem ziY{t:TA}{f:Expr}{a:List Expr}{k:List Keyword}(h:QE X (.Call f a k pos) te)(r:QA X es t):QA X (.Call f a k pos::es) (zc1 te t):=⟨za0 h.run r.run rfl⟩
theorem zpJ{tg iter:Expr}{body:List Stmt}{wi:TI}{g:TG}{tb:TS}(hp:PassesOwn (model X.prog X.w) X.A X.env X.xe)(hc:X.calm=true)(hi:PI X tg iter wi)(hg:PG X tg g)(hb:QSs X body tb)(hs:∀ x,foldedSetIterable iter X.env x=pure x:=by intro _;rfl):QS X (.For tg iter body [] pos) (tFor wi g tb):=⟨zej hp hc hi hg hb.run hs⟩
end L2
namespace My
open PySem L2 PyProof.Rows
def zaK (S:List Addr)(H:Hp)(T:List Addr)(H':Hp):Prop:=OffA S H H'/\(∀ b∈T,b∈S\/H b=none)/\Free H H'
variable {S:List Addr}{H:Hp}
theorem zaK.refl: zaK S H S H:=⟨λ_ _ _ h=>h,λ_ h=>.inl h,λ_ h=>h⟩
variable {T:List Addr}{H1:Hp}
theorem zaK.trans{U:List Addr}{H2:Hp}(a:zaK S H T H1)(b:zaK T H1 U H2):zaK S H U H2:=by
 have k:∀ c∈T,c∈S\/H c=none:=a.2.1
 refine⟨λc o n e=>b.1 c o (λz=>?_) (a.1 c o n e),λc hc=>?_,λc hc=>a.2.2 c (b.2.2 c hc)⟩
 ·rcases k c z with w | w
  ·exact n w
  ·rw[w] at e;cases e
 ·rcases b.2.1 c hc with z | z
  ·exact k c z
  ·exact .inr (a.2.2 c z)
variable {H':Hp}
theorem zaK.same(e:Same H H'):zaK S H S H':=⟨e.offA,λ_ h=>.inl h,e.fr⟩
theorem zlJ(e:OffA S H H')(h:∀ b∈S,∃ o,H' b=some o):Free H H':=λb hb=>by
 cases eb:H b with
 | none=>rfl
 | some o=>
  by_cases w:b∈S
  ·obtain⟨u,hu⟩:=h b w
   rw[hu] at hb;cases hb
  ·rw[e b o w eb] at hb;cases hb
variable {p:Addr}{o:HO}
theorem zaK.upd(h:p∈S):zaK S H S (upd H p o):=⟨zbI h,λ_ h=>.inl h,zda⟩
theorem zaK.less(h:∀ b∈T,b∈S):zaK S H T H:=⟨λ_ _ _ h=>h,λb z=>.inl (h b z),λ_ h=>h⟩
variable {cR cF cC r ka ia sa:Addr}{ks:List Int}{cr:Int->Cr}{fas:List Fa}{s:Rs}{kfp:List Addr}
theorem zaK.offR(e:OffA [r] H H')(A:RunX cR cF cC H' r ka ia sa ks cr fas s kfp):zaK (zau r ia sa fas) H (zau r ia sa fas) H':=
 ⟨λb o n=>e b o λz=>n (by rw[zms.mp z];simp[zau]),λ_ h=>.inl h,zlJ e λb hb=>by
  rw[zms.mp hb]
  obtain⟨dx,ev,z,_⟩:=A.ins
  exact⟨_,z⟩⟩
def zj1 (cr:Int->Cr)(s:Rs)(f:Fm)(st:List Fm):Rs:=match zaM (cr f.n).leaves (zcH f) with
 | some i=>{s with en:=some (brk "leaves" f i)}
 | none=>match st with
  | []=>{s with st:=[],en:=some (zmn f)}
  | g::r=>{s with st:=zjY cr g (f.hands.getD 0 0) (f.hands.getD 1 0)::r}
variable {f:Fm}{st:List Fm}
theorem zoW(h:¬ f.p=((cr f.n).deeds.length:Int)):come cr f st=(f::st,zdX cr f):=by
 cases st <;> (unfold come;rw[if_neg h])
theorem zqG(h:f.p=((cr f.n).deeds.length:Int)):come cr f st=match zaM (cr f.n).leaves (zcH f) with
  | some i=>(f::st,some (brk "leaves" f i))
  | none=>match st with
   | []=>([],some (zmn f))
   | g::r=>come cr (zjY cr g (f.hands.getD 0 0) (f.hands.getD 1 0)) r:=by
 cases st with
 | nil=>
  unfold come
  rw[if_pos h]
  all_goals (cases zaM (cr f.n).leaves (zcH f) <;> rfl)
 | cons g r=>
  conv=>lhs;unfold come
  rw[if_pos h]
  all_goals (cases zaM (cr f.n).leaves (zcH f) <;> rfl)
theorem Wf.take{g:Fm}{r:List Fm}{l0 l1:Int}(h:Wf ks cr (f::g::r)):Wf ks cr (zjY cr g l0 l1::r):=⟨λk hk=>by
 rcases List.mem_cons.mp hk with rfl | hk
 ·exact zlH (h.tail.1 g List.mem_cons_self) (h.2 g List.mem_cons_self)
 ·exact h.tail.1 k (List.mem_cons_of_mem _ hk),λk hk=>h.tail.2 k hk⟩
def zd5 (ks:List Int)(cr:Int->Cr)(s0:Rs)(f0:Fm)(st0:List Fm)(s:Rs):Prop:=s.k=s0.k/\s.ins=s0.ins/\((s.en=none/\∃ f st,s.st=f::st/\Wf ks cr (f::st)/\come cr f st=come cr f0 st0)\/∃ e,s.en=some e/\(s.st,some e)=come cr f0 st0)
def meaR (s:Rs):Nat:=2 * s.st.length+if s.en.isNone=true then 1 else 0
variable {s0:Rs}{f0:Fm}{st0:List Fm}
theorem zd5.leave(h:zd5 ks cr s0 f0 st0 s)(he:s.en=none)(hs:s.st=f::st)(hp:f.p=((cr f.n).deeds.length:Int)):zd5 ks cr s0 f0 st0 (zj1 cr s f st)/\meaR (zj1 cr s f st)<meaR s:=by
 obtain⟨k1,k2,h | ⟨e,he',_⟩⟩:=h
 ·obtain⟨_,f',st',e1,w,ec⟩:=h
  rw[hs] at e1
  injection e1 with e1 e2
  subst e1;subst e2
  rw[zqG hp] at ec
  obtain⟨sst,sins,sk,sen⟩:=s
  dsimp only at hs he k1 k2
  subst hs;subst he
  unfold zj1 meaR
  cases hb:zaM (cr f.n).leaves (zcH f) with
  | some i=>
   rw[hb] at ec
   exact⟨⟨k1,k2,.inr ⟨_,rfl,ec⟩⟩,by simp⟩
  | none=>
   rw[hb] at ec
   cases st with
   | nil=>exact⟨⟨k1,k2,.inr ⟨_,rfl,ec⟩⟩,by simp⟩
   | cons g r=>exact⟨⟨k1,k2,.inl ⟨rfl,_,r,rfl,w.take,ec⟩⟩,by simp⟩
 ·rw[he] at he';cases he'
theorem zd5.stay(h:zd5 ks cr s0 f0 st0 s)(he:s.en=none)(hs:s.st=f::st)(hp:¬ f.p=((cr f.n).deeds.length:Int)):({s with en:=zdX cr f} : Rs)=zdD cr s0 f0 st0:=by
 obtain⟨k1,k2,h | ⟨e,he',_⟩⟩:=h
 ·obtain⟨_,f',st',e1,w,ec⟩:=h
  rw[hs] at e1
  injection e1 with e1 e2
  subst e1;subst e2
  rw[zoW hp] at ec
  unfold zdD
  rw[<-ec,<-k1,<-k2,<-hs]
 ·rw[he] at he';cases he'
theorem zd5.ended(h:zd5 ks cr s0 f0 st0 s)(he:¬ s.en=none):s=zdD cr s0 f0 st0:=by
 obtain⟨k1,k2,h | ⟨e,he',ec⟩⟩:=h
 ·exact absurd h.1 he
 ·unfold zdD
  rw[<-ec,<-k1,<-k2,<-he']
theorem zd5.top(h:zd5 ks cr s0 f0 st0 s)(he:s.en=none):∃ f st,s.st=f::st/\Wf ks cr (f::st):=by
 obtain⟨_,_,h | ⟨e,he',_⟩⟩:=h
 ·obtain⟨_,f,st,e1,w,_⟩:=h;exact⟨f,st,e1,w⟩
 ·rw[he] at he';cases he'
variable {xs:List Int}
theorem zfX{k:Int}(h0:0<=k)(h:k<(xs.length:Int)):atI (xs.map V.int) k=some (.int (xs.getD k.toNat 0)):=by
 have hk:k.toNat<xs.length:=by omega
 exact zlx h0 (by rw[zgm,List.getElem?_eq_getElem hk,List.getD_eq_getElem?_getD,List.getElem?_eq_getElem hk];rfl)
theorem ziZ{j:Nat}{v:Int}: (xs.map V.int).set j (.int v)=(xs.set j v).map V.int:=by rw[List.map_set]
theorem zqH{t:Fa}: ((t::fas).reverse.map λt=>V.ref t.1).dropLast=fas.reverse.map λt=>V.ref t.1:=by
 rw[List.reverse_cons,List.map_append]
 exact List.dropLast_concat
theorem zqI{t:Fa}: ((t::fas).reverse.map λt=>V.ref t.1)[((t::fas).reverse.map λt=>V.ref t.1).length - 1]?=some (.ref t.1):=by
 rw[List.reverse_cons,List.map_append]
 simp
theorem Rs.quiet(h:s.en=none):({s with en:=none} : Rs)=s:=by cases s;cases h;rfl
theorem zoX{t:Fa}: ∀ b∈zau r ia sa fas,b∈zau r ia sa (t::fas):=λb h=>by
 unfold zau at h ⊢
 rw[zbb]
 simp only[List.mem_cons] at h ⊢
 rcases h with z | z | z | z
 ·exact .inl z
 ·exact .inr (.inl z)
 ·exact .inr (.inr (.inl z))
 ·exact .inr (.inr (.inr (.inr (.inr (.inr z)))))
variable {ha aa:Addr}
theorem zsl: p∈zau r ia sa ((p,ha,aa)::fas):=by simp[zau,zbb]
theorem zqJ: ha∈zau r ia sa ((p,ha,aa)::fas):=by simp[zau,zbb]
theorem zqK: sa∈zau r ia sa fas:=by simp[zau]
theorem zsm: ia∈zau r ia sa fas:=by simp[zau]
theorem ziu: r∈zau r ia sa fas:=by simp[zau]
def zqL (cr:Int->Cr)(ks:List Int)(s:Rs)(f:Fm)(st:List Fm)(m a0 a1:Int):Rs:=if m∉ks then {s with en:=some [.str "lost"]} else if 20<=(f::st).length then {s with en:=some [.str "deep"]} else
   match zaM (cr m).needs (zeO a0 a1) with
   | some i=>{s with en:=some (brk "needs" f i)}
   | none=>zdD cr s (zdE m a0 a1) (f::st)
theorem zmp{m g0 g1 t0 t1:Int}: zfW cr ks s f st (.call m g0 g1 t0 t1)=zqL cr ks s f st m (f.hands.getD g0.toNat 0) (f.hands.getD g1.toNat 0):=rfl
theorem zaK.push{y:Addr}(e:Same H H1)(h1:H y=none)(h2:H ha=none)(h3:H aa=none):zaK (zau r ia sa fas) H (zau r ia sa ((y,ha,aa)::fas)) (L2.upd H1 sa o):=by
 refine⟨e.offA.trans (zbI zqK),λb hb=>?_,λb hb=>e.fr b (zda b hb)⟩
 unfold zau at hb
 rw[zbb] at hb
 simp only[List.mem_cons] at hb
 rcases hb with rfl | rfl | rfl | rfl | rfl | rfl | hb
 ·exact .inl ziu
 ·exact .inl zsm
 ·exact .inl zqK
 ·exact .inr h1
 ·exact .inr h2
 ·exact .inr h3
 ·exact .inl (by simp[zau,hb])
theorem zgM: ∀ {f:Fm}{st:List Fm},(come cr f st).1.length<=(f::st).length
 | f,[]=>by
  unfold come
  split
  ·split <;> simp
  ·simp
 | f,g::st=>by
  unfold come
  split
  ·split
   ·simp
   ·exact Nat.le_trans zgM (by simp)
  ·simp
theorem znM(h:s.st.length<=20):(zhS cr ks s).st.length<=20:=by
 unfold zhS
 split
 ·exact h
 ·rename_i f st e
  have cl:∀ (t:Rs) (g:Fm),(zdD cr t g st).st.length<=20:=λt g=>by
   have:=zgM (cr:=cr) (f:=g) (st:=st)
   rw[e,List.length_cons] at h
   rw[List.length_cons] at this
   exact Nat.le_trans this h
  split
  ·exact h
  ·rename_i d _
   cases d with
   | set hd l=>exact cl _ _
   | part hd l b=>exact cl _ _
   | draw hd lo hi=>
    unfold zfW
    dsimp only
    split
    ·exact h
    ·split
     ·exact cl _ _
     ·exact h
   | turn l q=>exact cl _ _
   | hold l=>
    unfold zfW
    dsimp only
    split
    ·exact h
    ·exact cl _ _
   | call m g0 g1 t0 t1=>
    unfold zfW
    dsimp only
    split
    ·exact h
    ·split
     ·exact h
     ·rename_i l20
      split
      ·exact h
      ·refine Nat.le_trans zgM ?_
       simp only[List.length_cons] at l20 ⊢
       omega
theorem zoY{d:Dd}(hst:s.st=f::st)(hd:zfq (cr f.n) f.p=some d):zhS cr ks s=zfW cr ks {s with k:=s.k+1,en:=s.en} f st d:=by
 obtain⟨a,b,c,e⟩:=s
 dsimp only at hst
 subst hst
 unfold zhS
 dsimp only
 rw[hd]
theorem zqM:decide (("part" : Str) ="set")=false:=by decide +kernel
theorem znN:decide (("draw" : Str) ="set")=false/\decide (("draw" : Str) ="part")=false:=by decide +kernel
theorem zkX:decide (("turn" : Str) ="set")=false/\decide (("turn" : Str) ="part")=false/\decide (("turn" : Str) ="draw")=false:=by decide +kernel
theorem zi0:decide (("hold" : Str) ="set")=false/\decide (("hold" : Str) ="part")=false/\decide (("hold" : Str) ="draw")=false/\decide (("hold" : Str) ="turn")=false:=by decide +kernel
theorem zhw:decide (("call" : Str) ="set")=false/\decide (("call" : Str) ="part")=false/\decide (("call" : Str) ="draw")=false/\decide (("call" : Str) ="turn")=false/\decide (("call" : Str) ="hold")=false:=by decide +kernel
def zsn (H:Hp)(en:End)(v:V):Prop:=∃ T,v=.ref T/\H T=some (.tup (en.getD [.str "cut"]))
section
variable {da ra sk:Addr}{ins:List Int}{lfp:List Addr}
end
section
variable {H0:Hp}
end
def zhU (r:Int × List Int):D:=.tup [.int r.1,nums r.2]
def zfY (gs:List Du)(rs:List (Int × List Int)):Bool:=decide (gs.length=rs.length) && (List.zipWith (λg r=>zew g.1 g.2 r.1 r.2) gs rs).all id
section
variable {pa b3:Addr}{c:Cr}{v1 v2 v4:V}{dvs:List V}{f1 f2 f3 f4:List Addr}
end
section
variable {pl T:Addr}{n:Int}{u:V}{r:List V}
end
end My

set_option compiler.extract_closed false
set_option maxHeartbeats 8000000
open PySem.W (mg_of nsIn findIn mg_none_of isFn keepIn excIn fnOf codeIn kia_one makesIn)
local macro_rules | `(tactic| walk_at "gs1") => `(tactic| first
  | (with_reducible first | refine L2.i_asg ?_ | refine L2.zqf ?_ | refine L2.i_ret ?_ | refine L2.zrL ?_ | refine L2.zrM ?_ | refine L2.i_ifK fun T kT U kU => ?_ | refine L2.i_if ?_ | refine L2.zrI ?_ | refine L2.i_B ?_ | refine L2.i_bl ?_ | refine L2.iteT ?_ | refine L2.iteF ?_ | refine L2.iteNT ?_ | refine L2.iteNF ?_ | refine L2.zow ?_ | refine L2.i_bm ?_ | refine L2.i_bm0 ?_ | refine L2.zrW ?_ | refine L2.i_fld ?_ | refine L2.zrX ?_ | refine L2.zqk ?_ | refine L2.zrO ?_ | refine L2.i_orV ?_ | refine L2.i_notV ?_ | refine L2.i_and ?_ | refine L2.i_or ?_ | refine L2.i_not ?_ | refine L2.i_for ?_ | refine L2.zrP ?_ | refine L2.zqg ?_ | refine L2.zrQ ?_ | refine L2.i_zip ?_ | refine L2.zrR ?_ | refine L2.i_rev ?_ | refine L2.zrS ?_ | refine L2.i_rng2 ?_ | refine L2.i_sl ?_ | refine L2.zoz ?_ | refine L2.zrT ?_ | refine L2.zqh ?_ | refine L2.i_par ?_ | refine L2.i_parv ?_ | refine L2.zrU ?_ | refine L2.i_c ?_ | refine L2.zqp ?_ | refine L2.zr4 ?_ | refine L2.zqq ?_ | refine L2.zoJ ?_ | refine L2.i_op ?_ | refine L2.i_un ?_ | refine L2.zrJ ?_ | refine L2.i_nil ?_ | refine L2.zrK ?_ | refine L2.zqr ?_ | refine L2.i_fs ?_ | refine L2.zqs ?_ | refine L2.i_din ?_ | refine L2.zoI ?_ | refine L2.zr5 ?_ | refine L2.i_dpop ?_ | refine L2.zr8 ?_ | refine L2.zqu ?_ | refine L2.zsa ?_ | refine L2.i_tru ?_ | refine L2.i_CB ?_ | refine L2.i_lst ?_ | refine L2.i_tup ?_ | refine L2.i_rI0 ?_ | refine L2.i_rU ?_ | refine L2.zqe ?_ | refine L2.zrH ?_ | refine L2.i_neI ?_ | refine L2.i_eqB ?_ | refine L2.i_neB ?_ | refine L2.i_eqS ?_ | refine L2.i_neS ?_)
  | ((with_reducible refine L2.ziM ?_ ?_); focus (first | exact Or.inl ⟨by omega, by omega⟩ | exact Or.inr ⟨by omega, by omega⟩))
  | ((with_reducible refine L2.i_mod ?_ ?_); focus omega)
  | ((with_reducible refine L2.zrG ?_ ?_ ?_); (focus omega); (focus omega))
  | ((with_reducible refine L2.i_pow ?_ ?_ ?_ ?_); (focus decide); (focus decide); (focus decide))
  | ((with_reducible refine L2.zrF (v := ?_) ?_ ?_); rotate_left; focus rfl)
  | with_reducible refine L2.goOn (by assumption) ?_)
local macro_rules | `(tactic| walk_at "go1") => `(tactic| first | with_reducible refine L2.zpD fun NX kN => ?_ | walk_at "gs1" | (refine L2.zrF (by rfl) ?_))
local macro_rules | `(tactic| walk_at "gs") => `(tactic| repeat (walk_at "gs1"))
local macro_rules | `(tactic| nofun) => `(tactic| walk_at "gs")
local macro_rules | `(tactic| walk_at "go") => `(tactic| repeat (walk_at "go1"))
local macro_rules | `(tactic| ac_rfl) => `(tactic| walk_at "go")
local macro_rules | `(tactic| walk_at "sc") => `(tactic| exact ⟨rfl, rfl, rfl, by decide +kernel, rfl, by decide +kernel, by decide +kernel⟩)
local macro_rules | `(tactic| walk_at "q") => `(tactic| ((try with_reducible refine L2.goOn (by assumption) ?_); with_reducible refine L2.zpD fun NX kN => ?_))
local macro_rules | `(tactic| walk_at "sm") => `(tactic| first | exact L2.sl rfl | exact L2.zaq (by simp))
namespace My
open PySem L2 PyProof.Rows
variable {us:List Value}
theorem len0(h:us.length=0):us=[]:=List.eq_nil_of_length_eq_zero h
theorem lenS{n:Nat}(h:us.length=n+1):∃ a r,us=a::r/\r.length=n:=by
 cases us with
 | nil=>cases h
 | cons a r=>exact⟨a,r,rfl,Nat.succ.inj h⟩
theorem len1(h:us.length=1):∃ a0,us=[a0]:=by
 obtain⟨a,r,rfl,k⟩:=lenS h
 obtain rfl:=len0 k
 exact⟨_,rfl⟩
theorem len2(h:us.length=2):∃ a0 a1,us=[a0,a1]:=by
 obtain⟨a,r,rfl,k⟩:=lenS h
 obtain⟨b0,rfl⟩:=len1 k
 exact⟨_,_,rfl⟩
theorem len3(h:us.length=3):∃ a0 a1 a2,us=[a0,a1,a2]:=by
 obtain⟨a,r,rfl,k⟩:=lenS h
 obtain⟨b0,b1,rfl⟩:=len2 k
 exact⟨_,_,_,rfl⟩
theorem len4(h:us.length=4):∃ a0 a1 a2 a3,us=[a0,a1,a2,a3]:=by
 obtain⟨a,r,rfl,k⟩:=lenS h
 obtain⟨b0,b1,b2,rfl⟩:=len3 k
 exact⟨_,_,_,_,rfl⟩
theorem len5(h:us.length=5):∃ a0 a1 a2 a3 a4,us=[a0,a1,a2,a3,a4]:=by
 obtain⟨a,r,rfl,k⟩:=lenS h
 obtain⟨b0,b1,b2,b3,rfl⟩:=len4 k
 exact⟨_,_,_,_,_,rfl⟩
variable {K:Fg}{α:Type}
section
open PySem PySem.Spec PySem.Calls PyProof.Rows PySem.W L2
theorem bA(hA:((zBoo K).all id,zSee K)=(true,zSig))(j:Nat){b:Bool}(h:(zBoo K)[j]?=some b):b=true:=List.all_eq_true.mp (Prod.mk.inj hA).1 b (zmg h)
theorem eA(hA:((zBoo K).all id,zSee K)=(true,zSig))(j:Nat)[BEq α][LawfulBEq α]{x y:α}(h:(zBoo K)[j]?=some (x == y)):x=y:=eq_of_beq (bA hA j h)
def fA {K:Fg}(hA:((zBoo K).all id,zSee K)=(true,zSig))(i j:Nat)(a:Addr)(n q:Str)(d:Stmt)(h1:(zSee K)[i]?=some (L2.zaI K a))(h2:zSig[i]?=some (gS n q d))(h3:(zBoo K)[j]?=some (L2.zak K a q)):=L2.zsd (n:=n) (ps:=zdf d) (b:=zb4 d) (sc:=zae d) (Option.some.inj (h1.symm.trans ((congrArg (λl:List (Option L2.Sig)=>l[i]?) (Prod.mk.inj hA).2).trans h2))) (bA hA j h3)
end
theorem zft:FSc ["line","numbers","total","factor","number"] ["line","numbers"] (zae zkr):=by walk_at "sc"
theorem zoZ:FSc ["line","numbers"] ["line","numbers"] (zae zks):=by walk_at "sc"
theorem zqN:FSc ["i"] ["i"] (zae zlb):=by walk_at "sc"
theorem zey:FSc ["lines","weights","total","line","weight"] ["lines","weights"] (zae zgz):=by walk_at "sc"
theorem zj2:FSc ["line","eight","total"] ["line","eight"] (zae zix):=by walk_at "sc"
theorem zfZ:FSc ["self","needs","leaves","deeds","notes"] ["self","needs","leaves","deeds","notes"] (zae zbB):=by walk_at "sc"
theorem zhx:FSc ["lines"] ["lines"] (zae zcl):=by walk_at "sc"
theorem zhV:FSc ["deed"] ["deed"] (zae zcC):=by walk_at "sc"
theorem zhy:FSc ["craft"] ["craft"] (zae zdg):=by walk_at "sc"
theorem zj3:FSc ["craft"] ["craft"] (zae zdJ):=by walk_at "sc"
theorem zo0:FSc ["craft"] ["craft"] (zae zkt):=by walk_at "sc"
theorem zfu:FSc ["craft","needs_right"] ["craft"] (zae zea):=by walk_at "sc"
theorem zeP:FSc ["deeds","count"] ["deeds"] (zae zcD):=by walk_at "sc"
theorem zeQ:FSc ["craft","as_many"] ["craft"] (zae zcE):=by walk_at "sc"
theorem zhW:FSc ["lines","nought_spots"] ["lines","nought_spots"] (zae zcF):=by walk_at "sc"
theorem zfv:FSc ["line","nought_spots","small"] ["line","nought_spots"] (zae zco):=by walk_at "sc"
theorem zfw:FSc ["deed","last_place","kind"] ["deed","last_place"] (zae zeb):=by walk_at "sc"
theorem zhX:FSc ["low","high"] ["low","high"] (zae zdK):=by walk_at "sc"
theorem zfx:FSc ["number","given","taken","hands"] ["number","given","taken"] (zae zec):=by walk_at "sc"
theorem zfy:FSc ["hands"] ["hands"] (zae zbM):=by walk_at "sc"
theorem zi1:FSc ["hand"] ["hand"] (zae zed):=by walk_at "sc"
theorem zhz:FSc ["number"] ["number"] (zae zdh):=by walk_at "sc"
theorem zmq:FSc ["low","number","high"] ["low","number","high"] (zae zgP):=by walk_at "sc"
theorem zj4:FSc ["craft","place","eight"] ["craft","place"] (zae zff):=by walk_at "sc"
theorem zfz:FSc ["craft","crafts","number","told","place"] ["craft","crafts"] (zae ziy):=by walk_at "sc"
theorem zez:FSc ["craft","begun"] ["craft"] (zae zdi):=by walk_at "sc"
theorem zbY:FSc ["craft","place","crafts","deed","notes","after","kind"] ["craft","place","crafts"] (zae zdL):=by walk_at "sc"
theorem zbZ:FSc ["deed","notes","after","line","by","not_above","greatest"] ["deed","notes","after"] (zae zdM):=by walk_at "sc"
theorem zdq:FSc ["deed","notes","after","from_low","to_high"] ["deed","notes","after"] (zae zdN):=by walk_at "sc"
theorem zeR:FSc ["line","notes","there","after","below_nought"] ["line","notes","there","after"] (zae zdO):=by walk_at "sc"
theorem zbD:FSc ["deed","notes","after","other","given","taken","giving","taking","before"] ["deed","notes","after","other"] (zae zdP):=by walk_at "sc"
theorem zj5:FSc ["goals","hypotheses"] ["goals","hypotheses"] (zae zdQ):=by walk_at "sc"
theorem zi2:FSc ["lines","eight"] ["lines","eight"] (zae zc3):=by walk_at "sc"
theorem zi3:FSc ["changes"] ["changes"] (zae zc4):=by walk_at "sc"
theorem zkY:FSc ["number"] ["number"] (zae zfH):=by walk_at "sc"
theorem zcb:FSc ["duty","row","goal","hypotheses","whole","weights","rest"] ["duty","row"] (zae zeT):=by walk_at "sc"
theorem zfA:FSc ["duty","rows_of_weights","whole","weights"] ["duty"] (zae ziz):=by walk_at "sc"
theorem zbz:FSc ["count","found","bit"] ["count"] (zae zbo):=by walk_at "sc"
theorem zgs:FSc ["self"] ["self"] (zae zcL):=by walk_at "sc"
theorem zkZ:FSc ["self","number","craft"] ["self","number","craft"] (zae zfI):=by walk_at "sc"
theorem zgt:FSc ["self"] ["self"] (zae zcM):=by walk_at "sc"
theorem zdr:FSc ["self","told","number"] ["self"] (zae zdR):=by walk_at "sc"
theorem zi4:FSc ["self","number","rows"] ["self","number","rows"] (zae zee):=by walk_at "sc"
theorem zgk:FSc ["self","number","rows"] ["self","number"] (zae zcN):=by walk_at "sc"
theorem zj6:FSc ["self","number"] ["self","number"] (zae zeU):=by walk_at "sc"
theorem zcJ:FSc ["self","number","reached","waiting","other"] ["self","number"] (zae zef):=by walk_at "sc"
theorem zi5:FSc ["self","number"] ["self","number"] (zae zc5):=by walk_at "sc"
theorem zfB:FSc ["self","number"] ["self","number"] (zae zcg):=by walk_at "sc"
theorem zf0:FSc ["self","number"] ["self","number"] (zae zct):=by walk_at "sc"
theorem zf1:FSc ["self","number"] ["self","number"] (zae zcu):=by walk_at "sc"
theorem zhA:FSc ["self","number"] ["self","number"] (zae zdj):=by walk_at "sc"
theorem zcc:FSc ["self","number","caller"] ["self","number"] (zae zbE):=by walk_at "sc"
theorem zj7:FSc ["craft","other"] ["craft","other"] (zae zeV):=by walk_at "sc"
theorem zj8:FSc ["due","rows"] ["due","rows"] (zae zdS):=by walk_at "sc"
theorem zf2:FSc ["self","number","asked"] ["self","number","asked"] (zae zcv):=by walk_at "sc"
theorem zgu:FSc ["self"] ["self"] (zae zcO):=by walk_at "sc"
theorem zhB:FSc ["self","hall","number","given","inputs"] ["self","hall","number","given","inputs"] (zae zdk):=by walk_at "sc"
theorem zj9:FSc ["self","fuel"] ["self","fuel"] (zae ziA):=by walk_at "sc"
theorem zka:FSc ["self"] ["self"] (zae zeW):=by walk_at "sc"
theorem zcY:FSc ["self","frame","deed","kind","given"] ["self"] (zae zfJ):=by walk_at "sc"
theorem ziv:FSc ["self","hand","number","frame"] ["self","hand","number"] (zae zgQ):=by walk_at "sc"
theorem zhC:FSc ["self","hand","low","high","drawn"] ["self","hand","low","high"] (zae zfK):=by walk_at "sc"
theorem zhD:FSc ["self","line","frame"] ["self","line"] (zae zfL):=by walk_at "sc"
theorem zk0:FSc ["self","number","given"] ["self","number","given"] (zae zfM):=by walk_at "sc"
theorem zkb:FSc ["self","number","given"] ["self","number","given"] (zae zeX):=by walk_at "sc"
theorem zeS:FSc ["self","place","frame"] ["self","place"] (zae zdT):=by walk_at "sc"
theorem zbT:FSc ["self","frame"] ["self"] (zae zbr):=by walk_at "sc"
theorem zdG:FSc ["self","frame"] ["self"] (zae zcw):=by walk_at "sc"
theorem zgl:FSc ["self","frame"] ["self"] (zae zeY):=by walk_at "sc"
theorem zfd:FSc ["self","left_0","left_1","frame","taken"] ["self","left_0","left_1"] (zae zfN):=by walk_at "sc"
theorem zhE:FSc ["self","frame"] ["self","frame"] (zae zdl):=by walk_at "sc"
theorem zeA:FSc ["self","word","lines","numbers","unmet","frame"] ["self","word","lines","numbers"] (zae zeZ):=by walk_at "sc"
theorem zds:FSc ["lines","numbers","spot","line"] ["lines","numbers"] (zae zdU):=by walk_at "sc"
theorem zgv:FSc ["asked"] ["asked"] (zae zcP):=by walk_at "sc"
theorem zkc:FSc ["script","k"] ["script","k"] (zae ze0):=by walk_at "sc"
theorem znO:FSc ["i"] ["i"] (zae zgA):=by walk_at "sc"
theorem zf3:FSc ["e","told"] ["e"] (zae zgR):=by walk_at "sc"
theorem zgn:FSc ["hall","number","rows","e"] ["hall","number","rows"] (zae ze1):=by walk_at "sc"
theorem zfC:FSc ["many","more","deeds"] ["many","more"] (zae zeg):=by walk_at "sc"
theorem zfD:FSc ["hall","number","e"] ["hall","number"] (zae zeh):=by walk_at "sc"
theorem zeI:FSc ["hall","number","other","gone","rows"] ["hall","number","other"] (zae zgS):=by walk_at "sc"
theorem zeB:FSc ["script","many","more","number","other","hall","rows","spoilt","given","run"] ["script"] (zae zku):=by walk_at "sc"
structure Bl (K:Fg)(mg:Str->Option Value):Prop where
 ValueError:mg "ValueError"=none
 all:mg "all"=none
 any:mg "any"=none
 enumerate:mg "enumerate"=none
 int:mg "int"=none
 isinstance:mg "isinstance"=none
 len:mg "len"=none
 list:mg "list"=none
 min:mg "min"=none
 range:mg "range"=none
 sorted:mg "sorted"=none
 tuple:mg "tuple"=none
 zip:mg "zip"=none
 c_NUMBERS:∃ t,mg "NUMBERS"=some (.int 9 t)
 c_FACTORS:∃ t,mg "FACTORS"=some (.int 8 t)
 c_MOST_LINES:∃ t,mg "MOST_LINES"=some (.int 2 t)
 c_MOST_DEEDS:∃ t,mg "MOST_DEEDS"=some (.int 8 t)
 c_LAST_HAND:∃ t,mg "LAST_HAND"=some (.int 3 t)
 c_LAST_NUMBER:∃ t,mg "LAST_NUMBER"=some (.int 99 t)
 c_GREATEST_BY:∃ t,mg "GREATEST_BY"=some (.int 1000 t)
 c_GREATEST:∃ t,mg "GREATEST"=some (.int 1000000000 t)
 c_ASKED_0:∃ t,mg "ASKED_0"=some (.int 4 t)
 c_ASKED_1:∃ t,mg "ASKED_1"=some (.int 5 t)
 c_NEW_0:∃ t,mg "NEW_0"=some (.int 6 t)
 c_NEW_1:∃ t,mg "NEW_1"=some (.int 7 t)
 c_MOST_FRAMES:∃ t,mg "MOST_FRAMES"=some (.int 20 t)
 t_HAND_SPOTS:∃ a,mg "HAND_SPOTS"=some (.ref a)/\∀ H,SqT K H a [.int 1,.int 2,.int 3,.int 4]
 t_LEFT_SPOTS:∃ a,mg "LEFT_SPOTS"=some (.ref a)/\∀ H,SqT K H a [.int 7,.int 8]
 t_LEFT_AS_HANDS:∃ a,mg "LEFT_AS_HANDS"=some (.ref a)/\∀ H,SqT K H a [.int 0,.int 1,.int 2,.int 3,.int 4,.int 5,.int 0,.int 1]
 t_WHOLES:∃ a,mg "WHOLES"=some (.ref a)/\∀ H,SqT K H a [.int 1,.int 2,.int 3,.int 4]
structure Zt (K:Fg)(mg:Str->Option Value)(C:Nat->Addr):Prop where
 c_Craft:Cls K (C 0)
 m_Craft:mg "Craft"=some (.ref (C 0))
 n_Craft_needs:zbW K (C 0) "needs"
 n_Craft_leaves:zbW K (C 0) "leaves"
 n_Craft_deeds:zbW K (C 0) "deeds"
 n_Craft_notes:zbW K (C 0) "notes"
 e_HallError:Err K (C 1) zbl
 m_HallError:mg "HallError"=some (.ref (C 1))
 i_HallError:ErrIs2 K (C 1)
 e_BadSheet:Err K (C 2) (.ref (C 1)::zbl)
 m_BadSheet:mg "BadSheet"=some (.ref (C 2))
 i_BadSheet:ErrIs2 K (C 2)
 e_NoCraft:Err K (C 3) (.ref (C 1)::zbl)
 m_NoCraft:mg "NoCraft"=some (.ref (C 3))
 i_NoCraft:ErrIs2 K (C 3)
 e_Unmet:Err K (C 4) (.ref (C 1)::zbl)
 m_Unmet:mg "Unmet"=some (.ref (C 4))
 i_Unmet:ErrIs2 K (C 4)
 e_NotShown:Err K (C 5) (.ref (C 1)::zbl)
 m_NotShown:mg "NotShown"=some (.ref (C 5))
 i_NotShown:ErrIs2 K (C 5)
 e_Unfit:Err K (C 6) (.ref (C 1)::zbl)
 m_Unfit:mg "Unfit"=some (.ref (C 6))
 i_Unfit:ErrIs2 K (C 6)
 c_Hall:Cls K (C 7)
 m_Hall:mg "Hall"=some (.ref (C 7))
 n_Hall_laid:zbW K (C 7) "laid"
 n_Hall_vouched:zbW K (C 7) "vouched"
 c_Frame:Cls K (C 8)
 m_Frame:mg "Frame"=some (.ref (C 8))
 n_Frame_number:zbW K (C 8) "number"
 n_Frame_place:zbW K (C 8) "place"
 n_Frame_hands:zbW K (C 8) "hands"
 n_Frame_asked:zbW K (C 8) "asked"
 c_Run:Cls K (C 9)
 m_Run:mg "Run"=some (.ref (C 9))
 n_Run_known:zbW K (C 9) "known"
 n_Run_inputs_left:zbW K (C 9) "inputs_left"
 n_Run_stack:zbW K (C 9) "stack"
 n_Run_steps_done:zbW K (C 9) "steps_done"
 n_Run_ending:zbW K (C 9) "ending"
 nd:[C 1,C 2,C 3,C 4,C 5,C 6].Nodup
variable {n i k0 k1 g many w x:Int}{b p c a la na f:Addr}{H:Hp}{Q:VK}{E:XK}{C:Nat->Addr}{xs:List V}{v:V}{P:List Int->Prop}{l l0 l1 ks ns:List Int}{cr:Int->Cr}{mg:Str->Option Value}
section
variable {P:Program}{w:World}{b8:Heap}{fd:FuncData}(B:Bl K mg)(Z:Zt K mg C)
inductive Q9 (K:Fg)(vs:List V)(H:Hp)(Q:VK)(E:XK):Prop
 | mk (a:Addr) (ls:List (List Int)):vs=[.ref a]->Rep K H (zaF ls) (.ref a)->ls.length<=1000->(∀ v H',Same H H'->New H H' (zaF ls) v->Q v H')->Q9 K vs H Q E
include B Z in
theorem zhF (F:Fun K "copied_lines" "copied_lines" zcl f fd)(m:mg "copied_lines"=some (.ref f)):Fn P w K mg b8 "copied_lines" ["lines"] 1 (Q9 K):=by
 refine Fn.of (k:=0) F zhx m (λ_ _ _ _ _ _ us hl=>(by obtain⟨_,rfl⟩:=len1 hl;rfl)) (λvs H Q E h=>?_) (λcdv A outer s H vs Q E hr h=>?_)
 ·first
  | (obtain⟨_,_,rfl,_⟩:=h;rfl)
 obtain⟨a,ls,rfl,hA,hl,q⟩:=h
 refine⟨_,(zag (zan (za6 rfl (COk.m (sc0:=zae zcl) (N:=["lines"]) (N':=["lines","line"]) (ms:=[false,true])) (za8 K (pv 0)) (λ_ _ _ _ _=>(zaD (i:=1) (ndS (N:=["lines","line"])))) (λ_ _ _ _ _=>zaN) (λ_ _ _ _ _=>(zcS (zlo K) rfl B.list L2.zdw (zab (pv 1) zaa)))))),?_⟩
 unfold zaF Rep at hA
 obtain⟨a',xs,e,hA,hx⟩:=hA
 cases e
 have lx:=hx.length
 rw[zlm] at lx
 ac_rfl
 refine⟨a,rfl,⟨_,hA⟩,?_⟩
 refine zaW (zaZ hA) (ls.map nums) (by rw[zlm];omega) (zaq (by omega)) (λj x' d H4 R hj hd s4 hx' hR=>?_) (λv H4 s4 n4=>?_)
 ·obtain⟨d2,hd2,hrx⟩:=Reps.get' hx hx'
  rw[hd2] at hd;cases hd
  rw[zgm] at hd2
  obtain⟨l,hl,rfl⟩:=zme.mp hd2
  obtain⟨xa,rfl,hxa⟩:=zbd.mp (Rep.same s4 _ hrx)
  ac_rfl
  refine zgI (.inl hxa) λp hp=>?_
  exact hR _ _ (zah hp _) (New.iif.mpr ⟨p,rfl,hp,zac⟩)
 exact q _ _ s4 n4
inductive Qb (K:Fg)(vs:List V)(H:Hp)(Q:VK)(E:XK):Prop
 | mk (v:V) (d:D):vs=[v]->zch H d v->(∀ v' H',Same H H'->New H H' d v'->Q v' H')->Qb K vs H Q E
include B Z in
theorem zhY (F:Fun K "copied_deed" "copied_deed" zcC f fd)(m:mg "copied_deed"=some (.ref f)):Fn P w K mg b8 "copied_deed" ["deed"] 1 (Qb K):=by
 refine Fn.of (k:=0) F zhV m (λ_ _ _ _ _ _ us hl=>(by obtain⟨_,rfl⟩:=len1 hl;rfl)) (λvs H Q E h=>?_) (λcdv A outer s H vs Q E hr h=>?_)
 ·first
  | (obtain⟨_,_,rfl,_⟩:=h;rfl)
 obtain⟨v,d,rfl,hd,q⟩:=h
 refine⟨_,(zag (zan (zcS (zqi K) rfl B.tuple L2.zl6 (zcy (za6 rfl (COk.m (sc0:=zae zcC) (N:=["deed"]) (N':=["deed","part"]) (ms:=[false,true])) (zjF K (pv 0)) (λ_ _ _ _ _=>(zaD (i:=1) (ndS (N:=["deed","part"])))) (λ_ _ _ _ _=>zaN) (λ_ _ _ _ _=>(ziC (zcp (zaw (k_isi K) rfl B.isinstance L2.zbj (zab (pv 1) (zab (zmB (v:=.ty "list") rfl B.list L2.zdw rfl) zaa)))) (zcS (zlo K) rfl B.list L2.zdw (zab (pv 1) zaa)) (pv 1)))) zaa)))),?_⟩
 obtain⟨t,xs,ds,rfl,rfl,ht,hl,h8,hp⟩:=hd
 ac_rfl
 refine⟨t,rfl,⟨_,SqT.of ht⟩,?_⟩
 refine zaW (zfk (SqT.of ht)) ds hl (zaq (by omega)) (λj x d H1 R hj hd s1 hx hR=>?_) (λv H1 s1 n1=>?_)
 ·have part:=(hp j d x hd hx).sq s1.sq
  ac_rfl
  rcases part with ⟨i,rfl,rfl⟩ | ⟨i,rfl,rfl⟩ | ⟨b,l,rfl,rfl,hb⟩ | ⟨b,i,k,rfl,rfl,hb⟩
  ·refine zoy (.int i) zjJ ?_
   ac_rfl
   exact hR _ _ (Same.refl _) New.int
  ·refine zoy (.str i) zjK ?_
   ac_rfl
   exact hR _ _ (Same.refl _) New.str
  ·refine zoy (.lst hb) zoC ?_
   ac_rfl
   refine zgI (.inl (SqL.of hb)) λp hp'=>?_
   exact hR _ _ (zah hp' _) (New.iif.mpr ⟨p,rfl,hp',zac⟩)
  ·refine zoy (.tup hb) zhP ?_
   ac_rfl
   exact hR _ _ (Same.refl _) ⟨[],RepF.pair hb,List.nodup_nil,λ_ m=>by cases m⟩
 obtain⟨la,vs,rfl,la0,la1,fp,f1,f2,f3⟩:=New.news n1
 ac_rfl
 refine zoE (SqL.of la1) λp hp'=>?_
 have s2:=zah hp' (.tup vs)
 exact q _ _ (s1.trans s2) (New.tup (zaj.sq s2.sq ds f1) f2 f3 zac)
inductive Q8 (K:Fg)(C:Nat->Addr)(vs:List V)(H:Hp)(Q:VK)(E:XK):Prop
 | mk (p dx:Addr) (v1 v2 v3 v4:V) (needs leaves:List (List Int)) (deeds:List D) (notes:List (List (List Int))) (a3 a4:Addr) (dvs nvs:List V):vs=[.ref p,v1,v2,v3,v4]->H p=some (.ins (C 0) dx [])->Rep K H (zaF needs) v1->Rep K H (zaF leaves) v2->v3=.ref a3->SqL K H a3 dvs->v4=.ref a4->SqL K H a4 nvs->needs.length<=1000->leaves.length<=1000->deeds.length<=1000->notes.length<=1000->deeds.length=dvs.length->notes.length=nvs.length->(∀ (i:Nat) d x,deeds[i]?=some d->dvs[i]?=some x->zch H d x)->(∀ (i:Nat) ls x,notes[i]?=some ls->nvs[i]?=some x->ls.length<=1000/\Rep K H (zaF ls) x)->(∀ H' w1 w2 w3 w4,(∀ b o,H b=some o->b≠p->H' b=some o)->H' p=some (.ins (C 0) dx (flds w1 w2 w3 w4))->News H H' (znG needs leaves deeds notes) [w1,w2,w3,w4]->Q .non H')->Q8 K C vs H Q E
variable (Qa:Fn P w K mg b8 "copied_lines" ["lines"] 1 (Q9 K))
include B Z Qa in
theorem zo1 (Qc:Fn P w K mg b8 "copied_deed" ["deed"] 1 (Qb K))(F:Fun K "__init__" "Craft.__init__" zbB f fd)(M:Mk K (C 0) f):Mkr P w K mg b8 "Craft" (C 0) ["self","needs","leaves","deeds","notes"] 2 (Q8 K C):=by
 refine⟨f,fd,M,F.ok (k:=1) zfZ (λvs H Q E h=>?_) (λcdv A outer s H vs Q E hr h=>?_),F.binds λ_ _ _ _ _ _ us hl=>(by obtain⟨_,_,_,_,_,rfl⟩:=len5 hl;rfl),Z.m_Craft⟩
 ·first
  | (obtain⟨_,_,_,_,_,_,_,_,_,_,_,_,_,_,rfl,_⟩:=h;rfl)
 obtain⟨p,dx,v1,v2,v3,v4,needs,leaves,deeds,notes,a3,a4,dvs,nvs,rfl,hp,r1,r2,rfl,h3,rfl,h4,l1,l2,l3,l4,e3,e4,dr,nr,q⟩:=h
 refine⟨_,(zaf (zbG (pv 0) (zap Qa hr rfl (zab (pv 1) zaa)) rfl)
   (zaf (zbG (pv 0) (zap Qa hr rfl (zab (pv 2) zaa)) rfl)
   (zaf (zbG (pv 0) (za6 rfl (COk.m (sc0:=zae zbB) (N:=["self","needs","leaves","deeds","notes"]) (N':=["self","needs","leaves","deeds","notes","deed"]) (ms:=[false,false,false,false,false,true])) (za8 K (pv 3)) (λ_ _ _ _ _=>(zaD (i:=5) (ndS (N:=["self","needs","leaves","deeds","notes","deed"])))) (λ_ _ _ _ _=>zaN) (λ_ _ _ _ _=>(zap Qc hr rfl (zab (pv 5) zaa)))) rfl)
   (zag (zbG (pv 0) (za6 rfl (COk.m (sc0:=zae zbB) (N:=["self","needs","leaves","deeds","notes"]) (N':=["self","needs","leaves","deeds","notes","lines"]) (ms:=[false,false,false,false,false,true])) (za8 K (pv 4)) (λ_ _ _ _ _=>(zaD (i:=5) (ndS (N:=["self","needs","leaves","deeds","notes","lines"])))) (λ_ _ _ _ _=>zaN) (λ_ _ _ _ _=>(zap Qa hr rfl (zab (pv 5) zaa)))) rfl))))),?_⟩
 obtain⟨b1,rfl⟩:∃ b,v1=.ref b:=by unfold zaF Rep at r1;obtain⟨a,_,e,_⟩:=r1;exact⟨a,e⟩
 obtain⟨b2,rfl⟩:∃ b,v2=.ref b:=by unfold zaF Rep at r2;obtain⟨a,_,e,_⟩:=r2;exact⟨a,e⟩
 ac_rfl
 -- self.needs
 refine⟨b1,needs,rfl,r1,l1,λw1 H1 s1 n1=>?_⟩
 ac_rfl
 refine⟨p,(C 0),dx,[],rfl,s1 _ _ hp,Z.c_Craft,Z.n_Craft_needs,by show 0<1000;decide,?_⟩
 have k1:Sq H (upd H1 p (.ins (C 0) dx (putF "needs" w1 []))):=s1.sq.trans (zeM (s1 _ _ hp) rfl)
 have u1:News H (upd H1 p (.ins (C 0) dx (putF "needs" w1 []))) [zaF needs] [w1]:=(News.nil.snoc' (H:=H) (H1:=H) (Same.refl H).fr s1 n1).sq (zeM (s1 _ _ hp) rfl)
 have f1:Free H (upd H1 p (.ins (C 0) dx (putF "needs" w1 []))):=s1.fr.trans zda
 -- self.leaves
 ac_rfl
 refine⟨b2,leaves,rfl,Rep.sq k1 _ r2,l2,λw2 H2 s2 n2=>?_⟩
 have p2:=s2 _ _ (zac (H:=H1) (a:=p) (o:=.ins (C 0) dx (putF "needs" w1 [])))
 ac_rfl
 refine⟨p,(C 0),dx,_,rfl,p2,Z.c_Craft,Z.n_Craft_leaves,Nat.lt_of_lt_of_le (za2 (n:=1) (by decide)) (by decide),?_⟩
 have k2:=k1.trans (s2.sq.trans (zeM (o:=.ins (C 0) dx (putF "leaves" w2 (putF "needs" w1 []))) p2 rfl))
 have u2:=(u1.snoc' f1 s2 n2).sq (zeM (o:=.ins (C 0) dx (putF "leaves" w2 (putF "needs" w1 []))) p2 rfl)
 have f2:Free H (upd H2 p (.ins (C 0) dx (putF "leaves" w2 (putF "needs" w1 [])))):=f1.trans (s2.fr.trans zda)
 -- self.deeds
 ac_rfl
 refine⟨a3,rfl,⟨_,k2.lst h3⟩,?_⟩
 refine zaW (zaZ (k2.lst h3)) deeds e3 (zaq (by omega)) (λj x d H3 R hj hd s3 hx hR=>?_) (λw3 H3 s3 n3=>?_)
 ·ac_rfl
  refine⟨x,d,rfl,(dr j d x hd hx).sq (k2.trans s3.sq),λv' H4 s4 n4=>?_⟩
  exact hR _ _ s4 n4
 have p3:=s3 _ _ (zac (H:=H2) (a:=p) (o:=.ins (C 0) dx (putF "leaves" w2 (putF "needs" w1 []))))
 ac_rfl
 refine⟨p,(C 0),dx,_,rfl,p3,Z.c_Craft,Z.n_Craft_deeds,Nat.lt_of_lt_of_le (za2 (n:=2) (za2 (n:=1) (by decide))) (by decide),?_⟩
 have k3:=k2.trans (s3.sq.trans (zeM (o:=.ins (C 0) dx (putF "deeds" w3 (putF "leaves" w2 (putF "needs" w1 [])))) p3 rfl))
 have u3:=(u2.snoc' f2 s3 n3).sq (zeM (o:=.ins (C 0) dx (putF "deeds" w3 (putF "leaves" w2 (putF "needs" w1 [])))) p3 rfl)
 have f3:Free H (upd H3 p (.ins (C 0) dx (putF "deeds" w3 (putF "leaves" w2 (putF "needs" w1 []))))):=f2.trans (s3.fr.trans zda)
 -- self.notes
 ac_rfl
 refine⟨a4,rfl,⟨_,k3.lst h4⟩,?_⟩
 refine zaW (zaZ (k3.lst h4)) (notes.map zaF) (by rw[zlm];exact e4) (zaq (by omega)) (λj x d H4 R hj hd s4 hx hR=>?_) (λw4 H4 s4 n4=>?_)
 ·rw[zgm] at hd
  obtain⟨ls,hls,rfl⟩:=zme.mp hd
  obtain⟨hz,hr2⟩:=nr j ls x hls hx
  have hr3:=Rep.sq (k3.trans s4.sq) _ hr2
  obtain⟨b,rfl⟩:∃ b,x=.ref b:=by unfold zaF Rep at hr3;obtain⟨a,_,e,_⟩:=hr3;exact⟨a,e⟩
  ac_rfl
  refine⟨b,ls,rfl,hr3,hz,λv' H5 s5 n5=>?_⟩
  exact hR _ _ s5 n5
 have p4:=s4 _ _ (zac (H:=H3) (a:=p) (o:=.ins (C 0) dx (putF "deeds" w3 (putF "leaves" w2 (putF "needs" w1 [])))))
 ac_rfl
 refine⟨p,(C 0),dx,_,rfl,p4,Z.c_Craft,Z.n_Craft_notes,Nat.lt_of_lt_of_le (za2 (n:=3) (za2 (n:=2) (za2 (n:=1) (by decide)))) (by decide),?_⟩
 have u4:=(u3.snoc' f3 s4 n4).sq (zeM (o:=.ins (C 0) dx (putF "notes" w4 (putF "deeds" w3 (putF "leaves" w2 (putF "needs" w1 []))))) p4 rfl)
 refine q _ w1 w2 w3 w4 (λb o e hb=>?_) zac u4
 rw[zai hb]
 refine s4 _ _ ?_
 rw[zai hb]
 refine s3 _ _ ?_
 rw[zai hb]
 refine s2 _ _ ?_
 rw[zai hb]
 exact s1 _ _ e
def MulOk (fs ns:List Int):Prop:=∀ (i:Nat) (f n:Int),fs[i]?=some f->ns[i]?=some n->CMul f n
def spW (K:Fg)(R:Int->V):Sp:=λvs H Q _=>∃ (a b:Addr) (c:Int) (fs ns:List Int),vs=[.ref a,.ref b]/\SqL K H a ((c::fs).map V.int)/\SqL K H b (ns.map V.int)/\fs.length=8/\ns.length=8/\MulOk fs ns/\
 ∀ H',Same H H'->Q (R (c+dot fs ns)) H'
def zgN (K:Fg):Sp:=spW K .int
include B Z in
theorem zo2 (F:Fun K "worth" "worth" zkr f fd)(m:mg "worth"=some (.ref f)):Fn P w K mg b8 "worth" ["line","numbers"] 1 (zgN K):=by
 refine Fn.of (k:=0) F zft m (λ_ _ _ _ _ _ us hl=>(by obtain⟨_,_,rfl⟩:=len2 hl;rfl)) (λvs H Q E h=>?_) (λcdv A outer s H vs Q E hr h=>?_)
 ·first
  | (obtain⟨rfl,_⟩:=h;rfl)
  | (obtain⟨_,rfl,_⟩:=h;rfl)
  | (obtain⟨_,_,rfl,_⟩:=h;rfl)
  | (obtain⟨_,_,_,rfl,_⟩:=h;rfl)
  | (obtain⟨_,_,_,_,rfl,_⟩:=h;rfl)
  | (obtain⟨_,_,_,_,_,rfl,_⟩:=h;rfl)
  | (obtain⟨_,_,_,_,_,_,rfl,_⟩:=h;rfl)
  | (obtain⟨_,_,_,_,_,_,_,rfl,_⟩:=h;rfl)
  | (obtain⟨_,_,_,_,_,_,_,_,rfl,_⟩:=h;rfl)
  | (obtain⟨_,_,_,_,_,_,_,_,_,rfl,_⟩:=h;rfl)
  | (obtain⟨_,_,_,_,_,_,_,_,_,_,rfl,_⟩:=h;rfl)
  | (obtain⟨_,_,_,_,_,_,_,_,_,_,_,rfl,_⟩:=h;rfl)
  | (obtain⟨_,_,_,_,_,_,_,_,_,_,_,_,rfl,_⟩:=h;rfl)
  | (obtain⟨_,_,_,_,_,_,_,_,_,_,_,_,_,rfl,_⟩:=h;rfl)
  | (obtain⟨_,_,_,_,_,_,_,_,_,_,_,_,_,_,rfl,_⟩:=h;rfl)
  | (obtain⟨_,_,_,_,_,_,_,_,_,_,_,_,_,_,_,rfl,_⟩:=h;rfl)
  | (obtain⟨_,_,_,_,_,_,_,_,_,_,_,_,_,_,_,_,rfl,_⟩:=h;rfl)
 obtain⟨a,b,c,fs,ns,rfl,hA,hB,lf,ln,mo,q⟩:=h
 refine⟨_,(zaf (zas (i:=2) zft.nd (zav (k_ix K) (pv 0) zad))
   (zaf (zej PassesOwn.never rfl (zlp K rfl B.zip (zaH (zfh (k_sl K) (pv 0) (zg0 zad) zgZ) (zab (pv 1) zaa))) (zjG K (n:=2) rfl (zcm (zaD (i:=3) zft.nd) (zcm (zaD (i:=4) zft.nd) zgU))) (zag (zas (i:=2) zft.nd (zaQ (zaX K) (pv 2) (zaQ zc9 (pv 3) (pv 4))))))
   (zag (zan (pv 2))))),?_⟩
 ac_rfl
 refine zbX hA (v:=.int c) zbs ?_
 ac_rfl
 ac_rfl
 refine .inl ⟨a,_,rfl,hA,λp hp=>?_⟩
 have s1:=zah hp (.lst (cutV ((c::fs).map V.int) (some 1) none))
 have ec:cutV ((c::fs).map V.int) (some 1) none=fs.map V.int:=by
  unfold cutV
  rw[show HT.sIx ((c::fs).map V.int).length 0 (some 1)=1 by rw[show (1:Int)=((1:Nat):Int) by rfl,HT.sIx_nat];simp]
  rw[HT.sIx_none]
  simp[List.take_of_length_le]
 rw[ec] at s1 ⊢
 ac_rfl
 refine⟨p,b,rfl,⟨_,SqL.of zac⟩,⟨_,s1.seq hB⟩,?_⟩
 refine zfT (zgH (n:=8) (SqL.of zac) (s1.seq hB) (by simp[lf,ln])) (λi σ H2=>∃ x y,σ=[some (.ref a),some (.ref b),some (.int (c+dot (fs.take i) (ns.take i))),x,y]/\Same (upd H p (.lst (fs.map V.int))) H2)
  ⟨none,none,by simp[dot];rfl,Same.refl _⟩ (λi σ H2 ⟨_,_,_,e⟩=>e) ?_ ?_
 ·rintro i v σ H2 H3 hi ⟨x,y,rfl,s2⟩ s3 ⟨T,u,z,rfl,hT,eu,ez⟩
  rw[zgm] at eu ez
  obtain⟨f,hf,rfl⟩:=zme.mp eu
  obtain⟨n,hn,rfl⟩:=zme.mp ez
  refine⟨T,_,rfl,SqT.of hT,rfl,⟨_,_,rfl,?_⟩⟩
  refine⟨_,_,rfl,?_⟩
  refine⟨rfl,?_⟩
  ac_rfl
  refine ziM (mo i f n hf hn) ?_
  ac_rfl
  refine⟨some (.int f),some (.int n),?_,s2.trans s3⟩
  rw[zfm fs ns i f n hf hn,Int.add_assoc]
  rfl
 ·rintro σ H2 ⟨x,y,rfl,s2⟩
  ac_rfl
  rw[List.take_of_length_le (by omega),List.take_of_length_le (by omega)]
  exact q _ (s1.trans s2)
def zgO (K:Fg):Sp:=spW K λt=>.bl (decide (0<=t))
variable (Q0:Fn P w K mg b8 "worth" ["line","numbers"] 1 (zgN K))
include B Z Q0 in
theorem zo3 (F:Fun K "holds" "holds" zks f fd)(m:mg "holds"=some (.ref f)):Fn P w K mg b8 "holds" ["line","numbers"] 2 (zgO K):=by
 refine Fn.of (k:=1) F zoZ m (λ_ _ _ _ _ _ us hl=>(by obtain⟨_,_,rfl⟩:=len2 hl;rfl)) (λvs H Q E h=>?_) (λcdv A outer s H vs Q E hr h=>?_)
 ·first
  | (obtain⟨rfl,_⟩:=h;rfl)
  | (obtain⟨_,rfl,_⟩:=h;rfl)
  | (obtain⟨_,_,rfl,_⟩:=h;rfl)
  | (obtain⟨_,_,_,rfl,_⟩:=h;rfl)
  | (obtain⟨_,_,_,_,rfl,_⟩:=h;rfl)
  | (obtain⟨_,_,_,_,_,rfl,_⟩:=h;rfl)
  | (obtain⟨_,_,_,_,_,_,rfl,_⟩:=h;rfl)
  | (obtain⟨_,_,_,_,_,_,_,rfl,_⟩:=h;rfl)
  | (obtain⟨_,_,_,_,_,_,_,_,rfl,_⟩:=h;rfl)
  | (obtain⟨_,_,_,_,_,_,_,_,_,rfl,_⟩:=h;rfl)
  | (obtain⟨_,_,_,_,_,_,_,_,_,_,rfl,_⟩:=h;rfl)
  | (obtain⟨_,_,_,_,_,_,_,_,_,_,_,rfl,_⟩:=h;rfl)
  | (obtain⟨_,_,_,_,_,_,_,_,_,_,_,_,rfl,_⟩:=h;rfl)
  | (obtain⟨_,_,_,_,_,_,_,_,_,_,_,_,_,rfl,_⟩:=h;rfl)
  | (obtain⟨_,_,_,_,_,_,_,_,_,_,_,_,_,_,rfl,_⟩:=h;rfl)
  | (obtain⟨_,_,_,_,_,_,_,_,_,_,_,_,_,_,_,rfl,_⟩:=h;rfl)
  | (obtain⟨_,_,_,_,_,_,_,_,_,_,_,_,_,_,_,_,rfl,_⟩:=h;rfl)
 obtain⟨a,b,c,fs,ns,rfl,hA,hB,lf,ln,mo,q⟩:=h
 refine⟨_,(zag (zan (zbe zrc (zap Q0 hr rfl (zab (pv 0) (zab (pv 1) zaa))) zad (zat _)))),?_⟩
 ac_rfl
 refine⟨a,b,c,fs,ns,rfl,hA,hB,lf,ln,mo,λH' s1=>?_⟩
 ac_rfl
 exact q H' s1
def zeC (K:Fg):Sp:=λvs H Q _=>∃ i:Int,vs=[.int i]/\∀ v H',Same H H'->New H H' (nums (zaC i)) v->Q v H'
theorem zdd(q:∀ v H',Same H H'->New H H' (nums (zaC i)) v->Q v H'):zeC K [.int i] H Q E:=⟨i,rfl,q⟩
include B Z in
theorem zqO (F:Fun K "bare" "bare" zlb f fd)(m:mg "bare"=some (.ref f)):Fn P w K mg b8 "bare" ["i"] 1 (zeC K):=by
 refine Fn.of (k:=0) F zqN m (λ_ _ _ _ _ _ us hl=>(by obtain⟨_,rfl⟩:=len1 hl;rfl)) (λvs H Q E h=>?_) (λcdv A outer s H vs Q E hr h=>?_)
 ·first
  | (obtain⟨_,rfl,_⟩:=h;rfl)
 obtain⟨i,rfl,q⟩:=h
 refine⟨_,(zag (zan (zaQ (zaX K) (zaR (zam zad zaa)) (za6 rfl (COk.m (sc0:=zae zlb) (N:=["i"]) (N':=["i","factor"]) (ms:=[false,true])) (zei rfl B.range (zab (za9 rfl B.c_FACTORS) zaa)) (λ_ _ _ _ _=>(zaD (i:=1) (ndS (N:=["i","factor"])))) (λ_ _ _ _ _=>zaN) (λ_ _ _ _ _=>(ziC (zax (k_eq K hr) (pv 1) (pv 0) (zat _)) zad zad)))))),?_⟩
 ac_rfl
 refine⟨by decide,λp hp=>?_⟩
 ac_rfl
 refine zhb (by decide) (by decide) ?_
 refine zaW (n:=8) zfS (((List.range 8).map λ(k:Nat)=>(if (0+(k:Int))=i then 1 else 0:Int)).map D.int) (by simp) (by decide) (λj x d H1 R hj hd s1 hx hR=>?_) (λv H1 s1 n1=>?_)
 ·subst hx
  rw[List.map_map] at hd
  have hd':=zjH hd
  subst hd'
  ac_rfl
  refine ite2 (λe=>?_) (λe=>?_)
  ·have e':0+(j:Int)=i:=of_decide_eq_true e
   ac_rfl
   refine hR _ _ (Same.refl _) ?_
   simp only[Function.comp,if_pos e']
   exact New.int
  ·have e':¬ 0+(j:Int)=i:=of_decide_eq_false (Bool.eq_false_iff.mpr e)
   ac_rfl
   refine hR _ _ (Same.refl _) ?_
   simp only[Function.comp,if_neg e']
   exact New.int
 obtain⟨la,rfl,la0,la1⟩:=New.iif.mp n1
 have s2:=(zah hp (.lst [.int 0])).trans s1
 refine zbt (s1 _ _ zac) la1 (by simp;decide) λr hr'=>?_
 refine q _ _ (s2.trans (zah hr' _)) (New.iif.mpr ⟨r,rfl,s2.free hr',?_⟩)
 rw[zac]
 rfl
inductive Q4 (K:Fg)(vs:List V)(H:Hp)(Q:VK)(E:XK):Prop
 | mk (a b:Addr) (ls:List (List Int)) (ws:List Int):vs=[.ref a,.ref b]->Rep K H (.lst (ls.map nums)) (.ref a)->SqL K H b (ws.map V.int)->ls.length=ws.length->ls.length<=1000->(∀ l∈ls,l.length=9)->zoS ls ws->(∀ v H',Same H H'->New H H' (nums (zbV ls ws)) v->Q v H')->Q4 K vs H Q E
include B Z in
theorem znP (F:Fun K "summed" "summed" zgz f fd)(m:mg "summed"=some (.ref f)):Fn P w K mg b8 "summed" ["lines","weights"] 1 (Q4 K):=by
 refine Fn.of (k:=0) F zey m (λ_ _ _ _ _ _ us hl=>(by obtain⟨_,_,rfl⟩:=len2 hl;rfl)) (λvs H Q E h=>?_) (λcdv A outer s H vs Q E hr h=>?_)
 ·first
  | (obtain⟨_,_,_,_,rfl,_⟩:=h;rfl)
 obtain⟨a,b,ls,ws,rfl,hA,hB,hl,h1000,h9,ok,q⟩:=h
 refine⟨_,(zaf (zas (i:=2) zey.nd (zaQ zc9 (zaR (zam zad zaa)) (za9 rfl B.c_NUMBERS)))
   (zaf (zej PassesOwn.never rfl (zlp K rfl B.zip (zab (pv 0) (zab (pv 1) zaa))) (zjG K (n:=2) rfl (zcm (zaD (i:=3) zey.nd) (zcm (zaD (i:=4) zey.nd) zgU))) (zag (zik (i:=2) zey.nd rfl rfl rfl (COk.m (sc0:=zae zgz) (N:=["lines","weights","total","line","weight"]) (N':=["lines","weights","total","line","weight","so_far","number"]) (ms:=[false,false,false,false,false,true,true])) (zlp K rfl B.zip (zab (pv 2) (zab (pv 3) zaa))) (λ_ _ _ _ _=>(zjG K (n:=2) rfl (zcm (zaD (i:=5) (ndS (N:=["lines","weights","total","line","weight","so_far","number"]))) (zcm (zaD (i:=6) (ndS (N:=["lines","weights","total","line","weight","so_far","number"]))) zgU)))) (λ_ _ _ _ _=>zaN) (λ_ _ _ _ _=>(zaQ (zaX K) (pv 5) (zaQ zc9 (pv 6) (pv 4)))))))
   (zag (zan (pv 2))))),?_⟩
 unfold Rep at hA
 obtain⟨a',xs,e,hA,hx⟩:=hA
 cases e
 have lx:=hx.length
 rw[zlm] at lx
 ac_rfl
 refine⟨by decide,λp hp=>?_⟩
 ac_rfl
 refine .inr ⟨p,9,[.int 0],rfl,rfl,zac,by decide,by decide,by decide,λt ht=>?_⟩
 have s0:=(zah hp (.lst [.int 0])).trans (zah ht (.lst (List.replicate (9:Int).toNat [V.int 0]).flatten))
 ac_rfl
 refine⟨a,b,rfl,⟨_,s0.seq hA⟩,⟨_,s0.seq hB⟩,?_⟩
 refine zfT (n:=ws.length) (zgH (s0.seq hA) (s0.seq hB) (by rw[zlm];omega)) (λi σ H2=>∃ (ta:Addr) (x y:Option V),σ=[some (.ref a),some (.ref b),some (.ref ta),x,y]/\Same (upd (upd H p (.lst [.int 0])) t (.lst (List.replicate (9:Int).toNat [V.int 0]).flatten)) H2/\H ta=none/\H2 ta=some (.lst ((zhj ((ls.zip ws).take i) (List.replicate 9 0)).map V.int)))
  ⟨t,none,none,rfl,Same.refl _,(zah hp _).free ht,by rw[zac];rfl⟩ (λi σ H2 ⟨_,_,_,_,e,_⟩=>e) ?_ ?_
 ·rintro i v σ H2 H3 hi ⟨ta,x,y,rfl,s2,ta0,ta1⟩ s3 ⟨T,u,z,rfl,hT,eu,ez⟩
  have il:i<ls.length:=by omega
  rw[zgm] at ez
  obtain⟨w',hw,rfl⟩:=zme.mp ez
  obtain⟨dl,hdl,hru⟩:=hx.get' eu
  rw[zgm,List.getElem?_eq_getElem il] at hdl
  cases hdl
  obtain⟨lu,rfl,hlu⟩:=zbd.mp (Rep.same (s0.trans (s2.trans s3)) _ hru)
  have l9:=h9 ls[i] (List.getElem_mem il)
  have ft9:(zhj ((ls.zip ws).take i) (List.replicate 9 0)).length=9:=zeu _ _ (by simp) λp hp=>znz h9 p (List.mem_of_mem_take hp)
  refine⟨T,_,rfl,SqT.of hT,rfl,⟨_,_,rfl,?_⟩⟩
  refine⟨_,_,rfl,?_⟩
  refine⟨rfl,?_⟩
  ac_rfl
  refine⟨ta,lu,rfl,⟨_,SqL.of (s3 _ _ ta1)⟩,⟨_,hlu⟩,?_⟩
  refine zaW (n:=9) (zgH (SqL.of (s3 _ _ ta1)) hlu (by rw[zlm,zlm,ft9,l9];rfl)) ((addW w' (zhj ((ls.zip ws).take i) (List.replicate 9 0)) ls[i]).map D.int) (by rw[zlm];exact zhk ft9 l9) (by decide) (λj x' d H4 R hj hd s4 hx' hR=>?_) (λv H4 s4 n4=>?_)
  ·obtain⟨T2,u2,z2,rfl,hT2,e1,e2⟩:=hx'
   rw[zgm] at e1 e2
   obtain⟨s',hs',rfl⟩:=zme.mp e1
   obtain⟨n',hn',rfl⟩:=zme.mp e2
   have ed:d=.int (s' + n' * w'):=by
    unfold addW at hd
    rw[zgm,List.getElem?_zipWith,hs',hn'] at hd
    cases hd
    rfl
   subst ed
   refine⟨T2,_,rfl,SqT.of hT2,rfl,⟨_,_,rfl,?_⟩⟩
   refine⟨_,_,rfl,?_⟩
   refine⟨rfl,?_⟩
   ac_rfl
   refine ziM (ok i ls[i] w' (by simp) hw n' (zmg hn')) ?_
   ac_rfl
   exact hR _ _ (Same.refl _) New.int
  obtain⟨na,rfl,na0,na1⟩:=New.iif.mp n4
  ac_rfl
  refine⟨na,_,_,rfl,s2.trans (s3.trans s4),(s0.trans (s2.trans s3)).free na0,?_⟩
  rw[na1,List.take_add_one,zqy (List.getElem?_eq_getElem il) hw,zmb]
 ·rintro σ H2 ⟨ta,x,y,rfl,s2,ta0,ta1⟩
  ac_rfl
  refine q _ _ (s0.trans s2) (New.iif.mpr ⟨ta,rfl,ta0,?_⟩)
  rw[ta1,List.take_of_length_le (by rw[List.length_zip];omega)]
  rfl
inductive Q6 (K:Fg)(vs:List V)(H:Hp)(Q:VK)(E:XK):Prop
 | mk (a b:Addr) (c:Int) (fs:List Int) (ls:List (List Int)):vs=[.ref a,.ref b]->SqL K H a ((c::fs).map V.int)->Rep K H (.lst (ls.map nums)) (.ref b)->fs.length=8->ls.length=8->(∀ l∈ls,l.length=9)->zoS ls fs->(∀ v H',Same H H'->New H H' (nums (zaY (c::fs) ls)) v->Q v H')->Q6 K vs H Q E
theorem zo4 (c:Int)(fs:List Int):cutV ((c::fs).map V.int) (some 1) none=fs.map V.int:=by
 unfold cutV
 rw[show HT.sIx ((c::fs).map V.int).length 0 (some 1)=1 by rw[show (1:Int)=((1:Nat):Int) by rfl,HT.sIx_nat];simp]
 rw[HT.sIx_none]
 simp[List.take_of_length_le]
variable (Q5:Fn P w K mg b8 "summed" ["lines","weights"] 1 (Q4 K))
include B Z Q5 in
theorem znQ (F:Fun K "turned" "turned" zix f fd)(m:mg "turned"=some (.ref f)):Fn P w K mg b8 "turned" ["line","eight"] 2 (Q6 K):=by
 refine Fn.of (k:=1) F zj2 m (λ_ _ _ _ _ _ us hl=>(by obtain⟨_,_,rfl⟩:=len2 hl;rfl)) (λvs H Q E h=>?_) (λcdv A outer s H vs Q E hr h=>?_)
 ·first
  | (obtain⟨_,_,_,_,_,rfl,_⟩:=h;rfl)
 obtain⟨a,b,c,fs,ls,rfl,hA,hB,lf,ll,h9,ok,q⟩:=h
 refine⟨_,(zaf (zas (i:=2) zj2.nd (zap Q5 hr rfl (zab (pv 1) (zaH (zfh (k_sl K) (pv 0) (zg0 zad) zgZ) zaa))))
   (zaf (zld (zaQ (zaX K) (zav (k_ix K) (pv 2) zad) (zav (k_ix K) (pv 0) zad)) (zlc (pv 2) zad zgD))
   (zag (zan (pv 2))))),?_⟩
 ac_rfl
 refine .inl ⟨a,_,rfl,hA,λp hp=>?_⟩
 rw[zo4]
 have s1:=zah hp (.lst (fs.map V.int))
 ac_rfl
 refine⟨b,p,ls,fs,rfl,Rep.same s1 _ hB,SqL.of zac,by omega,by omega,h9,ok,λv H2 s2 n2=>?_⟩
 obtain⟨ta,rfl,ta0,ta1⟩:=New.iif.mp n2
 have s3:=s1.trans s2
 obtain⟨x,r,hs⟩:∃ x r,zbV ls fs=x::r:=by
  have:=za7 (ws:=fs) h9
  cases e:zbV ls fs with
  | nil=>rw[e] at this;simp at this
  | cons x r=>exact⟨x,r,rfl⟩
 rw[hs] at ta1
 ac_rfl
 refine zbX (SqL.of ta1) (v:=.int x) zbs ?_
 ac_rfl
 refine zbX (s3.seq hA) (v:=.int c) zbs ?_
 ac_rfl
 refine zln ta1 ix0 ?_
 ac_rfl
 have ta2:=s1.free ta0
 refine q _ _ (λd o e=>?_) (New.iif.mpr ⟨ta,rfl,ta2,?_⟩)
 ·rw[zai (zao e ta2)];exact s3 _ _ e
 ·rw[zac]
  unfold zaY
  rw[show (c::fs).tail=fs by rfl,hs]
  rfl
theorem zfE{dx a3 a4:Addr}{v1 v2:V}{c:Cr}{dvs nvs:List V}(np:H p=none)(nd:H dx=none)(r1:Rep K H (zaF c.needs) v1)(r2:Rep K H (zaF c.leaves) v2)(h3:SqL K H a3 dvs)(h4:SqL K H a4 nvs)(dr:zfa H c.deeds dvs)(nr:R2 (λls x=>Rep K H (zaF ls) x) c.notes nvs)(g:c.Nine)(q:∀ H1 f,Same H H1->zbv (C 0) H1 p c f->(∀ b∈f,H b=none)->f.Nodup->Q .non H1):Q8 K C [.ref p,v1,v2,.ref a3,.ref a4] (upd (upd H dx (.own p)) p (.ins (C 0) dx [])) Q E:=by
 have sm:Same H (upd (upd H dx (.own p)) p (.ins (C 0) dx [])):=λb o e=>by
  rw[zai (zao e np),zai (zao e nd)];exact e
 have ld:=dr.1
 have ln:=nr.1
 have e1:=g.d
 have e2:=g.n
 have e3:=g.l
 have e4:=g.o
 refine⟨p,dx,v1,v2,.ref a3,.ref a4,c.needs,c.leaves,c.deeds.map toD,c.notes,a3,a4,dvs,nvs,rfl,zac,Rep.same sm _ r1,Rep.same sm _ r2,rfl,sm.seq h3,rfl,sm.seq h4,by omega,by omega,by rw[zlm];omega,by omega,by rw[zlm];exact ld,ln,λi d x q1 q2=>?_,λi ls x q1 q2=>?_,λH1 w1 w2 w3 w4 keep hp nw=>?_⟩
 ·rw[zgm] at q1
  obtain⟨d',hd',rfl⟩:=zme.mp q1
  exact (dr.2 i d' x hd' q2).sq sm.sq
 ·exact⟨by have:=(g.o9 ls (zmg q1)).1;omega,Rep.same sm _ (nr.2 i ls x q1 q2)⟩
 ·have s1:Same H H1:=λb o e=>keep b o (sm _ _ e) (zao e np)
  obtain⟨f,k1,k2,k3⟩:=nw
  have pf:p∉f:=λz=>by have:=k3 p z;rw[zac] at this;cases this
  refine q H1 (p::f) s1 ⟨dx,w1,w2,w3,w4,f,rfl,hp,k1⟩ (λb hb=>?_) (List.nodup_cons.mpr ⟨pf,k2⟩)
  rcases List.mem_cons.mp hb with rfl | hb
  ·exact np
  ·exact sm.fr b (k3 b hb)
theorem zo5 {a1 a2 a3 a4 b1 b2 b3 b4:V}(h:flds a1 a2 a3 a4=flds b1 b2 b3 b4):a1=b1/\a2=b2/\a3=b3/\a4=b4:=by
 refine⟨?_,?_,?_,?_⟩
 ·have:=zcn a1 a2 a3 a4;rw[h,zcn] at this;injection this with this;exact this.symm
 ·have:=zb9 a1 a2 a3 a4;rw[h,zb9] at this;injection this with this;exact this.symm
 ·have:=zbP a1 a2 a3 a4;rw[h,zbP] at this;injection this with this;exact this.symm
 ·have:=zdc a1 a2 a3 a4;rw[h,zdc] at this;injection this with this;exact this.symm
inductive Qd (K:Fg)(C:Nat->Addr)(vs:List V)(H:Hp)(Q:VK)(E:XK):Prop
 | mk (p:Addr) (c:Cr):vs=[.ref p]->zd3 K (C 0) H p c.needs c.leaves c.deeds c.notes->c.Nine->(∀ q f H',Same H H'->zbv (C 0) H' q c f->(∀ b∈f,H b=none)->f.Nodup->Q (.ref q) H')->Qd K C vs H Q E
variable (M_Craft:Mkr P w K mg b8 "Craft" (C 0) ["self","needs","leaves","deeds","notes"] 2 (Q8 K C))
include B Z M_Craft in
theorem zhG (F:Fun K "copied_craft" "copied_craft" zdg f fd)(m:mg "copied_craft"=some (.ref f)):Fn P w K mg b8 "copied_craft" ["craft"] 4 (Qd K C):=by
 refine Fn.of (k:=3) F zhy m (λ_ _ _ _ _ _ us hl=>(by obtain⟨_,rfl⟩:=len1 hl;rfl)) (λvs H Q E h=>?_) (λcdv A outer s H vs Q E hr h=>?_)
 ·first
  | (obtain⟨_,_,rfl,_⟩:=h;rfl)
 obtain⟨p,c,rfl,hT,g,q⟩:=h
 refine⟨_,(zag (zan (zoD M_Craft hr rfl (zba (zay K (pv 0) rfl) (zba (zay K (pv 0) rfl) (zba (zay K (pv 0) rfl) (zba (zay K (pv 0) rfl) zaa))))))),?_⟩
 obtain⟨⟨dx,w1,w2,w3,w4,hp,r1,r2,r3,r4⟩,dx',u1,u2,b3,u4,dvs,hp',hb3,hD⟩:=hT
 have e:=hp
 rw[hp'] at e
 injection e with e
 injection e with _ e0 e
 obtain⟨rfl,rfl,rfl,rfl⟩:=zo5 e
 unfold Rep at r4
 obtain⟨b4,nvs,rfl,q4,z4⟩:=r4
 have z4l:=z4.length
 nofun
 refine⟨p,(C 0),dx,_,_,rfl,hp,Z.c_Craft,Z.n_Craft_needs,zcn _ _ _ _,?_⟩
 nofun
 refine⟨p,(C 0),dx,_,_,rfl,hp,Z.c_Craft,Z.n_Craft_leaves,zb9 _ _ _ _,?_⟩
 nofun
 refine⟨p,(C 0),dx,_,_,rfl,hp,Z.c_Craft,Z.n_Craft_deeds,zbP _ _ _ _,?_⟩
 nofun
 refine⟨p,(C 0),dx,_,_,rfl,hp,Z.c_Craft,Z.n_Craft_notes,zdc _ _ _ _,?_⟩
 nofun
 intro y dy hy hdy ndy
 refine zfE (c:=c) hy hdy r1 r2 (SqL.of hb3) q4 hD ⟨by simpa using z4l,λi ls x e1 e2=>?_⟩ g λH1 f s1 hC hf fn=>⟨rfl,q y f H1 s1 hC hf fn⟩
 obtain⟨d,hd,hrx⟩:=Reps.get' z4 e2
 rw[zgm,e1] at hd
 cases hd
 exact hrx
def zde (deeds:List Dd)(i:Nat):Bool:=match deeds[i]? with
 | some d=>(zdn d).isSome
 | none=>false
def zgo (deeds:List Dd)(i:Nat):D:=match deeds[i]? with
 | some d=>.int ((zdn d).getD 0)
 | none=>.int 0
theorem ziw:∀ (deeds:List Dd),((List.range deeds.length).filter (zde deeds)).map (zgo deeds)=(zaV deeds).map D.int
 | []=>rfl
 | d::ds=>by
  have ih:=ziw ds
  have f:(List.map Nat.succ (List.range ds.length)).filter (zde (d::ds))=((List.range ds.length).filter (zde ds)).map Nat.succ:=by
   rw[List.filter_map];rfl
  have g:(((List.range ds.length).filter (zde ds)).map Nat.succ).map (zgo (d::ds))=(zaV ds).map D.int:=by
   rw[List.map_map,<-ih];rfl
  rw[List.length_cons,List.range_succ_eq_map,List.filter_cons,f]
  unfold zaV at g ⊢
  cases e:zdn d with
  | none=>
   rw[show zde (d::ds) 0=false by unfold zde;simp[e],if_neg (by decide),List.filterMap_cons,e]
   exact g
  | some m=>
   rw[show zde (d::ds) 0=true by unfold zde;simp[e],if_pos rfl,List.filterMap_cons,e,zmc,zmc,g,show zgo (d::ds) 0=.int m by unfold zgo;simp[e]]
theorem znR (deeds:List Dd)(n:Nat)(h:n=deeds.length):((List.range n).filter (zde deeds)).map (zgo deeds)=(zaV deeds).map D.int:=by
 subst h;exact ziw deeds
inductive Qf (K:Fg)(C:Nat->Addr)(vs:List V)(H:Hp)(Q:VK)(E:XK):Prop
 | mk (p:Addr) (dx b3:Addr) (w1 w2 w4:V) (dvs:List V) (deeds:List Dd):vs=[.ref p]->H p=some (.ins (C 0) dx (flds w1 w2 (.ref b3) w4))->H b3=some (.lst dvs)->zfa H deeds dvs->deeds.length<=1000->(∀ v H',Same H H'->New H H' (nums (zaV deeds)) v->Q v H')->Qf K C vs H Q E
include B Z in
theorem zkd (F:Fun K "called_by" "called_by" zdJ f fd)(m:mg "called_by"=some (.ref f)):Fn P w K mg b8 "called_by" ["craft"] 1 (Qf K C):=by
 refine Fn.of (k:=0) F zj3 m (λ_ _ _ _ _ _ us hl=>(by obtain⟨_,rfl⟩:=len1 hl;rfl)) (λvs H Q E h=>?_) (λcdv A outer s H vs Q E hr h=>?_)
 ·first
  | (obtain⟨_,_,_,_,_,_,_,_,rfl,_⟩:=h;rfl)
 obtain⟨p,dx,b3,w1,w2,w4,dvs,deeds,rfl,hp,hb3,hD,hl,q⟩:=h
 refine⟨_,(zag (zan (za6 rfl (COk.m (sc0:=zae zdJ) (N:=["craft"]) (N':=["craft","deed"]) (ms:=[false,true])) (za8 K (zay K (pv 0) rfl)) (λ_ _ _ _ _=>(zaD (i:=1) (ndS (N:=["craft","deed"])))) (λ_ _ _ _ _=>(zoo (zax (k_eq K hr) (zav (k_ix K) (pv 1) zad) zbi (zat _)))) (λ_ _ _ _ _=>(zav (k_ix K) (pv 1) zad))))),?_⟩
 have ld:=hD.1
 ac_rfl
 refine⟨p,(C 0),dx,_,_,rfl,hp,Z.c_Craft,Z.n_Craft_deeds,zbP _ _ _ _,?_⟩
 refine⟨b3,rfl,⟨_,SqL.of hb3⟩,?_⟩
 refine zni (zaZ (SqL.of hb3)) (zde deeds) (zgo deeds) (zaq (by omega)) (λi x H1 R1 R2' hi s1 hx hy hn=>?_) (λv H1 s1 n1=>?_)
 ·have hi':i<deeds.length:=by omega
  have drx:=(hD.2 i deeds[i] x (by simp) hx).sq s1.sq
  have ek:zde deeds i=(zdn deeds[i]).isSome:=by unfold zde;simp[hi']
  have en:zgo deeds i=.int ((zdn deeds[i]).getD 0):=by unfold zgo;simp[hi']
  generalize deeds[i]=d at drx ek en
  obtain⟨t,xs,rfl,ht⟩:=znB drx
  nofun
  refine zaL (SqT.of ht) zbs ?_
  nofun
  have ew:decide (zcV d ="call")=zde deeds i:=by
   rw[ek]
   cases d <;> first | rfl | (unfold zcV zdn;decide +kernel)
  rw[ew]
  cases hk:zde deeds i with
  | false=>
   rw[if_neg (by decide)]
   exact hn hk _ (Same.refl _)
  | true=>
   rw[if_pos rfl]
   rw[hk] at ek
   cases d with
   | call m g0 g1 t0 t1=>
    obtain⟨t',ys,et,hT2,px⟩:=zbk drx
    cases et
    obtain⟨x0,r,rfl,e0,px⟩:=zal px
    obtain⟨x1,r,rfl,e1,px⟩:=zal px
    cases zbq e1
    nofun
    refine zaL (SqT.of hT2) (v:=.int m) (zaB (j:=1) rfl) ?_
    refine hy hk _ _ (Same.refl _) ?_
    rw[en]
    exact New.int
   | _=>cases ek
 ·ac_rfl
  rw[znR deeds _ ld.symm] at n1
  exact q _ _ s1 n1
inductive Q26 (K:Fg)(vs:List V)(H:Hp)(Q:VK)(E:XK):Prop
 | mk (a b c:Int):vs=[.int a,.int b,.int c]->Q (.bl (decide (a<=b) && decide (b<=c))) H->Q26 K vs H Q E
theorem zcZ{a b c:Int}(q:Q (.bl (decide (a<=b) && decide (b<=c))) H):Q26 K [.int a,.int b,.int c] H Q E:=⟨a,b,c,rfl,q⟩
include B Z in
theorem zmr (F:Fun K "between" "between" zgP f fd)(m:mg "between"=some (.ref f)):Fn P w K mg b8 "between" ["low","number","high"] 1 (Q26 K):=by
 refine Fn.of (k:=0) F zmq m (λ_ _ _ _ _ _ us hl=>(by obtain⟨_,_,_,rfl⟩:=len3 hl;rfl)) (λvs H Q E h=>?_) (λcdv A outer s H vs Q E hr h=>?_)
 ·first
  | (obtain⟨_,_,_,rfl,_⟩:=h;rfl)
 obtain⟨a,b,c,rfl,q⟩:=h
 refine⟨_,(zag (zan (zn9 zlQ zlQ (pv 0) (pv 1) (pv 2)))),?_⟩
 ac_rfl
 cases h:decide (a<=b) with
 | false=>rw[h] at q;ac_rfl;exact q
 | true=>rw[h] at q;ac_rfl;exact q
def zcd (K:Fg):Sp:=λvs H Q _=>∃ n:Int,vs=[.int n]/\Q (.bl (zeN n)) H
theorem zk1(q:Q (.bl (zeN n)) H):zcd K [.int n] H Q E:=⟨n,rfl,q⟩
variable (Q27:Fn P w K mg b8 "between" ["low","number","high"] 1 (Q26 K))
include B Z Q27 in
theorem zhH (F:Fun K "small_enough" "small_enough" zdh f fd)(m:mg "small_enough"=some (.ref f)):Fn P w K mg b8 "small_enough" ["number"] 2 (zcd K):=by
 refine Fn.of (k:=1) F zhz m (λ_ _ _ _ _ _ us hl=>(by obtain⟨_,rfl⟩:=len1 hl;rfl)) (λvs H Q E h=>?_) (λcdv A outer s H vs Q E hr h=>?_)
 ·first
  | (obtain⟨_,rfl,_⟩:=h;rfl)
 obtain⟨n,rfl,q⟩:=h
 refine⟨_,(zag (zan (zap Q27 hr rfl (ziQ (zcR zbJ (za9 rfl B.c_GREATEST)) (zab (pv 0) (zab (za9 rfl B.c_GREATEST) zaa)))))),?_⟩
 ac_rfl
 refine zcZ ?_
 exact q
inductive Q1a (K:Fg)(vs:List V)(H:Hp)(Q:VK)(E:XK):Prop
 | mk (a t:Addr) (l:List Int) (spots:List Nat):vs=[.ref a,.ref t]->SqL K H a (l.map V.int)->SqT K H t (spots.map λ(s:Nat)=>V.int (s:Int))->l.length=9->spots.length<=9->(∀ s∈spots,s<9)->(∀ H',Same H H'->Q (.bl (zev spots l)) H')->Q1a K vs H Q E
variable (Q25:Fn P w K mg b8 "small_enough" ["number"] 2 (zcd K))
include B Z Q25 in
theorem zi6 (F:Fun K "line_right" "line_right" zco f fd)(m:mg "line_right"=some (.ref f)):Fn P w K mg b8 "line_right" ["line","nought_spots"] 3 (Q1a K):=by
 refine Fn.of (k:=2) F zfv m (λ_ _ _ _ _ _ us hl=>(by obtain⟨_,_,rfl⟩:=len2 hl;rfl)) (λvs H Q E h=>?_) (λcdv A outer s H vs Q E hr h=>?_)
 ·first
  | (obtain⟨_,_,_,_,rfl,_⟩:=h;rfl)
 obtain⟨a,t,l,spots,rfl,hA,hT,l9,ls9,hs,q⟩:=h
 refine⟨_,(zaf (zas (i:=2) zfv.nd (zaw (ziO K rfl) rfl B.all L2.zcG (zcy (za6 rfl (COk.m (sc0:=zae zco) (N:=["line","nought_spots","small"]) (N':=["line","nought_spots","small","number"]) (ms:=[false,false,false,true])) (za8 K (pv 0)) (λ_ _ _ _ _=>(zaD (i:=3) (ndS (N:=["line","nought_spots","small","number"])))) (λ_ _ _ _ _=>zaN) (λ_ _ _ _ _=>(zap Q25 hr rfl (zab (pv 3) zaa)))) zaa)))
   (zag (zan (zbF (pv 2) (zb2 (zaw (ziO K rfl) rfl B.all L2.zcG (zcy (za6 rfl (COk.m (sc0:=zae zco) (N:=["line","nought_spots","small"]) (N':=["line","nought_spots","small","spot"]) (ms:=[false,false,false,true])) (zjF K (pv 1)) (λ_ _ _ _ _=>(zaD (i:=3) (ndS (N:=["line","nought_spots","small","spot"])))) (λ_ _ _ _ _=>zaN) (λ_ _ _ _ _=>(zbe (k_eq K hr) (zav (k_ix K) (pv 0) (pv 3)) zad (zat _)))) zaa))))))),?_⟩
 unfold zev at q
 ac_rfl
 refine⟨a,rfl,⟨_,hA⟩,?_⟩
 refine zaW (zaZ hA) ((l.map zeN).map D.bl) (by simp) (zaq (by simp;omega)) (λk x d H1 R hk hd s1 hx hR=>?_) (λv H1 s1 n1=>?_)
 ·rw[zgm] at hx
  obtain⟨y,hy,rfl⟩:=zme.mp hx
  rw[zgm,zgm,hy] at hd
  cases hd
  ac_rfl
  refine zk1 ?_
  exact hR _ _ (Same.refl _) New.bl
 obtain⟨la,rfl,la0,la1⟩:=New.bls n1
 ac_rfl
 refine ziN (SqL.of la1) ?_
 ac_rfl
 refine zeK (λe=>?_) (λe=>by have q1:=q _ s1;rw[e] at q1;exact q1)
 rw[e,Bool.true_and] at q
 ac_rfl
 refine⟨t,rfl,⟨_,s1.tup hT⟩,?_⟩
 refine zaW (zfk (s1.tup hT)) ((spots.map λs=>decide (l.getD s 0=0)).map D.bl) (by simp) (zaq (by simp;omega)) (λk x d H2 R hk hd s2 hx hR=>?_) (λv H2 s2 n2=>?_)
 ·rw[zgm] at hx
  obtain⟨sp,hsp,rfl⟩:=zme.mp hx
  rw[zgm,zgm,hsp] at hd
  cases hd
  have sl:sp<l.length:=by have:=hs sp (zmg hsp);omega
  ac_rfl
  refine zbX ((s1.trans s2).seq hA) (v:=.int (l.getD sp 0)) (zaB (by simp[sl])) ?_
  ac_rfl
  exact hR _ _ (Same.refl _) New.bl
 obtain⟨lb,rfl,lb0,lb1⟩:=New.bls n2
 ac_rfl
 refine ziN (SqL.of lb1) ?_
 exact q _ (s1.trans s2)
inductive Q18 (K:Fg)(vs:List V)(H:Hp)(Q:VK)(E:XK):Prop
 | mk (a t:Addr) (ls:List (List Int)) (spots:List Nat):vs=[.ref a,.ref t]->Rep K H (zaF ls) (.ref a)->SqT K H t (spots.map λ(s:Nat)=>V.int (s:Int))->ls.length<=1000->(∀ l∈ls,l.length=9)->spots.length<=9->(∀ s∈spots,s<9)->(∀ H',Same H H'->Q (.bl (zdm spots ls)) H')->Q18 K vs H Q E
variable (Q1b:Fn P w K mg b8 "line_right" ["line","nought_spots"] 3 (Q1a K))
include B Z Q1b in
theorem zhZ (F:Fun K "lines_right" "lines_right" zcF f fd)(m:mg "lines_right"=some (.ref f)):Fn P w K mg b8 "lines_right" ["lines","nought_spots"] 4 (Q18 K):=by
 refine Fn.of (k:=3) F zhW m (λ_ _ _ _ _ _ us hl=>(by obtain⟨_,_,rfl⟩:=len2 hl;rfl)) (λvs H Q E h=>?_) (λcdv A outer s H vs Q E hr h=>?_)
 ·first
  | (obtain⟨_,_,_,_,rfl,_⟩:=h;rfl)
 obtain⟨a,t,ls,spots,rfl,hA,hT,l1000,h9,ls9,hs,q⟩:=h
 refine⟨_,(zag (zan (zbF (zbe zlQ (zaw (zdV K) rfl B.len L2.boot_len (zab (pv 0) zaa)) (za9 rfl B.c_MOST_LINES) (zat _)) (zb2 (zaw (ziO K rfl) rfl B.all L2.zcG (zcy (za6 rfl (COk.m (sc0:=zae zcF) (N:=["lines","nought_spots"]) (N':=["lines","nought_spots","line"]) (ms:=[false,false,true])) (za8 K (pv 0)) (λ_ _ _ _ _=>(zaD (i:=2) (ndS (N:=["lines","nought_spots","line"])))) (λ_ _ _ _ _=>zaN) (λ_ _ _ _ _=>(zap Q1b hr rfl (zab (pv 2) (zab (pv 1) zaa))))) zaa)))))),?_⟩
 unfold zaF Rep at hA
 obtain⟨a',xs,e,hA,hx⟩:=hA
 cases e
 have lx:=hx.length
 rw[zlm] at lx
 unfold zdm at q
 ac_rfl
 refine zer (.inl hA) ?_
 ac_rfl
 rw[<-lx]
 refine zeK (λe=>?_) (λe=>by have q1:=q _ (Same.refl _);rw[e] at q1;exact q1)
 rw[e,Bool.true_and] at q
 ac_rfl
 refine⟨a,rfl,⟨_,hA⟩,?_⟩
 refine zaW (zaZ hA) ((ls.map (zev spots)).map D.bl) (by simp;omega) (zaq (by omega)) (λk x d H1 R hk hd s1 hx' hR=>?_) (λv H1 s1 n1=>?_)
 ·obtain⟨d2,hd2,hrx⟩:=Reps.get' hx hx'
  rw[zgm] at hd2
  obtain⟨l,hl,rfl⟩:=zme.mp hd2
  rw[zgm,zgm,hl] at hd
  cases hd
  obtain⟨xa,rfl,hxa⟩:=zbd.mp (Rep.same s1 _ hrx)
  ac_rfl
  refine⟨xa,t,l,spots,rfl,hxa,s1.tup hT,h9 l (zmg hl),ls9,hs,λH2 s2=>?_⟩
  exact hR _ _ s2 New.bl
 obtain⟨la,rfl,la0,la1⟩:=New.bls n1
 ac_rfl
 refine ziN (SqL.of la1) ?_
 exact q _ s1
inductive Q12 (K:Fg)(C:Nat->Addr)(vs:List V)(H:Hp)(Q:VK)(E:XK):Prop
 | mk (p:Addr) (needs leaves:List (List Int)) (ds:List D) (notes:List (List (List Int))):vs=[.ref p]->zby K (C 0) H p needs leaves ds notes->needs.length<=1000->leaves.length<=1000->(∀ l∈needs,l.length=9)->(∀ l∈leaves,l.length=9)->(∀ H',Same H H'->Q (.bl (zhl needs leaves)) H')->Q12 K C vs H Q E
variable (Q19:Fn P w K mg b8 "lines_right" ["lines","nought_spots"] 4 (Q18 K))
include B Z Q19 in
theorem zi7 (F:Fun K "oath_right" "oath_right" zea f fd)(m:mg "oath_right"=some (.ref f)):Fn P w K mg b8 "oath_right" ["craft"] 5 (Q12 K C):=by
 refine Fn.of (k:=4) F zfu m (λ_ _ _ _ _ _ us hl=>(by obtain⟨_,rfl⟩:=len1 hl;rfl)) (λvs H Q E h=>?_) (λcdv A outer s H vs Q E hr h=>?_)
 ·first
  | (obtain⟨_,_,_,_,_,rfl,_⟩:=h;rfl)
 obtain⟨p,needs,leaves,ds,notes,rfl,hC,ln,ll,h9n,h9l,q⟩:=h
 obtain⟨gl,g_LEFT_SPOTS,hL⟩:=B.t_LEFT_SPOTS
 obtain⟨gh,g_HAND_SPOTS,hH⟩:=B.t_HAND_SPOTS
 have sp9:∀ s∈([1,2,3,4,7,8]:List Nat),s<9:=by decide
 have sp4:∀ s∈([1,2,3,4]:List Nat),s<9:=by decide
 refine⟨_,(zaf (zas (i:=1) zfu.nd (zap Q19 hr rfl (zba (zay K (pv 0) rfl) (zb7 (zaQ (zaX K) (zb1 rfl g_HAND_SPOTS) (zb1 rfl g_LEFT_SPOTS)) zaa))))
   (zag (zan (zbF (pv 1) (zb2 (zap Q19 hr rfl (zba (zay K (pv 0) rfl) (zab (zb1 rfl g_HAND_SPOTS) zaa)))))))),?_⟩
 obtain⟨dx,w1,w2,w3,w4,hp,r1,r2,r3,r4⟩:=hC
 obtain⟨b1,rfl⟩:∃ b,w1=.ref b:=by unfold zaF Rep at r1;obtain⟨a,_,e,_⟩:=r1;exact⟨a,e⟩
 obtain⟨b2,rfl⟩:∃ b,w2=.ref b:=by unfold zaF Rep at r2;obtain⟨a,_,e,_⟩:=r2;exact⟨a,e⟩
 unfold zhl at q
 ac_rfl
 refine⟨p,(C 0),dx,_,_,rfl,hp,Z.c_Craft,Z.n_Craft_needs,zcn _ _ _ _,?_⟩
 ac_rfl
 refine zrY (hH _) (hL _) (by simp) (by simp) ((by walk_at "sm")) λt t0=>?_
 have s0:=zah t0 (.tup ([V.int 1,.int 2,.int 3,.int 4]++[V.int 7,.int 8]))
 ac_rfl
 refine⟨b1,t,needs,[1,2,3,4,7,8],rfl,Rep.same s0 _ r1,.inl (.inl zac),ln,h9n,by decide,sp9,λH1 s1=>?_⟩
 have s2:=s0.trans s1
 ac_rfl
 refine zeK (λe=>?_) (λe=>by have q1:=q _ s2;rw[e] at q1;exact q1)
 rw[e,Bool.true_and] at q
 ac_rfl
 refine⟨p,(C 0),dx,_,_,rfl,s2 _ _ hp,Z.c_Craft,Z.n_Craft_leaves,zb9 _ _ _ _,?_⟩
 ac_rfl
 exact⟨b2,gh,leaves,[1,2,3,4],rfl,Rep.same s2 _ r2,hH _,ll,h9l,by decide,sp4,λH3 s3=>q _ (s2.trans s3)⟩
def zcK (K:Fg):Sp:=λvs H Q _=>∃ n:Int,vs=[.int n]/\Q (.bl (zb8 n)) H
theorem zlK(q:Q (.bl (zb8 n)) H):zcK K [.int n] H Q E:=⟨n,rfl,q⟩
include B Z Q27 in
theorem zi8 (F:Fun K "hand_right" "hand_right" zed f fd)(m:mg "hand_right"=some (.ref f)):Fn P w K mg b8 "hand_right" ["hand"] 2 (zcK K):=by
 refine Fn.of (k:=1) F zi1 m (λ_ _ _ _ _ _ us hl=>(by obtain⟨_,rfl⟩:=len1 hl;rfl)) (λvs H Q E h=>?_) (λcdv A outer s H vs Q E hr h=>?_)
 ·first
  | (obtain⟨_,rfl,_⟩:=h;rfl)
 obtain⟨n,rfl,q⟩:=h
 refine⟨_,(zag (zan (zap Q27 hr rfl (zam zad (zab (pv 0) (zab (za9 rfl B.c_LAST_HAND) zaa)))))),?_⟩
 ac_rfl
 refine zcZ ?_
 exact q
inductive Q22 (K:Fg)(vs:List V)(H:Hp)(Q:VK)(E:XK):Prop
 | mk (a:Addr) (i j:Int):vs=[.ref a]->SqT K H a [.int i,.int j]->(∀ H',Same H H'->Q (.bl ([zb8 i,zb8 j].all id)) H')->Q22 K vs H Q E
variable (Q24:Fn P w K mg b8 "hand_right" ["hand"] 2 (zcK K))
include B Z Q24 in
theorem zfF (F:Fun K "two_hands_right" "two_hands_right" zbM f fd)(m:mg "two_hands_right"=some (.ref f)):Fn P w K mg b8 "two_hands_right" ["hands"] 3 (Q22 K):=by
 refine Fn.of (k:=2) F zfy m (λ_ _ _ _ _ _ us hl=>(by obtain⟨_,rfl⟩:=len1 hl;rfl)) (λvs H Q E h=>?_) (λcdv A outer s H vs Q E hr h=>?_)
 ·first
  | (obtain⟨_,_,_,rfl,_⟩:=h;rfl)
 obtain⟨a,i,j,rfl,hA,q⟩:=h
 refine⟨_,(zag (zan (zbF (zbe (k_eq K hr) (zaw (zdV K) rfl B.len L2.boot_len (zab (pv 0) zaa)) zad (zat _)) (zb2 (zaw (ziO K rfl) rfl B.all L2.zcG (zcy (za6 rfl (COk.m (sc0:=zae zbM) (N:=["hands"]) (N':=["hands","hand"]) (ms:=[false,true])) (zjF K (pv 0)) (λ_ _ _ _ _=>(zaD (i:=1) (ndS (N:=["hands","hand"])))) (λ_ _ _ _ _=>zaN) (λ_ _ _ _ _=>(zap Q24 hr rfl (zab (pv 1) zaa)))) zaa)))))),?_⟩
 ac_rfl
 refine zer (.inr hA) ?_
 ac_rfl
 rw[show decide ((([V.int i,.int j].length:Nat):Int)=2)=true from rfl]
 ac_rfl
 refine⟨a,rfl,⟨_,hA⟩,?_⟩
 refine zaW (zfk hA) ([zb8 i,zb8 j].map D.bl) rfl ((by walk_at "sm")) (λk x d H1 R hk hd s1 hx hR=>?_) (λv H1 s1 n1=>?_)
 ·have hx':([i,j].map V.int)[k]?=some x:=hx
  have hd':([i,j].map λz=>D.bl (zb8 z))[k]?=some d:=hd
  rw[zgm] at hx' hd'
  obtain⟨y,hy,rfl⟩:=zme.mp hx'
  rw[hy] at hd'
  cases hd'
  ac_rfl
  refine zlK ?_
  exact hR _ _ (Same.refl _) New.bl
 obtain⟨la,rfl,la0,la1⟩:=New.bls n1
 ac_rfl
 refine ziN (SqL.of la1) ?_
 exact q _ s1
inductive Q20 (K:Fg)(vs:List V)(H:Hp)(Q:VK)(E:XK):Prop
 | mk (m:Int) (a b:Addr) (g0 g1 t0 t1:Int):vs=[.int m,.ref a,.ref b]->SqT K H a [.int g0,.int g1]->SqT K H b [.int t0,.int t1]->(∀ H',Same H H'->Q (.bl (([zb8 g0,zb8 g1].all id && [zb8 t0,zb8 t1].all id) && (btw 0 m 99 && !decide (t0=t1)))) H')->Q20 K vs H Q E
include B Z Q27 in
theorem zi9 (Q23:Fn P w K mg b8 "two_hands_right" ["hands"] 3 (Q22 K))(F:Fun K "call_right" "call_right" zec f fd)(m:mg "call_right"=some (.ref f)):Fn P w K mg b8 "call_right" ["number","given","taken"] 4 (Q20 K):=by
 refine Fn.of (k:=3) F zfx m (λ_ _ _ _ _ _ us hl=>(by obtain⟨_,_,_,rfl⟩:=len3 hl;rfl)) (λvs H Q E h=>?_) (λcdv A outer s H vs Q E hr h=>?_)
 ·first
  | (obtain⟨_,_,_,_,_,_,_,rfl,_⟩:=h;rfl)
 obtain⟨m,a,b,g0,g1,t0,t1,rfl,hA,hB,q⟩:=h
 refine⟨_,(zaf (zas (i:=3) zfx.nd (zbF (zap Q23 hr rfl (zab (pv 1) zaa)) (zb2 (zap Q23 hr rfl (zab (pv 2) zaa)))))
   (zag (zan (zbF (pv 3) (zbF (zap Q27 hr rfl (zam zad (zab (pv 0) (zab (za9 rfl B.c_LAST_NUMBER) zaa)))) (zb2 (zbe (k_ne K hr) (zav (k_ix K) (pv 2) zad) (zav (k_ix K) (pv 2) zad) (zat _)))))))),?_⟩
 generalize eg:[zb8 g0,zb8 g1].all id=bg at q
 generalize et:[zb8 t0,zb8 t1].all id=bt at q
 ac_rfl
 refine⟨a,g0,g1,rfl,hA,λH1 s1=>?_⟩
 rw[eg]
 -- hands=.. and ..
 refine zdx (λe=>?_) (λe=>?_)
 ·subst e
  ac_rfl
  refine⟨b,t0,t1,rfl,s1.tup hB,λH2 s2=>?_⟩
  rw[et]
  ac_rfl
  have s3:=s1.trans s2
  rw[Bool.true_and] at q
  refine zeK (λe=>?_) (λe=>by have q1:=q _ s3;rw[e] at q1;exact q1)
  rw[e,Bool.true_and] at q
  ac_rfl
  refine zcZ ?_
  refine zdx (λe=>?_) (λe=>by have q1:=q _ s3;unfold btw at q1;rw[e] at q1;exact q1)
  unfold btw at q
  rw[e,Bool.true_and] at q
  ac_rfl
  refine zaL (s3.tup hB) (v:=.int t0) rfl ?_
  ac_rfl
  refine zaL (s3.tup hB) (v:=.int t1) rfl ?_
  ac_rfl
  exact q _ s3
 ·subst e
  ac_rfl
  exact q _ s1
inductive Q1e (K:Fg)(vs:List V)(H:Hp)(Q:VK)(E:XK):Prop
 | mk (lo hi:Int):vs=[.int lo,.int hi]->Q (.bl (zeN lo && (zeN hi && decide (lo<=hi)))) H->Q1e K vs H Q E
include B Z Q25 in
theorem zh0 (F:Fun K "range_right" "range_right" zdK f fd)(m:mg "range_right"=some (.ref f)):Fn P w K mg b8 "range_right" ["low","high"] 3 (Q1e K):=by
 refine Fn.of (k:=2) F zhX m (λ_ _ _ _ _ _ us hl=>(by obtain⟨_,_,rfl⟩:=len2 hl;rfl)) (λvs H Q E h=>?_) (λcdv A outer s H vs Q E hr h=>?_)
 ·first
  | (obtain⟨_,_,rfl,_⟩:=h;rfl)
 obtain⟨lo,hi,rfl,q⟩:=h
 refine⟨_,(zag (zan (zbF (zap Q25 hr rfl (zab (pv 0) zaa)) (zbF (zap Q25 hr rfl (zab (pv 1) zaa)) (zb2 (zbe zlQ (pv 0) (pv 1) (zat _))))))),?_⟩
 ac_rfl
 refine zk1 ?_
 refine zdx (λe=>?_) (λe=>by rw[e] at q;exact q)
 rw[e,Bool.true_and] at q
 ac_rfl
 refine zk1 ?_
 refine zdx (λe=>?_) (λe=>by rw[e] at q;exact q)
 rw[e,Bool.true_and] at q
 ac_rfl
 exact q
inductive Q1c (K:Fg)(vs:List V)(H:Hp)(Q:VK)(E:XK):Prop
 | mk (v:V) (n:Int) (d:Dd):vs=[v,.int n]->Rep K H (toD d) v->zhR d->(∀ H',Same H H'->Q (.bl (zbK n d)) H')->Q1c K vs H Q E
variable {d:D}
theorem zaT{ds:List D}(h:Reps K H (d::ds) xs):∃ v r,xs=v::r/\Rep K H d v/\Reps K H ds r:=by unfold Reps at h;exact h
theorem zdZ(h:Reps K H [] xs):xs=[]:=by unfold Reps at h;exact h
theorem zdt(h:Rep K H (.int i) v):v=.int i:=by unfold Rep at h;exact h
theorem zf4{i:Str}(h:Rep K H (.str i) v):v=.str i:=by unfold Rep at h;exact h
theorem zlL{j:Int}(h:Rep K H (.tup [.int i,.int j]) v):∃ a,v=.ref a/\SqT K H a [.int i,.int j]:=by
 obtain⟨a,xs,rfl,h1,h2⟩:=zes h
 obtain⟨v1,r1,rfl,e1,h2⟩:=zaT h2
 obtain⟨v2,r2,rfl,e2,h2⟩:=zaT h2
 cases zdZ h2;cases zdt e1;cases zdt e2
 exact⟨a,rfl,h1⟩
theorem zqP:decide (("part" : Str) ="set")=false:=by decide +kernel
theorem znS:decide (("draw" : Str) ="set")=false/\decide (("draw" : Str) ="part")=false:=by decide +kernel
theorem zk2:decide (("turn" : Str) ="set")=false/\decide (("turn" : Str) ="part")=false/\decide (("turn" : Str) ="draw")=false:=by decide +kernel
theorem zja:decide (("hold" : Str) ="set")=false/\decide (("hold" : Str) ="part")=false/\decide (("hold" : Str) ="draw")=false/\decide (("hold" : Str) ="turn")=false:=by decide +kernel
theorem zhI:decide (("call" : Str) ="set")=false/\decide (("call" : Str) ="part")=false/\decide (("call" : Str) ="draw")=false/\decide (("call" : Str) ="turn")=false/\decide (("call" : Str) ="hold")=false:=by decide +kernel
include B Z Q27 Q1b Q24 in
theorem zjb (Q21:Fn P w K mg b8 "call_right" ["number","given","taken"] 4 (Q20 K))(Q1f:Fn P w K mg b8 "range_right" ["low","high"] 3 (Q1e K))(F:Fun K "deed_right" "deed_right" zeb f fd)(m:mg "deed_right"=some (.ref f)):Fn P w K mg b8 "deed_right" ["deed","last_place"] 5 (Q1c K):=by
 refine Fn.of (k:=4) F zfw m (λ_ _ _ _ _ _ us hl=>(by obtain⟨_,_,rfl⟩:=len2 hl;rfl)) (λvs H Q E h=>?_) (λcdv A outer s H vs Q E hr h=>?_)
 ·first
  | (obtain⟨_,_,_,rfl,_⟩:=h;rfl)
 obtain⟨v,n,d,rfl,hR,h9,q⟩:=h
 obtain⟨gl,g_LEFT_SPOTS,hL⟩:=B.t_LEFT_SPOTS
 refine⟨_,(zaf (zas (i:=2) zfw.nd (zav (k_ix K) (pv 0) zad))
   (zaf (za4 (zax (k_eq K hr) (pv 2) zbi (zat _)) (zag (zan (zbF (zap Q24 hr rfl (zaH (zav (k_ix K) (pv 0) zad) zaa)) (zb2 (zap Q1b hr rfl (zaH (zav (k_ix K) (pv 0) zad) (zab (zb1 rfl g_LEFT_SPOTS) zaa))))))) zaA)
   (zaf (za4 (zax (k_eq K hr) (pv 2) zbi (zat _)) (zag (zan (zbF (zap Q24 hr rfl (zaH (zav (k_ix K) (pv 0) zad) zaa)) (zbF (zap Q1b hr rfl (zaH (zav (k_ix K) (pv 0) zad) (zab (zb1 rfl g_LEFT_SPOTS) zaa))) (zb2 (zap Q27 hr rfl (zam zad (zaH (zav (k_ix K) (pv 0) zad) (zab (za9 rfl B.c_GREATEST_BY) zaa))))))))) zaA)
   (zaf (za4 (zax (k_eq K hr) (pv 2) zbi (zat _)) (zag (zan (zbF (zap Q24 hr rfl (zaH (zav (k_ix K) (pv 0) zad) zaa)) (zb2 (zap Q1f hr rfl (zaH (zav (k_ix K) (pv 0) zad) (zaH (zav (k_ix K) (pv 0) zad) zaa))))))) zaA)
   (zaf (za4 (zax (k_eq K hr) (pv 2) zbi (zat _)) (zag (zan (zbF (zap Q1b hr rfl (zaH (zav (k_ix K) (pv 0) zad) (zab (zb1 rfl g_LEFT_SPOTS) zaa))) (zb2 (zap Q27 hr rfl (zam zad (zaH (zav (k_ix K) (pv 0) zad) (zab (pv 1) zaa)))))))) zaA)
   (zaf (za4 (zax (k_eq K hr) (pv 2) zbi (zat _)) (zag (zan (zap Q1b hr rfl (zaH (zav (k_ix K) (pv 0) zad) (zab (zb1 rfl g_LEFT_SPOTS) zaa))))) zaA)
   (zag (zan (zap Q21 hr rfl (zaH (zav (k_ix K) (pv 0) zad) (zaH (zav (k_ix K) (pv 0) zad) (zaH (zav (k_ix K) (pv 0) zad) zaa)))))))))))),?_⟩
 have sp9:∀ s∈([7,8]:List Nat),s<9:=by decide
 cases d with
 | set hd l=>
  obtain⟨a,xs,rfl,hA,hx⟩:=zes hR
  obtain⟨v1,r1,rfl,e1,hx⟩:=zaT hx
  obtain⟨v2,r2,rfl,e2,hx⟩:=zaT hx
  obtain⟨v3,r3,rfl,e3,hx⟩:=zaT hx
  cases zdZ hx;cases zf4 e1;cases zdt e2
  obtain⟨la,rfl,hla⟩:=zbd.mp e3
  ac_rfl
  refine zaL hA (v:=.str "set") rfl ?_
  ac_rfl
  rw[decide_eq_true rfl]
  ac_rfl
  refine zaL hA (v:=.int hd) rfl ?_
  ac_rfl
  refine zlK ?_
  show ∃ c,V.bl (zb8 hd)=.bl c/\_
  simp only[zbK] at q
  refine zdx (λe=>?_) (λe=>by have q1:=q _ (Same.refl _);rw[e] at q1;exact q1)
  rw[e,Bool.true_and] at q
  ac_rfl
  refine zaL hA (v:=.ref la) rfl ?_
  ac_rfl
  exact⟨la,gl,l,[7,8],rfl,hla,hL _,h9,by decide,sp9,λH1 s1=>q _ s1⟩
 | part hd l b=>
  obtain⟨a,xs,rfl,hA,hx⟩:=zes hR
  obtain⟨v1,r1,rfl,e1,hx⟩:=zaT hx
  obtain⟨v2,r2,rfl,e2,hx⟩:=zaT hx
  obtain⟨v3,r3,rfl,e3,hx⟩:=zaT hx
  obtain⟨v4,r4,rfl,e4,hx⟩:=zaT hx
  cases zdZ hx;cases zf4 e1;cases zdt e2;cases zdt e4
  obtain⟨la,rfl,hla⟩:=zbd.mp e3
  ac_rfl
  refine zaL hA (v:=.str "part") rfl ?_
  ac_rfl
  rw[zqP]
  ac_rfl
  rw[decide_eq_true rfl]
  ac_rfl
  refine zaL hA (v:=.int hd) rfl ?_
  ac_rfl
  refine zlK ?_
  show ∃ c,V.bl (zb8 hd)=.bl c/\_
  simp only[zbK] at q
  refine zdx (λe=>?_) (λe=>by have q1:=q _ (Same.refl _);rw[e] at q1;exact q1)
  rw[e,Bool.true_and] at q
  ac_rfl
  refine zaL hA (v:=.ref la) rfl ?_
  ac_rfl
  refine⟨la,gl,l,[7,8],rfl,hla,hL _,h9,by decide,sp9,λH1 s1=>?_⟩
  refine zdx (λe=>?_) (λe=>by have q1:=q _ s1;rw[e] at q1;exact q1)
  rw[e,Bool.true_and] at q
  ac_rfl
  refine zaL (s1.tup hA) (v:=.int b) rfl ?_
  ac_rfl
  refine zcZ ?_
  exact q _ s1
 | draw hd lo hi=>
  obtain⟨a,xs,rfl,hA,hx⟩:=zes hR
  obtain⟨v1,r1,rfl,e1,hx⟩:=zaT hx
  obtain⟨v2,r2,rfl,e2,hx⟩:=zaT hx
  obtain⟨v3,r3,rfl,e3,hx⟩:=zaT hx
  obtain⟨v4,r4,rfl,e4,hx⟩:=zaT hx
  cases zdZ hx;cases zf4 e1;cases zdt e2;cases zdt e3;cases zdt e4
  ac_rfl
  refine zaL hA (v:=.str "draw") rfl ?_
  ac_rfl
  rw[znS.1]
  ac_rfl
  rw[znS.2]
  ac_rfl
  rw[decide_eq_true rfl]
  ac_rfl
  refine zaL hA (v:=.int hd) rfl ?_
  ac_rfl
  refine zlK ?_
  show ∃ c,V.bl (zb8 hd)=.bl c/\_
  simp only[zbK] at q
  refine zdx (λe=>?_) (λe=>by have q1:=q _ (Same.refl _);rw[e] at q1;exact q1)
  rw[e,Bool.true_and] at q
  ac_rfl
  refine zaL hA (v:=.int lo) rfl ?_
  ac_rfl
  refine zaL hA (v:=.int hi) rfl ?_
  ac_rfl
  exact⟨lo,hi,rfl,q _ (Same.refl _)⟩
 | turn l p=>
  obtain⟨a,xs,rfl,hA,hx⟩:=zes hR
  obtain⟨v1,r1,rfl,e1,hx⟩:=zaT hx
  obtain⟨v2,r2,rfl,e2,hx⟩:=zaT hx
  obtain⟨v3,r3,rfl,e3,hx⟩:=zaT hx
  cases zdZ hx;cases zf4 e1;cases zdt e3
  obtain⟨la,rfl,hla⟩:=zbd.mp e2
  ac_rfl
  refine zaL hA (v:=.str "turn") rfl ?_
  ac_rfl
  rw[zk2.1]
  ac_rfl
  rw[zk2.2.1]
  ac_rfl
  rw[zk2.2.2]
  ac_rfl
  rw[decide_eq_true rfl]
  ac_rfl
  refine zaL hA (v:=.ref la) rfl ?_
  ac_rfl
  simp only[zbK] at q
  refine⟨la,gl,l,[7,8],rfl,hla,hL _,h9,by decide,sp9,λH1 s1=>?_⟩
  refine zdx (λe=>?_) (λe=>by have q1:=q _ s1;rw[e] at q1;exact q1)
  rw[e,Bool.true_and] at q
  ac_rfl
  refine zaL (s1.tup hA) (v:=.int p) rfl ?_
  ac_rfl
  refine zcZ ?_
  exact q _ s1
 | hold l=>
  obtain⟨a,xs,rfl,hA,hx⟩:=zes hR
  obtain⟨v1,r1,rfl,e1,hx⟩:=zaT hx
  obtain⟨v2,r2,rfl,e2,hx⟩:=zaT hx
  cases zdZ hx;cases zf4 e1
  obtain⟨la,rfl,hla⟩:=zbd.mp e2
  ac_rfl
  refine zaL hA (v:=.str "hold") rfl ?_
  ac_rfl
  rw[zja.1]
  ac_rfl
  rw[zja.2.1]
  ac_rfl
  rw[zja.2.2.1]
  ac_rfl
  rw[zja.2.2.2]
  ac_rfl
  rw[decide_eq_true rfl]
  ac_rfl
  refine zaL hA (v:=.ref la) rfl ?_
  ac_rfl
  exact⟨la,gl,l,[7,8],rfl,hla,hL _,h9,by decide,sp9,λH1 s1=>q _ s1⟩
 | call m g0 g1 t0 t1=>
  obtain⟨a,xs,rfl,hA,hx⟩:=zes hR
  obtain⟨v1,r1,rfl,e1,hx⟩:=zaT hx
  obtain⟨v2,r2,rfl,e2,hx⟩:=zaT hx
  obtain⟨v3,r3,rfl,e3,hx⟩:=zaT hx
  obtain⟨v4,r4,rfl,e4,hx⟩:=zaT hx
  cases zdZ hx;cases zf4 e1;cases zdt e2
  obtain⟨ga,rfl,hga⟩:=zlL e3
  obtain⟨ta,rfl,hta⟩:=zlL e4
  ac_rfl
  refine zaL hA (v:=.str "call") rfl ?_
  ac_rfl
  rw[zhI.1]
  ac_rfl
  rw[zhI.2.1]
  ac_rfl
  rw[zhI.2.2.1]
  ac_rfl
  rw[zhI.2.2.2.1]
  ac_rfl
  rw[zhI.2.2.2.2]
  ac_rfl
  refine zaL hA (v:=.int m) rfl ?_
  ac_rfl
  refine zaL hA (v:=.ref ga) rfl ?_
  ac_rfl
  refine zaL hA (v:=.ref ta) rfl ?_
  ac_rfl
  exact⟨m,ga,ta,g0,g1,t0,t1,rfl,hga,hta,λH1 s1=>q _ s1⟩
inductive Q14 (K:Fg)(vs:List V)(H:Hp)(Q:VK)(E:XK):Prop
 | mk (a:Addr) (ds:List Dd):vs=[.ref a]->Rep K H (.lst (ds.map toD)) (.ref a)->ds.length<=1000->(∀ d∈ds,zhR d)->(∀ H',Same H H'->Q (.bl (ze7 ds)) H')->Q14 K vs H Q E
include B Z Q27 in
theorem zh1 (Q1d:Fn P w K mg b8 "deed_right" ["deed","last_place"] 5 (Q1c K))(F:Fun K "deeds_right" "deeds_right" zcD f fd)(m:mg "deeds_right"=some (.ref f)):Fn P w K mg b8 "deeds_right" ["deeds"] 6 (Q14 K):=by
 refine Fn.of (k:=5) F zeP m (λ_ _ _ _ _ _ us hl=>(by obtain⟨_,rfl⟩:=len1 hl;rfl)) (λvs H Q E h=>?_) (λcdv A outer s H vs Q E hr h=>?_)
 ·first
  | (obtain⟨_,_,rfl,_⟩:=h;rfl)
 obtain⟨a,ds,rfl,hA,l1000,h9,q⟩:=h
 refine⟨_,(zaf (zas (i:=1) zeP.nd (zaw (zdV K) rfl B.len L2.boot_len (zab (pv 0) zaa)))
   (zag (zan (zbF (zap Q27 hr rfl (zam zad (zab (pv 1) (zab (za9 rfl B.c_MOST_DEEDS) zaa)))) (zb2 (zaw (ziO K rfl) rfl B.all L2.zcG (zcy (za6 rfl (COk.m (sc0:=zae zcD) (N:=["deeds","count"]) (N':=["deeds","count","deed"]) (ms:=[false,false,true])) (za8 K (pv 0)) (λ_ _ _ _ _=>(zaD (i:=2) (ndS (N:=["deeds","count","deed"])))) (λ_ _ _ _ _=>zaN) (λ_ _ _ _ _=>(zap Q1d hr rfl (zab (pv 2) (zab (pv 1) zaa))))) zaa))))))),?_⟩
 unfold Rep at hA
 obtain⟨a',xs,e,hA,hx⟩:=hA
 cases e
 have lx:=hx.length
 rw[zlm] at lx
 unfold ze7 btw at q
 ac_rfl
 refine zer (.inl hA) ?_
 rw[<-lx]
 ac_rfl
 refine zcZ ?_
 refine zdx (λe=>?_) (λe=>by have q1:=q _ (Same.refl _);rw[e] at q1;exact q1)
 rw[e,Bool.true_and] at q
 ac_rfl
 refine⟨a,rfl,⟨_,hA⟩,?_⟩
 refine zaW (zaZ hA) ((ds.map (zbK (ds.length:Int))).map D.bl) (by simp;omega) (zaq (by omega)) (λk x d H1 R hk hd s1 hx' hR=>?_) (λv H1 s1 n1=>?_)
 ·obtain⟨d2,hd2,hrx⟩:=Reps.get' hx hx'
  rw[zgm] at hd2
  obtain⟨l,hl,rfl⟩:=zme.mp hd2
  rw[zgm,zgm,hl] at hd
  cases hd
  ac_rfl
  refine⟨_,_,l,rfl,Rep.same s1 _ hrx,h9 l (zmg hl),λH2 s2=>?_⟩
  exact hR _ _ s2 New.bl
 obtain⟨la,rfl,la0,la1⟩:=New.bls n1
 ac_rfl
 refine ziN (SqL.of la1) ?_
 exact q _ s1
inductive Q16 (K:Fg)(C:Nat->Addr)(vs:List V)(H:Hp)(Q:VK)(E:XK):Prop
 | mk (p:Addr) (needs leaves:List (List Int)) (ds:List Dd) (notes:List (List (List Int))):vs=[.ref p]->zby K (C 0) H p needs leaves (ds.map toD) notes->notes.length<=1000->(∀ ls∈notes,ls.length<=1000/\∀ l∈ls,l.length=9)->(∀ H',Same H H'->Q (.bl (ze8 ds notes)) H')->Q16 K C vs H Q E
include B Z Q19 in
theorem zh2 (F:Fun K "notes_right" "notes_right" zcE f fd)(m:mg "notes_right"=some (.ref f)):Fn P w K mg b8 "notes_right" ["craft"] 5 (Q16 K C):=by
 refine Fn.of (k:=4) F zeQ m (λ_ _ _ _ _ _ us hl=>(by obtain⟨_,rfl⟩:=len1 hl;rfl)) (λvs H Q E h=>?_) (λcdv A outer s H vs Q E hr h=>?_)
 ·first
  | (obtain⟨_,_,_,_,_,rfl,_⟩:=h;rfl)
 obtain⟨p,needs,leaves,ds,notes,rfl,hC,l1000,h9,q⟩:=h
 obtain⟨gl,g_LEFT_SPOTS,hL⟩:=B.t_LEFT_SPOTS
 have sp9:∀ s∈([7,8]:List Nat),s<9:=by decide
 refine⟨_,(zaf (zas (i:=1) zeQ.nd (zbe (k_eq K hr) (zaw (zdV K) rfl B.len L2.boot_len (zba (zay K (pv 0) rfl) zaa)) (zaw (zdV K) rfl B.len L2.boot_len (zba (zay K (pv 0) rfl) zaa)) (zat _)))
   (zag (zan (zbF (pv 1) (zb2 (zaw (ziO K rfl) rfl B.all L2.zcG (zcy (za6 rfl (COk.m (sc0:=zae zcE) (N:=["craft","as_many"]) (N':=["craft","as_many","lines"]) (ms:=[false,false,true])) (za8 K (zay K (pv 0) rfl)) (λ_ _ _ _ _=>(zaD (i:=2) (ndS (N:=["craft","as_many","lines"])))) (λ_ _ _ _ _=>zaN) (λ_ _ _ _ _=>(zap Q19 hr rfl (zab (pv 2) (zab (zb1 rfl g_LEFT_SPOTS) zaa))))) zaa))))))),?_⟩
 obtain⟨dx,w1,w2,w3,w4,hp,r1,r2,r3,r4⟩:=hC
 unfold Rep at r3 r4
 obtain⟨b3,xs3,rfl,q3,z3⟩:=r3
 obtain⟨b4,xs4,rfl,q4,z4⟩:=r4
 have m3:=z3.length
 have m4:=z4.length
 rw[zlm] at m3 m4
 unfold ze8 at q
 ac_rfl
 refine⟨p,(C 0),dx,_,_,rfl,hp,Z.c_Craft,Z.n_Craft_notes,zdc _ _ _ _,?_⟩
 ac_rfl
 refine zer (.inl q4) ?_
 ac_rfl
 refine⟨p,(C 0),dx,_,_,rfl,hp,Z.c_Craft,Z.n_Craft_deeds,zbP _ _ _ _,?_⟩
 ac_rfl
 refine zer (.inl q3) ?_
 rw[<-m3,<-m4]
 ac_rfl
 refine zeK (λe=>?_) (λe=>by have q1:=q _ (Same.refl _);rw[e] at q1;exact q1)
 rw[e,Bool.true_and] at q
 ac_rfl
 refine⟨p,(C 0),dx,_,_,rfl,hp,Z.c_Craft,Z.n_Craft_notes,zdc _ _ _ _,?_⟩
 refine⟨b4,rfl,⟨_,q4⟩,?_⟩
 refine zaW (zaZ q4) ((notes.map (zdm [7,8])).map D.bl) (by simp;omega) (zaq (by omega)) (λk x d H1 R hk hd s1 hx' hR=>?_) (λv H1 s1 n1=>?_)
 ·obtain⟨d2,hd2,hrx⟩:=Reps.get' z4 hx'
  rw[zgm] at hd2
  obtain⟨l,hl,rfl⟩:=zme.mp hd2
  rw[zgm,zgm,hl] at hd
  cases hd
  have hr':=Rep.same s1 _ hrx
  obtain⟨xa,rfl⟩:∃ b,x=.ref b:=by unfold zaF Rep at hrx;obtain⟨a,_,e,_⟩:=hrx;exact⟨a,e⟩
  have h9':=h9 l (zmg hl)
  ac_rfl
  refine⟨xa,gl,l,[7,8],rfl,hr',hL _,h9'.1,h9'.2,by decide,sp9,λH2 s2=>?_⟩
  exact hR _ _ s2 New.bl
 obtain⟨la,rfl,la0,la1⟩:=New.bls n1
 ac_rfl
 refine ziN (SqL.of la1) ?_
 exact q _ s1
inductive Q11 (K:Fg)(C:Nat->Addr)(vs:List V)(H:Hp)(Q:VK)(E:XK):Prop
 | mk (p:Addr) (needs leaves:List (List Int)) (ds:List Dd) (notes:List (List (List Int))):vs=[.ref p]->zby K (C 0) H p needs leaves (ds.map toD) notes->needs.length<=1000->leaves.length<=1000->ds.length<=1000->notes.length<=1000->(∀ l∈needs,l.length=9)->(∀ l∈leaves,l.length=9)->(∀ d∈ds,zhR d)->(∀ ls∈notes,ls.length<=1000/\∀ l∈ls,l.length=9)->(∀ H',Same H H'->Q (.bl (zd2 needs leaves ds notes)) H')->Q11 K C vs H Q E
include B Z in
theorem zo6 (Q13:Fn P w K mg b8 "oath_right" ["craft"] 5 (Q12 K C))(Q15:Fn P w K mg b8 "deeds_right" ["deeds"] 6 (Q14 K))(Q17:Fn P w K mg b8 "notes_right" ["craft"] 5 (Q16 K C))(F:Fun K "right" "right" zkt f fd)(m:mg "right"=some (.ref f)):Fn P w K mg b8 "right" ["craft"] 7 (Q11 K C):=by
 refine Fn.of (k:=6) F zo0 m (λ_ _ _ _ _ _ us hl=>(by obtain⟨_,rfl⟩:=len1 hl;rfl)) (λvs H Q E h=>?_) (λcdv A outer s H vs Q E hr h=>?_)
 ·first
  | (obtain⟨_,_,_,_,_,rfl,_⟩:=h;rfl)
 obtain⟨p,needs,leaves,ds,notes,rfl,hC,ln,ll,ld,lo,h9n,h9l,h9d,h9o,q⟩:=h
 refine⟨_,(zag (zan (zbF (zap Q13 hr rfl (zab (pv 0) zaa)) (zbF (zap Q15 hr rfl (zba (zay K (pv 0) rfl) zaa)) (zb2 (zap Q17 hr rfl (zab (pv 0) zaa))))))),?_⟩
 unfold zd2 at q
 ac_rfl
 refine⟨p,needs,leaves,_,notes,rfl,hC,ln,ll,h9n,h9l,λH1 s1=>?_⟩
 refine zdx (λe=>?_) (λe=>by have q1:=q _ s1;rw[e] at q1;exact q1)
 rw[e,Bool.true_and] at q
 ac_rfl
 obtain⟨dx,w1,w2,w3,w4,hp,r1,r2,r3,r4⟩:=zby.same s1 hC
 obtain⟨b3,rfl⟩:∃ b,w3=.ref b:=by unfold Rep at r3;obtain⟨a,_,e,_⟩:=r3;exact⟨a,e⟩
 refine⟨p,(C 0),dx,_,_,rfl,hp,Z.c_Craft,Z.n_Craft_deeds,zbP _ _ _ _,?_⟩
 ac_rfl
 refine⟨b3,ds,rfl,r3,ld,h9d,λH2 s2=>?_⟩
 have s3:=s1.trans s2
 refine zdx (λe=>?_) (λe=>by have q1:=q _ s3;rw[e] at q1;exact q1)
 rw[e,Bool.true_and] at q
 ac_rfl
 exact⟨p,needs,leaves,ds,notes,rfl,zby.same s3 hC,lo,h9o,λH4 s4=>q _ (s3.trans s4)⟩
inductive Q28 (K:Fg)(C:Nat->Addr)(vs:List V)(H:Hp)(Q:VK)(E:XK):Prop
 | mk (p:Addr) (place:Int) (needs leaves:List (List Int)) (deeds:List D) (notes:List (List (List Int))):vs=[.ref p,.int place]->zby K (C 0) H p needs leaves deeds notes->0<=place->place<=(deeds.length:Int)->deeds.length=notes.length->deeds.length<=1000->leaves.length<=1000->(∀ l∈leaves,l.length=9)->(∀ ls∈notes,ls.length<=1000)->(∀ v H',Same H H'->New H H' (zaF (dueL leaves notes place)) v->Q v H')->Q28 K C vs H Q E
variable (Q3:Fn P w K mg b8 "bare" ["i"] 1 (zeC K))(Q7:Fn P w K mg b8 "turned" ["line","eight"] 2 (Q6 K))
include B Z Qa Q27 Q3 Q7 in
theorem znT (F:Fun K "due_at" "due_at" zff f fd)(m:mg "due_at"=some (.ref f)):Fn P w K mg b8 "due_at" ["craft","place"] 3 (Q28 K C):=by
 refine Fn.of (k:=2) F zj4 m (λ_ _ _ _ _ _ us hl=>(by obtain⟨_,_,rfl⟩:=len2 hl;rfl)) (λvs H Q E h=>?_) (λcdv A outer s H vs Q E hr h=>?_)
 ·first
  | (obtain⟨_,_,_,_,_,_,rfl,_⟩:=h;rfl)
 obtain⟨p,place,needs,leaves,deeds,notes,rfl,hC,h0,hn,hdn,h1000,hl1000,h9,hns,q⟩:=h
 obtain⟨ga,g_LEFT_AS_HANDS,hT⟩:=B.t_LEFT_AS_HANDS
 refine⟨_,(zaf (za4 (zax (k_eq K hr) (pv 1) (zaw (zdV K) rfl B.len L2.boot_len (zba (zay K (pv 0) rfl) zaa)) (zat _)) (zaf (zas (i:=2) zj4.nd (za6 rfl (COk.m (sc0:=zae zff) (N:=["craft","place","eight"]) (N':=["craft","place","eight","i"]) (ms:=[false,false,false,true])) (zjF K (zb1 rfl g_LEFT_AS_HANDS)) (λ_ _ _ _ _=>(zaD (i:=3) (ndS (N:=["craft","place","eight","i"])))) (λ_ _ _ _ _=>zaN) (λ_ _ _ _ _=>(zap Q3 hr rfl (zab (pv 3) zaa)))))
   (zag (zan (za6 rfl (COk.m (sc0:=zae zff) (N:=["craft","place","eight"]) (N':=["craft","place","eight","line"]) (ms:=[false,false,false,true])) (za8 K (zay K (pv 0) rfl)) (λ_ _ _ _ _=>(zaD (i:=3) (ndS (N:=["craft","place","eight","line"])))) (λ_ _ _ _ _=>zaN) (λ_ _ _ _ _=>(zap Q7 hr rfl (zab (pv 3) (zab (pv 2) zaa)))))))) zaA)
   (zaf (za4 (zcp (zap Q27 hr rfl (zam zad (zab (pv 1) (zb7 (zaQ zjo (zaw (c_min rfl) rfl B.min L2.zoB (zaE (zaw (zdV K) rfl B.len L2.boot_len (zba (zay K (pv 0) rfl) zaa)) (zaE (zaw (zdV K) rfl B.len L2.boot_len (zba (zay K (pv 0) rfl) zaa)) zaa))) zad) zaa))))) (zag (zan (zap Qa hr rfl (zaH (zav (k_ix K) (zay K (pv 0) rfl) (pv 1)) zaa)))) zaA)
   (zag (zan (zaR zaa))))),?_⟩
 obtain⟨dx,w1,w2,w3,w4,hp,r1,r2,r3,r4⟩:=hC
 unfold zaF Rep at r2
 unfold Rep at r3 r4
 obtain⟨b2,xs2,rfl,q2,z2⟩:=r2
 obtain⟨b3,xs3,rfl,q3,z3⟩:=r3
 obtain⟨b4,xs4,rfl,q4,z4⟩:=r4
 have m2:=z2.length
 have m3:=z3.length
 have m4:=z4.length
 rw[zlm] at m2 m4
 ac_rfl
 refine⟨p,(C 0),dx,_,_,rfl,hp,Z.c_Craft,Z.n_Craft_deeds,zbP _ _ _ _,?_⟩
 ac_rfl
 refine zer (.inl q3) ?_
 ac_rfl
 unfold dueL at q
 refine ite2 (λe=>?_) (λe=>?_)
 ·have e':place=(xs3.length:Int):=of_decide_eq_true e
  rw[if_pos (by omega)] at q
  ac_rfl
  refine⟨ga,rfl,⟨_,hT _⟩,?_⟩
  refine zaW (n:=8) (zfk (xs:=zlA.map V.int) (hT H)) (zdA.map nums) (by simp[zdA,zlA]) (by decide) (λj x d H1 R hj hd s1 hx hR=>?_) (λv H1 s1 n1=>?_)
  ·unfold zdA at hd
   rw[zgm] at hx
   obtain⟨i,hi,rfl⟩:=zme.mp hx
   rw[zgm,zgm,hi] at hd
   cases hd
   ac_rfl
   refine zdd λv H2 s2 n2=>?_
   exact hR _ _ s2 n2
  have hE:Rep K H1 (.lst (zdA.map nums)) v:=New.rep n1
  obtain⟨ea,evs,rfl,ea0,ea1,ew⟩:=New.news n1
  ac_rfl
  refine⟨p,(C 0),dx,_,_,rfl,s1 _ _ hp,Z.c_Craft,Z.n_Craft_leaves,zb9 _ _ _ _,?_⟩
  refine⟨b2,rfl,⟨_,s1.seq q2⟩,?_⟩
  refine zaW (zaZ (s1.seq q2)) ((leaves.map λl=>zaY l zdA).map nums) (by rw[zlm,zlm];omega) (zaq (by omega)) (λj x d H2 R hj hd s2 hx hR=>?_) (λv H2 s2 n2=>?_)
  ·obtain⟨d2,hd2,hrx⟩:=Reps.get' z2 hx
   rw[zgm] at hd2
   obtain⟨l,hl,rfl⟩:=zme.mp hd2
   rw[zgm,zgm,hl] at hd
   cases hd
   obtain⟨xa,rfl,hxa⟩:=zbd.mp (Rep.same (s1.trans s2) _ hrx)
   have l9:=h9 l (zmg hl)
   cases l with
   | nil=>simp at l9
   | cons c fs=>
    ac_rfl
    refine⟨xa,ea,c,fs,zdA,rfl,hxa,Rep.same s2 _ hE,by simpa using l9,by simp[zdA,zlA],zmd,λi l w el _ n hn=>?_,λv' H3 s3 n3=>?_⟩
    ·rcases zmf l (zmg el) n hn with z | z <;> subst z <;> exact .inl ⟨by decide,by decide⟩
    ·exact hR _ _ s3 n3
  exact q _ _ (s1.trans s2) (n2.back s1)
 ·have e':¬ place=(xs3.length:Int):=of_decide_eq_false (Bool.eq_false_iff.mpr e)
  rw[if_neg (by omega)] at q
  ac_rfl
  refine⟨p,(C 0),dx,_,_,rfl,hp,Z.c_Craft,Z.n_Craft_deeds,zbP _ _ _ _,?_⟩
  ac_rfl
  refine zer (.inl q3) ?_
  ac_rfl
  refine⟨p,(C 0),dx,_,_,rfl,hp,Z.c_Craft,Z.n_Craft_notes,zdc _ _ _ _,?_⟩
  ac_rfl
  refine zer (.inl q4) ?_
  ac_rfl
  refine i_min ?_
  ac_rfl
  refine zcZ ?_
  rw[show (if ((xs4.length:Nat):Int)<((xs3.length:Nat):Int) then ((xs4.length:Nat):Int) else ((xs3.length:Nat):Int))=(xs3.length:Int) by rw[if_neg (by omega)],decide_eq_true h0,decide_eq_true (show place<=(xs3.length:Int) - 1 by omega)]
  show ∃ c,V.bl true=.bl c/\_
  ac_rfl
  refine⟨p,(C 0),dx,_,_,rfl,hp,Z.c_Craft,Z.n_Craft_notes,zdc _ _ _ _,?_⟩
  ac_rfl
  have pl:place.toNat<notes.length:=by omega
  obtain⟨x,hx,hr4⟩:=z4.get (i:=place.toNat) (d:=zaF notes[place.toNat]) (by simp[pl])
  have ei:atI xs4 place=some x:=by
   have:=zaB hx
   rwa [show ((place.toNat:Nat):Int)=place by omega] at this
  obtain⟨b,rfl⟩:∃ b,x=.ref b:=by unfold zaF Rep at hr4;obtain⟨a,_,e,_⟩:=hr4;exact⟨a,e⟩
  refine zbX q4 ei ?_
  ac_rfl
  refine⟨b,_,rfl,hr4,hns _ (List.getElem_mem pl),λv H1 s1 n1=>?_⟩
  refine q _ _ s1 ?_
  rw[show notes.getD place.toNat []=notes[place.toNat] by simp[List.getD,pl]]
  exact n1
inductive Q3b (K:Fg)(vs:List V)(H:Hp)(Q:VK)(E:XK):Prop
 | mk (d:Addr) (kvs:List (Key × V)) (ch:Nat->Option (List Int)):vs=[.ref d]->H d=some (.dK kvs)->(∀ i:Nat,i<8->(ch i=none/\valV kvs (.inl (0+(i:Int)))=none)\/∃ a l,ch i=some l/\valV kvs (.inl (0+(i:Int)))=some (.ref a)/\l.length=9/\H a=some (.lst (l.map V.int)))->(∀ a H',Same H H'->H a=none->Ls H' a (zaP ch)->Q (.ref a) H')->Q3b K vs H Q E
theorem zke (i:Int):(zaC i).length=9:=by simp[zaC]
theorem zbA (ch:Nat->Option (List Int)):(zaP ch).length=8:=by simp[zaP]
theorem zmt(h:n∈zaC i):n=0\/n=1:=by
 unfold zaC at h
 rcases List.mem_cons.mp h with h | h
 ·exact .inl h
 ·obtain⟨k,_,rfl⟩:=zmm.mp h
  split
  ·exact .inr rfl
  ·exact .inl rfl
theorem zce (i:Int):Sm (zaC i):=λn hn=>by rcases zmt hn with z | z <;> subst z <;> exact⟨by decide,by decide⟩
theorem zd0 {eight:List (List Int)}{ws:List Int}(h:∀ l∈eight,Sm l):zoS eight ws:=λi l w e _ n hn=>.inl (h l (zmg e) n hn)
theorem zbn {ch:Nat->Option (List Int)}{P:List Int->Prop}(hb:∀ i:Int,P (zaC i))(hc:∀ i l,ch i=some l->P l):∀ l∈zaP ch,P l:=λl hl=>by
 obtain⟨i,_,rfl⟩:=zmm.mp hl
 cases e:ch i with
 | none=>exact hb _
 | some l=>exact hc i l e
theorem zf5{k:Int}{P:List Int->Prop}(h:P l):∀ i m,ch1 k l i=some m->P m:=λi m e=>by
 unfold ch1 at e
 split at e
 ·cases e;exact h
 ·cases e
theorem znU{k:Int}(h9:l.length=9)(ha:H a=some (.lst (l.map V.int))):∀ i:Nat,i<8->(ch1 k l i=none/\valV (zbR [] [(Sum.inl k,V.ref a)]) (.inl (0+(i:Int)))=none)\/∃ b m,ch1 k l i=some m/\valV (zbR [] [(Sum.inl k,V.ref a)]) (.inl (0+(i:Int)))=some (.ref b)/\m.length=9/\H b=some (.lst (m.map V.int)):=λi _=>by
 have e:valV (zbR [] [((Sum.inl k:Key),V.ref a)]) (.inl (0+(i:Int)))=if (Sum.inl (0+(i:Int)):Key)=Sum.inl k then some (.ref a) else none:=by
  show valV (putK [] _ _) _=_
  rw[zeF];rfl
 by_cases z:k=0+(i:Int)
 ·refine .inr ⟨a,l,by unfold ch1;rw[if_pos z],?_,h9,ha⟩
  rw[e,if_pos (by rw[z])]
 ·refine .inl ⟨by unfold ch1;rw[if_neg z],?_⟩
  rw[e,if_neg (by intro w;injection w with w;exact z w.symm)]
theorem zjc{P:List Int->Prop}(h0:P l0)(h1:P l1):∀ i m,ch2 k0 l0 k1 l1 i=some m->P m:=λi m e=>by
 unfold ch2 at e
 split at e
 ·cases e;exact h1
 split at e
 ·cases e;exact h0
 ·cases e
theorem zpK{a0 a1:Addr}(h90:l0.length=9)(h91:l1.length=9)(ha0:H a0=some (.lst (l0.map V.int)))(ha1:H a1=some (.lst (l1.map V.int))):∀ i:Nat,i<8->(ch2 k0 l0 k1 l1 i=none/\valV (zbR [] [(Sum.inl k0,V.ref a0),(Sum.inl k1,V.ref a1)]) (.inl (0+(i:Int)))=none)\/∃ b m,ch2 k0 l0 k1 l1 i=some m/\valV (zbR [] [(Sum.inl k0,V.ref a0),(Sum.inl k1,V.ref a1)]) (.inl (0+(i:Int)))=some (.ref b)/\m.length=9/\H b=some (.lst (m.map V.int)):=λi _=>by
 have e:valV (zbR [] [((Sum.inl k0:Key),V.ref a0),(Sum.inl k1,V.ref a1)]) (.inl (0+(i:Int)))=if (Sum.inl (0+(i:Int)):Key)=Sum.inl k1 then some (.ref a1) else if (Sum.inl (0+(i:Int)):Key)=Sum.inl k0 then some (.ref a0) else none:=by
  show valV (putK (putK [] _ _) _ _) _=_
  rw[zeF,zeF];rfl
 by_cases z1:k1=0+(i:Int)
 ·refine .inr ⟨a1,l1,by unfold ch2;rw[if_pos z1],?_,h91,ha1⟩
  rw[e,if_pos (by rw[z1])]
 ·have n1:¬ (Sum.inl (0+(i:Int)):Key)=Sum.inl k1:=by intro w;injection w with w;exact z1 w.symm
  by_cases z0:k0=0+(i:Int)
  ·refine .inr ⟨a0,l0,by unfold ch2;rw[if_neg z1,if_pos z0],?_,h90,ha0⟩
   rw[e,if_neg n1,if_pos (by rw[z0])]
  ·refine .inl ⟨by unfold ch2;rw[if_neg z1,if_neg z0],?_⟩
   rw[e,if_neg n1,if_neg (by intro w;injection w with w;exact z0 w.symm)]
include B Z Q3 in
theorem zjd (F:Fun K "eight_with" "eight_with" zc4 f fd)(m:mg "eight_with"=some (.ref f)):Fn P w K mg b8 "eight_with" ["changes"] 2 (Q3b K):=by
 refine Fn.of (k:=1) F zi3 m (λ_ _ _ _ _ _ us hl=>(by obtain⟨_,rfl⟩:=len1 hl;rfl)) (λvs H Q E h=>?_) (λcdv A outer s H vs Q E hr h=>?_)
 ·first
  | (obtain⟨_,_,_,rfl,_⟩:=h;rfl)
 obtain⟨d,kvs,ch,rfl,hd,hch,q⟩:=h
 refine⟨_,(zag (zan (za6 rfl (COk.m (sc0:=zae zc4) (N:=["changes"]) (N':=["changes","i"]) (ms:=[false,true])) (zei rfl B.range (zab (za9 rfl B.c_FACTORS) zaa)) (λ_ _ _ _ _=>(zaD (i:=1) (ndS (N:=["changes","i"])))) (λ_ _ _ _ _=>zaN) (λ_ _ _ _ _=>(zok (hr_u hr) (pv 0) (pv 1) (zap Q3 hr rfl (zab (pv 1) zaa)) ⟨rfl,rfl,rfl,rfl⟩))))),?_⟩
 have h9:∀ l∈zaP ch,l.length=9:=λl hl=>by
  obtain⟨i,hi,rfl⟩:=zmm.mp hl
  rcases hch i (List.mem_range.mp hi) with ⟨e,_⟩ | ⟨a,l,e,_,hl9,_⟩
  ·rw[e];exact zke _
  ·rw[e];exact hl9
 ac_rfl
 refine zhb (by decide) (by decide) ?_
 refine zqo (n:=8) zfS (zaP ch) (zbA ch) (by decide) h9 (λi x l H1 R hi hl s1 hx hR=>?_) (λa H1 s1 ha hL=>?_)
 ·subst hx
  have el:l=(ch i).getD (zaC (0+(i:Int))):=by
   unfold zaP at hl
   rw[zgm,List.getElem?_range hi] at hl
   cases hl;rfl
  ac_rfl
  refine⟨d,rfl,.inl ⟨kvs,.inl (s1 _ _ hd)⟩,?_⟩
  ac_rfl
  refine zdd λv H2 s2 n2=>?_
  obtain⟨b,rfl,b0,b1⟩:=New.iif.mp n2
  have hg:DGet H2 d (.int (0+(i:Int))) (valV kvs (.inl (0+(i:Int)))):=DGet.k (k:=.inl (0+(i:Int))) (s2 _ _ (s1 _ _ hd))
  refine⟨_,hg,?_⟩
  rcases hch i hi with ⟨e,ev⟩ | ⟨a,l',e,ev,_,ha⟩
  ·rw[ev]
   exact hR b _ s2 (by rw[el,e];exact b1)
  ·rw[ev]
   exact hR a _ s2 (by rw[el,e];exact s2 _ _ (s1 _ _ ha))
 ·ac_rfl
  exact q a H1 s1 ha hL
inductive Q37 (K:Fg)(vs:List V)(H:Hp)(Q:VK)(E:XK):Prop
 | mk (a b:Addr) (goals hyps:List (List Int)):vs=[.ref a,.ref b]->Rep K H (zaF goals) (.ref a)->Rep K H (zaF hyps) (.ref b)->goals.length<=1000->hyps.length<=1000->(∀ v H',Same H H'->New H H' (.lst (goals.map λg=>zd9 g hyps)) v->Q v H')->Q37 K vs H Q E
include B Z Qa in
theorem zkf (F:Fun K "each_from" "each_from" zdQ f fd)(m:mg "each_from"=some (.ref f)):Fn P w K mg b8 "each_from" ["goals","hypotheses"] 2 (Q37 K):=by
 refine Fn.of (k:=1) F zj5 m (λ_ _ _ _ _ _ us hl=>(by obtain⟨_,_,rfl⟩:=len2 hl;rfl)) (λvs H Q E h=>?_) (λcdv A outer s H vs Q E hr h=>?_)
 ·first
  | (obtain⟨_,_,_,_,rfl,_⟩:=h;rfl)
 obtain⟨a,b,goals,hyps,rfl,hA,hB,hg,hh,q⟩:=h
 refine⟨_,(zag (zan (za6 rfl (COk.m (sc0:=zae zdQ) (N:=["goals","hypotheses"]) (N':=["goals","hypotheses","goal"]) (ms:=[false,false,true])) (za8 K (pv 0)) (λ_ _ _ _ _=>(zaD (i:=2) (ndS (N:=["goals","hypotheses","goal"])))) (λ_ _ _ _ _=>zaN) (λ_ _ _ _ _=>(zdu (zaE (zcS (zlo K) rfl B.list L2.zdw (zab (pv 2) zaa)) (zaE (zap Qa hr rfl (zab (pv 1) zaa)) zaa))))))),?_⟩
 unfold zaF Rep at hA
 obtain⟨_,xs,e,hA,hx⟩:=hA
 cases e
 have lx:=hx.length
 rw[zlm] at lx
 ac_rfl
 refine⟨a,rfl,⟨_,hA⟩,?_⟩
 refine zaW (zaZ hA) (goals.map λg=>zd9 g hyps) (by simp[lx]) (zaq (by omega)) (λi x d H1 R hi hd s1 hx' hR=>?_) (λv H1 s1 n1=>?_)
 ·obtain⟨d2,hd2,hrx⟩:=hx.get' hx'
  rw[zgm] at hd2
  obtain⟨l,hl',rfl⟩:=zme.mp hd2
  rw[zgm,hl'] at hd
  cases hd
  obtain⟨xa,rfl,hxa⟩:=zbd.mp (Rep.same s1 _ hrx)
  ac_rfl
  refine zgI (.inl hxa) λp hp=>?_
  have t1:=zah hp (.lst (l.map V.int))
  ac_rfl
  refine⟨b,hyps,rfl,Rep.same (s1.trans t1) _ hB,hh,λv H2 s2 n2=>?_⟩
  ac_rfl
  refine⟨(by walk_at "sm"),λT hT=>?_⟩
  have t3:=zah hT (.tup [.ref p,v])
  obtain⟨fp,f1,f2,f3⟩:=n2
  have pn:p∉fp:=λm=>by have:=f3 p m;rw[zac] at this;cases this
  refine hR _ _ (t1.trans (s2.trans t3)) (New.tup (fp:=p::fp) (zaj.cany (f:=[p]) (fp:=fp) (RepF.line (t3 _ _ (s2 _ _ zac))) ?_) (List.nodup_cons.mpr ⟨pn,f2⟩) (λc hc=>?_) zac)
  ·have:=zaj.cany (RepF.sq t3.sq _ f1) (zaj.nil (H:=upd H2 T (.tup [.ref p,v])))
   rw[List.append_nil] at this
   exact this
  ·rcases List.mem_cons.mp hc with z | z
   ·rw[z];exact hp
   ·exact t1.free (f3 c z)
 ·ac_rfl
  exact q _ _ s1 n1
inductive Q39 (K:Fg)(vs:List V)(H:Hp)(Q:VK)(E:XK):Prop
 | mk (a b:Addr) (ls eight:List (List Int)):vs=[.ref a,.ref b]->Rep K H (zaF ls) (.ref a)->Rep K H (.lst (eight.map nums)) (.ref b)->ls.length<=1000->(∀ l∈ls,l.length=9/\zoS eight l.tail)->eight.length=8->(∀ l∈eight,l.length=9)->(∀ v H',Same H H'->New H H' (zaF (ls.map λl=>zaY l eight)) v->Q v H')->Q39 K vs H Q E
include B Z Q7 in
theorem zje (F:Fun K "all_turned" "all_turned" zc3 f fd)(m:mg "all_turned"=some (.ref f)):Fn P w K mg b8 "all_turned" ["lines","eight"] 3 (Q39 K):=by
 refine Fn.of (k:=2) F zi2 m (λ_ _ _ _ _ _ us hl=>(by obtain⟨_,_,rfl⟩:=len2 hl;rfl)) (λvs H Q E h=>?_) (λcdv A outer s H vs Q E hr h=>?_)
 ·first
  | (obtain⟨_,_,_,_,rfl,_⟩:=h;rfl)
 obtain⟨a,b,ls,eight,rfl,hA,hB,hl,hk,l8,e9,q⟩:=h
 refine⟨_,(zag (zan (za6 rfl (COk.m (sc0:=zae zc3) (N:=["lines","eight"]) (N':=["lines","eight","line"]) (ms:=[false,false,true])) (za8 K (pv 0)) (λ_ _ _ _ _=>(zaD (i:=2) (ndS (N:=["lines","eight","line"])))) (λ_ _ _ _ _=>zaN) (λ_ _ _ _ _=>(zap Q7 hr rfl (zab (pv 2) (zab (pv 1) zaa))))))),?_⟩
 unfold zaF Rep at hA
 obtain⟨_,xs,e,hA,hx⟩:=hA
 cases e
 have lx:=hx.length
 rw[zlm] at lx
 ac_rfl
 refine⟨a,rfl,⟨_,hA⟩,?_⟩
 refine zaW (zaZ hA) ((ls.map λl=>zaY l eight).map nums) (by simp[lx]) (zaq (by omega)) (λi x d H1 R hi hd s1 hx' hR=>?_) (λv H1 s1 n1=>?_)
 ·obtain⟨d2,hd2,hrx⟩:=hx.get' hx'
  rw[zgm] at hd2
  obtain⟨l,hl',rfl⟩:=zme.mp hd2
  rw[zgm,zgm,hl'] at hd
  cases hd
  obtain⟨xa,rfl,hxa⟩:=zbd.mp (Rep.same s1 _ hrx)
  obtain⟨l9,ok⟩:=hk l (zmg hl')
  obtain⟨c,fs,rfl⟩:∃ c fs,l=c::fs:=by
   cases l with
   | nil=>simp at l9
   | cons c fs=>exact⟨c,fs,rfl⟩
  ac_rfl
  refine⟨xa,b,c,fs,eight,rfl,hxa,Rep.same s1 _ hB,by simpa using l9,l8,e9,ok,λv H2 s2 n2=>?_⟩
  exact hR _ _ s2 n2
 ·ac_rfl
  exact q _ _ s1 n1
abbrev zpL:=kL
def zck (K:Fg):Sp:=λvs H Q _=>∃ i:Int,vs=[.int i]/\∀ v H',Same H H'->New H H' (nums (zpL i)) v->Q v H'
theorem zf6(q:∀ v H',Same H H'->New H H' (nums (zpL i)) v->Q v H'):zck K [.int i] H Q E:=⟨i,rfl,q⟩
include B Z in
theorem zk3 (F:Fun K "constant" "constant" zfH f fd)(m:mg "constant"=some (.ref f)):Fn P w K mg b8 "constant" ["number"] 1 (zck K):=by
 refine Fn.of (k:=0) F zkY m (λ_ _ _ _ _ _ us hl=>(by obtain⟨_,rfl⟩:=len1 hl;rfl)) (λvs H Q E h=>?_) (λcdv A outer s H vs Q E hr h=>?_)
 ·first
  | (obtain⟨_,rfl,_⟩:=h;rfl)
 obtain⟨i,rfl,q⟩:=h
 refine⟨_,(zag (zan (zaQ (zaX K) (zaR (zab (pv 0) zaa)) (zaQ zc9 (zaR (zam zad zaa)) (za9 rfl B.c_FACTORS))))),?_⟩
 ac_rfl
 refine⟨(by walk_at "sm"),λp hp=>?_⟩
 ac_rfl
 refine⟨(by walk_at "sm"),λp2 hp2=>?_⟩
 ac_rfl
 refine .inr ⟨p2,8,[.int 0],rfl,rfl,zac,by decide,by decide,by decide,λp3 hp3=>?_⟩
 have t1:=zah hp (.lst [.int i])
 have t2:=zah hp2 (.lst [.int 0])
 have t3:=zah hp3 (.lst (List.replicate (8:Int).toNat [V.int 0]).flatten)
 ac_rfl
 refine zbt (t3 _ _ (t2 _ _ zac)) zac (zaq (by show 1+8<=1000;decide)) λp4 hp4=>?_
 have s:=t1.trans (t2.trans t3)
 exact q _ _ (s.trans (zah hp4 _)) (New.iif.mpr ⟨p4,rfl,s.free hp4,zac⟩)
theorem sm_k(h:-(2 ^ 64)<n/\n<2 ^ 64):Sm (kL n):=λm hm=>by
 unfold kL at hm
 rcases List.mem_cons.mp hm with z | z
 ·rw[z];exact h
 ·rw[(List.mem_replicate.mp z).2];exact⟨by decide,by decide⟩
theorem znV {P:List Int->Prop}(h4:P (zaC 4))(h5:P (zaC 5))(hk:P (kL 0)):∀ i m,ch4 i=some m->P m:=λi m e=>by
 unfold ch4 at e
 split at e
 ·cases e;exact h4
 split at e
 ·cases e;exact h5
 split at e
 ·cases e;exact hk
 split at e
 ·cases e;exact hk
 ·cases e
theorem zso{d:Addr}(ha:H a=some (.lst ((zaC 4).map V.int)))(hb:H b=some (.lst ((zaC 5).map V.int)))(hc:H c=some (.lst ((kL 0).map V.int)))(hd:H d=some (.lst ((kL 0).map V.int))):∀ i:Nat,i<8->(ch4 i=none/\valV (zbR [] [(Sum.inl 0,V.ref a),(Sum.inl 1,V.ref b),(Sum.inl 2,V.ref c),(Sum.inl 3,V.ref d)]) (.inl (0+(i:Int)))=none)\/∃ x m,ch4 i=some m/\valV (zbR [] [(Sum.inl 0,V.ref a),(Sum.inl 1,V.ref b),(Sum.inl 2,V.ref c),(Sum.inl 3,V.ref d)]) (.inl (0+(i:Int)))=some (.ref x)/\m.length=9/\H x=some (.lst (m.map V.int)):=λi hi=>by
 have e:∀ k:Key,valV (zbR [] [((Sum.inl 0:Key),V.ref a),(Sum.inl 1,V.ref b),(Sum.inl 2,V.ref c),(Sum.inl 3,V.ref d)]) k=if k=Sum.inl 3 then some (.ref d) else if k=Sum.inl 2 then some (.ref c) else if k=Sum.inl 1 then some (.ref b) else if k=Sum.inl 0 then some (.ref a) else none:=λk=>by
  simp only[zbR,List.foldl_cons,List.foldl_nil,zeF]
  rfl
 rw[e]
 match i,hi with
 | 0,_=>exact .inr ⟨a,_,rfl,rfl,zar 4,ha⟩
 | 1,_=>exact .inr ⟨b,_,rfl,rfl,zar 5,hb⟩
 | 2,_=>exact .inr ⟨c,_,rfl,rfl,zbu 0,hc⟩
 | 3,_=>exact .inr ⟨d,_,rfl,rfl,zbu 0,hd⟩
 | 4,_=>exact .inl ⟨rfl,rfl⟩
 | 5,_=>exact .inl ⟨rfl,rfl⟩
 | 6,_=>exact .inl ⟨rfl,rfl⟩
 | 7,_=>exact .inl ⟨rfl,rfl⟩
inductive Q2b (K:Fg)(C:Nat->Addr)(vs:List V)(H:Hp)(Q:VK)(E:XK):Prop
 | mk (p:Addr) (needs leaves:List (List Int)) (deeds:List D) (notes:List (List (List Int))):vs=[.ref p]->zby K (C 0) H p needs leaves deeds notes->Good needs leaves deeds.length notes->(∀ v H',Same H H'->New H H' (.lst (zjV needs leaves notes)) v->Q v H')->Q2b K C vs H Q E
variable (Q3c:Fn P w K mg b8 "eight_with" ["changes"] 2 (Q3b K))(Q38:Fn P w K mg b8 "each_from" ["goals","hypotheses"] 2 (Q37 K))(Q3a:Fn P w K mg b8 "all_turned" ["lines","eight"] 3 (Q39 K))(Q3d:Fn P w K mg b8 "constant" ["number"] 1 (zck K))(Q29:Fn P w K mg b8 "due_at" ["craft","place"] 3 (Q28 K C))
include B Z Q3 Q3c Q38 Q3a Q3d Q29 in
theorem zhJ (F:Fun K "first_duties" "first_duties" zdi f fd)(m:mg "first_duties"=some (.ref f)):Fn P w K mg b8 "first_duties" ["craft"] 4 (Q2b K C):=by
 refine Fn.of (k:=3) F zez m (λ_ _ _ _ _ _ us hl=>(by obtain⟨_,rfl⟩:=len1 hl;rfl)) (λvs H Q E h=>?_) (λcdv A outer s H vs Q E hr h=>?_)
 ·first
  | (obtain⟨_,_,_,_,_,rfl,_⟩:=h;rfl)
 obtain⟨p,needs,leaves,deeds,notes,rfl,hC,hg,q⟩:=h
 refine⟨_,(zaf (zas (i:=1) zez.nd (zap Q3c hr rfl (za0 (zfP (zb5 zad (zap Q3 hr rfl (zab (za9 rfl B.c_ASKED_0) zaa)) (zb5 zad (zap Q3 hr rfl (zab (za9 rfl B.c_ASKED_1) zaa)) (zb5 zad (zap Q3d hr rfl (zam zad zaa)) (zb5 zad (zap Q3d hr rfl (zam zad zaa)) zfO)))) rfl rfl (by simp) (by simp)) zaa)))
   (zag (zan (zap Q38 hr rfl (zaE (zap Q3a hr rfl (zaE (zap Q29 hr rfl (zab (pv 0) (zam zad zaa))) (zab (pv 1) zaa))) (zba (zay K (pv 0) rfl) zaa)))))),?_⟩
 walk_at "q"
 nofun
 refine zil λdp hdp=>?_
 have u0:=zah hdp (.dK [])
 nofun
 refine zdd λv H1 s1 n1=>?_
 obtain⟨b1,rfl,b10,b11⟩:=New.iif.mp n1
 nofun
 refine zdd λv H2 s2 n2=>?_
 obtain⟨b2,rfl,b20,b21⟩:=New.iif.mp n2
 nofun
 refine zf6 λv H3 s3 n3=>?_
 obtain⟨b3,rfl,b30,b31⟩:=New.iif.mp n3
 nofun
 refine zf6 λv H4 s4 n4=>?_
 obtain⟨b4,rfl,b40,b41⟩:=New.iif.mp n4
 nofun
 have d1:H1 dp=some (.dK []):=s1 _ _ zac
 have d4:H4 dp=some (.dK []):=s4 _ _ (s3 _ _ (s2 _ _ d1))
 have ne:∀ {b:Addr}{l:List Int},H4 b=some (.lst (l.map V.int))->b≠dp:=λe z=>by rw[z,d4] at e;cases e
 have f1:=s4 _ _ (s3 _ _ (s2 _ _ b11))
 have f2:=s4 _ _ (s3 _ _ b21)
 have f3:=s4 _ _ b31
 refine⟨d4,[(.inl 0,.ref b1),(.inl 1,.ref b2),(.inl 2,.ref b3),(.inl 3,.ref b4)],rfl,by simp,?_⟩
 have s05:Same H (upd H4 dp (.dK (zbR [] [(.inl 0,.ref b1),(.inl 1,.ref b2),(.inl 2,.ref b3),(.inl 3,.ref b4)]))):=(u0.trans (s1.trans (s2.trans (s3.trans s4)))).put hdp
 nofun
 refine⟨dp,_,ch4,rfl,zac,zso (by rw[zai (ne f1)];exact f1) (by rw[zai (ne f2)];exact f2) (by rw[zai (ne f3)];exact f3) (by rw[zai (ne b41)];exact b41),λea H6 s6 ea0 hE=>?_⟩
 have s06:=s05.trans s6
 have m9:∀ l∈zaP ch4,l.length=9:=zbn (λi=>zar i) (znV (zar 4) (zar 5) (zbu 0))
 have msm:∀ l∈zaP ch4,Sm l:=zbn (λi=>zce i) (znV (zce 4) (zce 5) (sm_k ⟨by decide,by decide⟩))
 have gd:=hg.due 0
 nofun
 refine⟨p,0,needs,leaves,deeds,notes,rfl,hC.same s06,by decide,by omega,hg.dn,by have:=hg.d;omega,by have:=hg.l;omega,hg.l9,λls hl=>by have:=(hg.o ls hl).1;omega,λv H7 s7 n7=>?_⟩
 have rv:=New.rep (K:=K) n7
 obtain⟨da,rfl⟩:∃ b,v=.ref b:=by obtain⟨b,_,e,_⟩:=New.news n7;exact⟨b,e⟩
 nofun
 refine⟨da,ea,_,zaP ch4,rfl,rv,(hE.same s7).rep,by omega,λl hl=>⟨gd.2 l hl,zd0 msm⟩,zbA _,m9,λv H8 s8 n8=>?_⟩
 have rv8:=New.rep (K:=K) n8
 obtain⟨ga,rfl⟩:∃ b,v=.ref b:=by obtain⟨b,_,e,_⟩:=New.news n8;exact⟨b,e⟩
 have s08:=s06.trans (s7.trans s8)
 obtain⟨dx,w1,w2,w3,w4,hp,r1,r2,r3,r4⟩:=hC.same s08
 obtain⟨y1,rfl⟩:∃ b,w1=.ref b:=by unfold zaF Rep at r1;obtain⟨a,_,e,_⟩:=r1;exact⟨a,e⟩
 nofun
 refine⟨p,(C 0),dx,_,_,rfl,hp,Z.c_Craft,Z.n_Craft_needs,zcn _ _ _ _,?_⟩
 nofun
 refine⟨ga,y1,_,needs,rfl,rv8,r1,by simp;omega,by have:=hg.n;omega,λv H9 s9 n9=>?_⟩
 exact q _ _ (s08.trans s9) (n9.back s08)
--LEN (obtain ⟨_, _, _, _, _, _, _, _, _, _, _, _, _, _, _, _, _, rfl, _⟩ := h; rfl)
inductive Q35 (K:Fg)(C:Nat->Addr)(vs:List V)(H:Hp)(Q:VK)(E:XK):Prop
 | mk (t na aa o g2 t2:Addr) (m g0 g1 t0 t1:Int) (notes after needs leaves:List (List Int)) (deeds:List D) (ns:List (List (List Int))):vs=[.ref t,.ref na,.ref aa,.ref o]->SqT K H t [.str "call",.int m,.ref g2,.ref t2]->SqT K H g2 [.int g0,.int g1]->SqT K H t2 [.int t0,.int t1]->Ls H na notes->Rep K H (zaF after) (.ref aa)->notes.length<=100->after.length<=100->(∀ l∈notes,l.length=9)->(∀ l∈after,l.length=9)->zby K (C 0) H o needs leaves deeds ns->Good needs leaves deeds.length ns->(∀ v H',Same H H'->New H H' (.lst (((needs.map λl=>zaY l (zaP (ch2 4 (zaC g0) 5 (zaC g1)))).map λg=>zd9 g notes)++(after.map λl=>zaY l (zaP (ch2 t0 (zaC 6) t1 (zaC 7)))).map λg=>zd9 g (notes++leaves.map λl=>zaY l (zaP (ch2 4 (zaC g0) 5 (zaC g1)))))) v->Q v H')->Q35 K C vs H Q E
include B Z Q3 Q3c Q38 Q3a in
theorem zh3 (F:Fun K "call_duties" "call_duties" zdP f fd)(m:mg "call_duties"=some (.ref f)):Fn P w K mg b8 "call_duties" ["deed","notes","after","other"] 4 (Q35 K C):=by
 refine Fn.of (k:=3) F zbD m (λ_ _ _ _ _ _ us hl=>(by obtain⟨_,_,_,_,rfl⟩:=len4 hl;rfl)) (λvs H Q E h=>?_) (λcdv A outer s H vs Q E hr h=>?_)
 ·first
  | (obtain⟨_,_,_,_,_,_,_,_,_,_,_,_,_,_,_,_,_,rfl,_⟩:=h;rfl)
 obtain⟨t,na,aa,o,g2,t2,m,g0,g1,t0,t1,notes,after,needs,leaves,deeds,ns,rfl,hT,hG,hK,hN,hA,ln,lf,o9,a9,hC,hg,q⟩:=h
 refine⟨_,(zaf (zas (i:=4) zbD.nd (zav (k_ix K) (pv 0) zad))
   (zaf (zas (i:=5) zbD.nd (zav (k_ix K) (pv 0) zad))
   (zaf (zas (i:=6) zbD.nd (zap Q3c hr rfl (za0 (zfP (zb5 (za9 rfl B.c_ASKED_0) (zap Q3 hr rfl (zaH (zav (k_ix K) (pv 4) zad) zaa)) (zb5 (za9 rfl B.c_ASKED_1) (zap Q3 hr rfl (zaH (zav (k_ix K) (pv 4) zad) zaa)) zfO)) rfl rfl (by simp) (by simp)) zaa)))
   (zaf (zas (i:=7) zbD.nd (zap Q3c hr rfl (za0 (zfP (zb5 (zav (k_ix K) (pv 5) zad) (zap Q3 hr rfl (zab (za9 rfl B.c_NEW_0) zaa)) (zb5 (zav (k_ix K) (pv 5) zad) (zap Q3 hr rfl (zab (za9 rfl B.c_NEW_1) zaa)) zfO)) rfl rfl (by simp) (by simp)) zaa)))
   (zaf (zas (i:=8) zbD.nd (zap Q38 hr rfl (zaE (zap Q3a hr rfl (zba (zay K (pv 3) rfl) (zab (pv 6) zaa))) (zab (pv 1) zaa))))
   (zag (zan (zaQ (zaX K) (pv 8) (zap Q38 hr rfl (zaE (zap Q3a hr rfl (zab (pv 2) (zab (pv 7) zaa))) (zb7 (zaQ (zaX K) (pv 1) (zap Q3a hr rfl (zba (zay K (pv 3) rfl) (zab (pv 6) zaa)))) zaa))))))))))),?_⟩
 walk_at "q"
 nofun
 refine zaL hT (v:=.ref g2) (zaB (j:=2) rfl) ?_
 nofun
 walk_at "q"
 nofun
 refine zaL hT (v:=.ref t2) (zaB (j:=3) rfl) ?_
 nofun
 walk_at "q"
 nofun
 refine zil λdp hdp=>?_
 have u0:=zah hdp (.dK [])
 nofun
 refine zaL (u0.tup hG) (v:=.int g0) zbs ?_
 nofun
 refine zdd λv H1 s1 n1=>?_
 obtain⟨b1,rfl,b10,b11⟩:=New.iif.mp n1
 nofun
 refine zaL ((u0.trans s1).tup hG) (v:=.int g1) (zaB (j:=1) rfl) ?_
 nofun
 refine zdd λv H2 s2 n2=>?_
 obtain⟨b2,rfl,b20,b21⟩:=New.iif.mp n2
 nofun
 have d2:H2 dp=some (.dK []):=s2 _ _ (s1 _ _ zac)
 have ne:∀ {b:Addr}{l:List Int},H2 b=some (.lst (l.map V.int))->b≠dp:=λe z=>by rw[z,d2] at e;cases e
 have f1:=s2 _ _ b11
 refine⟨d2,[(.inl 4,.ref b1),(.inl 5,.ref b2)],rfl,by simp,?_⟩
 have s03:Same H (upd H2 dp (.dK (zbR [] [(.inl 4,.ref b1),(.inl 5,.ref b2)]))):=(u0.trans (s1.trans s2)).put hdp
 nofun
 refine⟨dp,_,ch2 4 (zaC g0) 5 (zaC g1),rfl,zac,zpK (zar g0) (zar g1) (by rw[zai (ne f1)];exact f1) (by rw[zai (ne b21)];exact b21),λea H4 s4 ea0 hE=>?_⟩
 have s04:=s03.trans s4
 have e9:∀ l∈zaP (ch2 4 (zaC g0) 5 (zaC g1)),l.length=9:=zbn (λi=>zar i) (zjc (zar g0) (zar g1))
 have esm:∀ l∈zaP (ch2 4 (zaC g0) 5 (zaC g1)),Sm l:=zbn (λi=>zce i) (zjc (zce g0) (zce g1))
 have elen:=zbA (ch2 4 (zaC g0) 5 (zaC g1))
 generalize zaP (ch2 4 (zaC g0) 5 (zaC g1))=giving at hE e9 esm elen q
 nofun
 walk_at "q"
 nofun
 refine zil λdq hdq=>?_
 have w0:=zah hdq (.dK [])
 nofun
 refine zaL ((s04.trans w0).tup hK) (v:=.int t0) zbs ?_
 nofun
 refine zdd λv H5 s5 n5=>?_
 obtain⟨b3,rfl,b30,b31⟩:=New.iif.mp n5
 nofun
 refine zaL ((s04.trans (w0.trans s5)).tup hK) (v:=.int t1) (zaB (j:=1) rfl) ?_
 nofun
 refine zdd λv H6 s6 n6=>?_
 obtain⟨b4,rfl,b40,b41⟩:=New.iif.mp n6
 nofun
 have d6:H6 dq=some (.dK []):=s6 _ _ (s5 _ _ zac)
 have ne6:∀ {b:Addr}{l:List Int},H6 b=some (.lst (l.map V.int))->b≠dq:=λe z=>by rw[z,d6] at e;cases e
 have f3:=s6 _ _ b31
 refine⟨d6,[(.inl t0,.ref b3),(.inl t1,.ref b4)],rfl,by simp,?_⟩
 have s47:Same H4 (upd H6 dq (.dK (zbR [] [(.inl t0,.ref b3),(.inl t1,.ref b4)]))):=(w0.trans (s5.trans s6)).put hdq
 nofun
 refine⟨dq,_,ch2 t0 (zaC 6) t1 (zaC 7),rfl,zac,zpK (zar 6) (zar 7) (by rw[zai (ne6 f3)];exact f3) (by rw[zai (ne6 b41)];exact b41),λta H8 s8 ta0 hF=>?_⟩
 have s48:=s47.trans s8
 have s08:=s04.trans s48
 have k9:∀ l∈zaP (ch2 t0 (zaC 6) t1 (zaC 7)),l.length=9:=zbn (λi=>zar i) (zjc (zar 6) (zar 7))
 have ksm:∀ l∈zaP (ch2 t0 (zaC 6) t1 (zaC 7)),Sm l:=zbn (λi=>zce i) (zjc (zce 6) (zce 7))
 have klen:=zbA (ch2 t0 (zaC 6) t1 (zaC 7))
 generalize zaP (ch2 t0 (zaC 6) t1 (zaC 7))=taking at hF k9 ksm klen q
 obtain⟨dx,w1,w2,w3,w4,hp,r1,r2,r3,r4⟩:=hC
 obtain⟨y1,rfl⟩:∃ b,w1=.ref b:=by unfold zaF Rep at r1;obtain⟨a,_,e,_⟩:=r1;exact⟨a,e⟩
 obtain⟨y2,rfl⟩:∃ b,w2=.ref b:=by unfold zaF Rep at r2;obtain⟨a,_,e,_⟩:=r2;exact⟨a,e⟩
 nofun
 walk_at "q"
 nofun
 refine⟨o,(C 0),dx,_,_,rfl,s08 _ _ hp,Z.c_Craft,Z.n_Craft_needs,zcn _ _ _ _,?_⟩
 nofun
 have hE8:=hE.same s48
 refine⟨y1,ea,needs,giving,rfl,Rep.same s08 _ r1,hE8.rep,by have:=hg.n;omega,λl hl=>⟨hg.n9 l hl,zd0 esm⟩,elen,e9,λv H9 s9 n9=>?_⟩
 have rv9:=New.rep (K:=K) n9
 obtain⟨ga,rfl⟩:∃ b,v=.ref b:=by obtain⟨b,_,e,_⟩:=New.news n9;exact⟨b,e⟩
 nofun
 have hN9:=hN.same (s08.trans s9)
 refine⟨ga,na,_,notes,rfl,rv9,hN9.rep,by simp;have:=hg.n;omega,by omega,λv1 Ha sa n1'=>?_⟩
 have s0a:=s08.trans (s9.trans sa)
 nofun
 refine⟨aa,ta,after,taking,rfl,Rep.same s0a _ hA,(hF.same (s9.trans sa)).rep,by omega,λl hl=>⟨a9 l hl,zd0 ksm⟩,klen,k9,λv Hb sb nb=>?_⟩
 have rvb:=New.rep (K:=K) nb
 obtain⟨ha,rfl⟩:∃ b,v=.ref b:=by obtain⟨b,_,e,_⟩:=New.news nb;exact⟨b,e⟩
 have s0b:=s0a.trans sb
 nofun
 refine⟨o,(C 0),dx,_,_,rfl,s0b _ _ hp,Z.c_Craft,Z.n_Craft_leaves,zb9 _ _ _ _,?_⟩
 nofun
 refine⟨y2,ea,leaves,giving,rfl,Rep.same s0b _ r2,(hE8.same (s9.trans (sa.trans sb))).rep,by have:=hg.l;omega,λl hl=>⟨hg.l9 l hl,zd0 esm⟩,elen,e9,λv Hc sc nc=>?_⟩
 obtain⟨la,rfl,la0,hL⟩:=nc.ls
 have s0c:=s0b.trans sc
 obtain⟨xs,hxs,lxs⟩:=(hN.same s0c).len
 have hLl:=hL.len
 obtain⟨bs,hbs,lbs,ibs⟩:=hL
 rw[zlm] at lbs
 nofun
 refine zbt hxs hbs (zaq (by rw[zlm];have:=hg.l;omega)) λp7 hp7=>?_
 have hM:=Ls.more (p:=p7) (bs:=bs) (ms:=leaves.map λl=>zaY l giving) (hN.same s0c) hxs (by rw[zlm];exact lbs) ibs hp7
 have t7:=zah hp7 (.lst (xs++bs.map V.ref))
 nofun
 refine⟨ha,p7,_,notes++leaves.map λl=>zaY l giving,rfl,Rep.same (sc.trans t7) _ rvb,hM.rep,by simp;omega,by simp;have:=hg.l;omega,λv2 Hd sd nd=>?_⟩
 obtain⟨a1,vs1,fa1,rfl,z1,y1',r1',_⟩:=New.lso n1'
 obtain⟨a2,vs2,fa2,rfl,z2,y2',r2',_⟩:=New.lso nd
 have l1:=r1'.length
 have l2:=r2'.length
 simp only[zlm] at l1 l2
 have sad:=sb.trans (sc.trans (t7.trans sd))
 nofun
 refine zbt (sad _ _ y1') y2' (zaq (by have:=hg.n;omega)) λp8 hp8=>?_
 exact q _ _ ((s0a.trans sad).trans (zah hp8 _)) (New.cat (n1'.back (s08.trans s9)) s0a sad (nd.back (sb.trans (sc.trans t7))) (sad _ _ y1') y2' hp8)
theorem zk4{d:Addr}{k j:List Int}(h:H a=some (.lst (l.map V.int)))(h':H c=some (.lst (k.map V.int)))(h2:H d=some (.lst (j.map V.int))):∀ (i:Nat) b m,[a,c,d][i]?=some b->[l,k,j][i]?=some m->H b=some (.lst (m.map V.int)):=λi b m e1 e2=>by
 cases i with
 | zero=>simp at e1 e2;subst e1;subst e2;exact h
 | succ i=>exact zcU h' h2 i b m (by simpa using e1) (by simpa using e2)
inductive Q2f (K:Fg)(vs:List V)(H:Hp)(Q:VK)(E:XK):Prop
 | mk (t na aa la:Addr) (h by':Int) (line:List Int) (notes after:List (List Int)):vs=[.ref t,.ref na,.ref aa]->SqT K H t [.str "part",.int h,.ref la,.int by']->H la=some (.lst (line.map V.int))->line.length=9->(-1000000<by'/\by'<1000000)->Ls H na notes->Rep K H (zaF after) (.ref aa)->notes.length<=100->after.length<=100->(∀ l∈after,l.length=9)->(∀ v H',Same H H'->New H H' (.lst ((after.map λl=>zaY l (zaP (ch1 h (zaC 6)))).map λg=>zd9 g (notes++[zdW line by',greatest line by']))) v->Q v H')->Q2f K vs H Q E
include B Z Q5 Q3 Q3c Q38 Q3a Q3d in
theorem zh4 (F:Fun K "part_duties" "part_duties" zdM f fd)(m:mg "part_duties"=some (.ref f)):Fn P w K mg b8 "part_duties" ["deed","notes","after"] 4 (Q2f K):=by
 refine Fn.of (k:=3) F zbZ m (λ_ _ _ _ _ _ us hl=>(by obtain⟨_,_,_,rfl⟩:=len3 hl;rfl)) (λvs H Q E h=>?_) (λcdv A outer s H vs Q E hr h=>?_)
 ·first
  | (obtain⟨_,_,_,_,_,_,_,_,_,rfl,_⟩:=h;rfl)
 obtain⟨t,na,aa,la,h,by',line,notes,after,rfl,hT,hla,l9,hby,hN,hA,ln,lf,a9,q⟩:=h
 refine⟨_,(zaf (zas (i:=3) zbZ.nd (zav (k_ix K) (pv 0) zad))
   (zaf (zas (i:=4) zbZ.nd (zav (k_ix K) (pv 0) zad))
   (zaf (zas (i:=5) zbZ.nd (zap Q5 hr rfl (zb6 (zaR (zab (pv 3) (zaE (zap Q3 hr rfl (zab (za9 rfl B.c_NEW_0) zaa)) zaa))) (zb6 (zaR (zam zad (ziQ (zcR zbJ (pv 4)) zaa))) zaa))))
   (zaf (zas (i:=6) zbZ.nd (zap Q5 hr rfl (zb6 (zaR (zaE (zap Q3 hr rfl (zab (za9 rfl B.c_NEW_0) zaa)) (zaE (zap Q3d hr rfl (zb7 (zaQ zjo (pv 4) zad) zaa)) (zab (pv 3) zaa)))) (zb6 (zaR (zab (pv 4) (zam zad (ziQ (zcR zbJ zad) zaa)))) zaa))))
   (zag (zan (zap Q38 hr rfl (zaE (zap Q3a hr rfl (zab (pv 2) (zaE (zap Q3c hr rfl (za0 (zfP (zb5 (zav (k_ix K) (pv 0) zad) (zap Q3 hr rfl (zab (za9 rfl B.c_NEW_0) zaa)) zfO) rfl rfl (by simp) (by simp)) zaa)) zaa))) (zb7 (zaQ (zaX K) (pv 1) (zaR (zab (pv 5) (zab (pv 6) zaa)))) zaa))))))))),?_⟩
 walk_at "q"
 nofun
 refine zaL hT (v:=.ref la) (zaB (j:=2) rfl) ?_
 nofun
 walk_at "q"
 nofun
 refine zaL hT (v:=.int by') (zaB (j:=3) rfl) ?_
 nofun
 walk_at "q"
 nofun
 refine zdd λv H1 s1 n1=>?_
 obtain⟨b1,rfl,b10,b11⟩:=New.iif.mp n1
 nofun
 refine⟨(by walk_at "sm"),λp hp=>?_⟩
 have t1:=zah hp (.lst [V.ref la,.ref b1])
 nofun
 refine⟨(by walk_at "sm"),λp2 hp2=>?_⟩
 have t2:=zah hp2 (.lst [V.int 1,.int (-by')])
 have s02:=s1.trans (t1.trans t2)
 nofun
 refine⟨p,p2,[line,zaC 6],[1,-by'],rfl,zdy (bs:=[la,b1]) (t2 _ _ zac) rfl (zcU (s02 _ _ hla) ((t1.trans t2) _ _ b11)),SqL.of zac,rfl,by simp,λl hl=>?_,λi l w _ e2 n _=>?_,λv H3 s3 n3=>?_⟩
 ·simp at hl;rcases hl with rfl | rfl
  ·exact l9
  ·exact zar 6
 ·have:w=1\/w=-by':=by
   have:=zmg e2
   simp at this;exact this
  rcases this with z | z <;> subst z <;> exact .inr ⟨by omega,by omega⟩
 obtain⟨fa,rfl,fa0,fa1⟩:=New.iif.mp n3
 have s03:=s02.trans s3
 nofun
 walk_at "q"
 nofun
 refine zdd λv H4 s4 n4=>?_
 obtain⟨b2,rfl,b20,b21⟩:=New.iif.mp n4
 nofun
 refine zf6 λv H5 s5 n5=>?_
 obtain⟨c2,rfl,c20,c21⟩:=New.iif.mp n5
 nofun
 refine⟨(by walk_at "sm"),λp3 hp3=>?_⟩
 have t3:=zah hp3 (.lst [V.ref b2,.ref c2,.ref la])
 nofun
 refine⟨(by walk_at "sm"),λp4 hp4=>?_⟩
 have t4:=zah hp4 (.lst [V.int by',.int 1,.int (-1)])
 have s35:=s4.trans (s5.trans (t3.trans t4))
 nofun
 refine⟨p3,p4,[zaC 6,kL (by' - 1),line],[by',1,-1],rfl,zdy (bs:=[b2,c2,la]) (t4 _ _ zac) rfl (zk4 ((s5.trans (t3.trans t4)) _ _ b21) ((t3.trans t4) _ _ c21) ((s03.trans s35) _ _ hla)),SqL.of zac,rfl,by simp,λl hl=>?_,λi l w _ e2 n _=>?_,λv H6 s6 n6=>?_⟩
 ·simp at hl;rcases hl with rfl | rfl | rfl
  ·exact zar 6
  ·exact zbu _
  ·exact l9
 ·have:w=by'\/w=1\/w=-1:=by
   have:=zmg e2
   simp at this;exact this
  rcases this with z | z | z <;> subst z <;> exact .inr ⟨by omega,by omega⟩
 obtain⟨ta,rfl,ta0,ta1⟩:=New.iif.mp n6
 have s36:=s35.trans s6
 have s06:=s03.trans s36
 nofun
 refine zil λdp hdp=>?_
 have u0:=zah hdp (.dK [])
 nofun
 refine zaL ((s06.trans u0).tup hT) (v:=.int h) (zaB (j:=1) rfl) ?_
 nofun
 refine zdd λv H7 s7 n7=>?_
 obtain⟨b3,rfl,b30,b31⟩:=New.iif.mp n7
 nofun
 refine⟨s7 _ _ zac,[(.inl h,.ref b3)],rfl,by simp,?_⟩
 have b3d:b3≠dp:=λz=>by rw[z,zac] at b30;cases b30
 have s67:Same H6 (upd H7 dp (.dK (zbR [] [(.inl h,.ref b3)]))):=(u0.trans s7).put hdp
 have s07:=s06.trans s67
 nofun
 refine⟨dp,_,ch1 h (zaC 6),rfl,zac,znU (zar 6) (by rw[zai b3d];exact b31),λea H8 s8 ea0 hE=>?_⟩
 have s08:=s07.trans s8
 have m9:∀ l∈zaP (ch1 h (zaC 6)),l.length=9:=zbn (λi=>zar i) (zf5 (zar 6))
 have msm:∀ l∈zaP (ch1 h (zaC 6)),Sm l:=zbn (λi=>zce i) (zf5 (zce 6))
 nofun
 refine⟨aa,ea,after,zaP (ch1 h (zaC 6)),rfl,Rep.same s08 _ hA,hE.rep,by omega,λl hl=>⟨a9 l hl,zd0 msm⟩,zbA _,m9,λv H9 s9 n9=>?_⟩
 have gv:=New.rep (K:=K) n9
 obtain⟨ga,rfl⟩:∃ b,v=.ref b:=by obtain⟨b,_,e,_⟩:=New.news n9;exact⟨b,e⟩
 have s09:=s08.trans s9
 have s69:=s67.trans (s8.trans s9)
 nofun
 refine⟨(by walk_at "sm"),λp5 hp5=>?_⟩
 have t5:=zah hp5 (.lst [V.ref fa,.ref ta])
 obtain⟨xs,hxs,lxs⟩:=(hN.same s09).len
 nofun
 refine zbt (t5 _ _ hxs) zac (zaq (by simp;omega)) λp6 hp6=>?_
 have hL:=Ls.more (p:=p6) (bs:=[fa,ta]) (ms:=[zdW line by',greatest line by']) ((hN.same s09).same t5) (t5 _ _ hxs) rfl (zcU (t5 _ _ (s69 _ _ (s36 _ _ fa1))) (t5 _ _ (s69 _ _ ta1))) hp6
 have t6:=zah hp6 (.lst (xs++[V.ref fa,.ref ta]))
 have t56:=t5.trans t6
 nofun
 refine⟨ga,p6,_,notes++[zdW line by',greatest line by'],rfl,Rep.same t56 _ gv,hL.rep,by simp;omega,by simp;omega,λv Ha sa na'=>?_⟩
 exact q _ _ (s09.trans (t56.trans sa)) (na'.back (s09.trans t56))
inductive Q31 (K:Fg)(vs:List V)(H:Hp)(Q:VK)(E:XK):Prop
 | mk (t na aa:Addr) (h lo hi:Int) (notes after:List (List Int)):vs=[.ref t,.ref na,.ref aa]->SqT K H t [.str "draw",.int h,.int lo,.int hi]->Ls H na notes->Rep K H (zaF after) (.ref aa)->notes.length<=100->after.length<=100->(∀ l∈after,l.length=9)->(∀ v H',Same H H'->New H H' (.lst ((after.map λl=>zaY l (zaP (ch1 h (zaC 6)))).map λg=>zd9 g (notes++[ze9 lo,zho hi]))) v->Q v H')->Q31 K vs H Q E
include B Z Q5 Q3 Q3c Q38 Q3a Q3d in
theorem zh5 (F:Fun K "draw_duties" "draw_duties" zdN f fd)(m:mg "draw_duties"=some (.ref f)):Fn P w K mg b8 "draw_duties" ["deed","notes","after"] 4 (Q31 K):=by
 refine Fn.of (k:=3) F zdq m (λ_ _ _ _ _ _ us hl=>(by obtain⟨_,_,_,rfl⟩:=len3 hl;rfl)) (λvs H Q E h=>?_) (λcdv A outer s H vs Q E hr h=>?_)
 ·first
  | (obtain⟨_,_,_,_,_,_,_,_,rfl,_⟩:=h;rfl)
 obtain⟨t,na,aa,h,lo,hi,notes,after,rfl,hT,hN,hA,ln,lf,a9,q⟩:=h
 refine⟨_,(zaf (zas (i:=3) zdq.nd (zap Q5 hr rfl (zb6 (zaR (zaE (zap Q3 hr rfl (zab (za9 rfl B.c_NEW_0) zaa)) (zaE (zap Q3d hr rfl (zaH (zav (k_ix K) (pv 0) zad) zaa)) zaa))) (zb6 (zaR (zam zad (ziQ (zcR zbJ zad) zaa))) zaa))))
   (zaf (zas (i:=4) zdq.nd (zap Q5 hr rfl (zb6 (zaR (zaE (zap Q3d hr rfl (zaH (zav (k_ix K) (pv 0) zad) zaa)) (zaE (zap Q3 hr rfl (zab (za9 rfl B.c_NEW_0) zaa)) zaa))) (zb6 (zaR (zam zad (ziQ (zcR zbJ zad) zaa))) zaa))))
   (zag (zan (zap Q38 hr rfl (zaE (zap Q3a hr rfl (zab (pv 2) (zaE (zap Q3c hr rfl (za0 (zfP (zb5 (zav (k_ix K) (pv 0) zad) (zap Q3 hr rfl (zab (za9 rfl B.c_NEW_0) zaa)) zfO) rfl rfl (by simp) (by simp)) zaa)) zaa))) (zb7 (zaQ (zaX K) (pv 1) (zaR (zab (pv 3) (zab (pv 4) zaa)))) zaa))))))),?_⟩
 obtain⟨c6,hc6⟩:=B.c_NEW_0
 walk_at "q"
 nofun
 refine zdd λv H1 s1 n1=>?_
 obtain⟨b1,rfl,b10,b11⟩:=New.iif.mp n1
 nofun
 refine zaL (s1.tup hT) (v:=.int lo) (zaB (j:=2) rfl) ?_
 nofun
 refine zf6 λv H2 s2 n2=>?_
 obtain⟨c1,rfl,c10,c11⟩:=New.iif.mp n2
 nofun
 refine⟨(by walk_at "sm"),λp hp=>?_⟩
 have t1:=zah hp (.lst [V.ref b1,.ref c1])
 nofun
 refine⟨(by walk_at "sm"),λp2 hp2=>?_⟩
 have t2:=zah hp2 (.lst [V.int 1,.int (-1)])
 have s02:=s1.trans (s2.trans (t1.trans t2))
 nofun
 refine⟨p,p2,[zaC 6,kL lo],[1,-1],rfl,zdy (bs:=[b1,c1]) (t2 _ _ zac) rfl (zcU ((s2.trans (t1.trans t2)) _ _ b11) ((t1.trans t2) _ _ c11)),SqL.of zac,rfl,by simp,λl hl=>?_,λi l w _ e2 n _=>?_,λv H3 s3 n3=>?_⟩
 ·simp at hl;rcases hl with rfl | rfl
  ·exact zar 6
  ·exact zbu lo
 ·have:w=1\/w=-1:=by
   have:=zmg e2
   simp at this;exact this
  rcases this with z | z <;> subst z <;> exact .inr ⟨by decide,by decide⟩
 obtain⟨fa,rfl,fa0,fa1⟩:=New.iif.mp n3
 have s03:=s02.trans s3
 nofun
 walk_at "q"
 nofun
 refine zaL (s03.tup hT) (v:=.int hi) (zaB (j:=3) rfl) ?_
 nofun
 refine zf6 λv H4 s4 n4=>?_
 obtain⟨c2,rfl,c20,c21⟩:=New.iif.mp n4
 nofun
 refine zdd λv H5 s5 n5=>?_
 obtain⟨b2,rfl,b20,b21⟩:=New.iif.mp n5
 nofun
 refine⟨(by walk_at "sm"),λp3 hp3=>?_⟩
 have t3:=zah hp3 (.lst [V.ref c2,.ref b2])
 nofun
 refine⟨(by walk_at "sm"),λp4 hp4=>?_⟩
 have t4:=zah hp4 (.lst [V.int 1,.int (-1)])
 have s35:=s4.trans (s5.trans (t3.trans t4))
 nofun
 refine⟨p3,p4,[kL hi,zaC 6],[1,-1],rfl,zdy (bs:=[c2,b2]) (t4 _ _ zac) rfl (zcU ((s5.trans (t3.trans t4)) _ _ c21) ((t3.trans t4) _ _ b21)),SqL.of zac,rfl,by simp,λl hl=>?_,λi l w _ e2 n _=>?_,λv H6 s6 n6=>?_⟩
 ·simp at hl;rcases hl with rfl | rfl
  ·exact zbu hi
  ·exact zar 6
 ·have:w=1\/w=-1:=by
   have:=zmg e2
   simp at this;exact this
  rcases this with z | z <;> subst z <;> exact .inr ⟨by decide,by decide⟩
 obtain⟨ta,rfl,ta0,ta1⟩:=New.iif.mp n6
 have s36:=s35.trans s6
 have s06:=s03.trans s36
 nofun
 refine zil λdp hdp=>?_
 have u0:=zah hdp (.dK [])
 nofun
 refine zaL ((s06.trans u0).tup hT) (v:=.int h) (zaB (j:=1) rfl) ?_
 nofun
 refine zdd λv H7 s7 n7=>?_
 obtain⟨b3,rfl,b30,b31⟩:=New.iif.mp n7
 nofun
 refine⟨s7 _ _ zac,[(.inl h,.ref b3)],rfl,by simp,?_⟩
 have b3d:b3≠dp:=λz=>by rw[z,zac] at b30;cases b30
 have s67:Same H6 (upd H7 dp (.dK (zbR [] [(.inl h,.ref b3)]))):=(u0.trans s7).put hdp
 have s07:=s06.trans s67
 nofun
 refine⟨dp,_,ch1 h (zaC 6),rfl,zac,znU (zar 6) (by rw[zai b3d];exact b31),λea H8 s8 ea0 hE=>?_⟩
 have s08:=s07.trans s8
 have m9:∀ l∈zaP (ch1 h (zaC 6)),l.length=9:=zbn (λi=>zar i) (zf5 (zar 6))
 have msm:∀ l∈zaP (ch1 h (zaC 6)),Sm l:=zbn (λi=>zce i) (zf5 (zce 6))
 nofun
 refine⟨aa,ea,after,zaP (ch1 h (zaC 6)),rfl,Rep.same s08 _ hA,hE.rep,by omega,λl hl=>⟨a9 l hl,zd0 msm⟩,zbA _,m9,λv H9 s9 n9=>?_⟩
 have gv:=New.rep (K:=K) n9
 obtain⟨ga,rfl⟩:∃ b,v=.ref b:=by obtain⟨b,_,e,_⟩:=New.news n9;exact⟨b,e⟩
 have s09:=s08.trans s9
 have s69:=s67.trans (s8.trans s9)
 nofun
 refine⟨(by walk_at "sm"),λp5 hp5=>?_⟩
 have t5:=zah hp5 (.lst [V.ref fa,.ref ta])
 obtain⟨xs,hxs,lxs⟩:=(hN.same s09).len
 nofun
 refine zbt (t5 _ _ hxs) zac (zaq (by simp;omega)) λp6 hp6=>?_
 have hL:=Ls.more (p:=p6) (bs:=[fa,ta]) (ms:=[ze9 lo,zho hi]) ((hN.same s09).same t5) (t5 _ _ hxs) rfl (zcU (t5 _ _ (s69 _ _ (s36 _ _ fa1))) (t5 _ _ (s69 _ _ ta1))) hp6
 have t6:=zah hp6 (.lst (xs++[V.ref fa,.ref ta]))
 have t56:=t5.trans t6
 nofun
 refine⟨ga,p6,_,notes++[ze9 lo,zho hi],rfl,Rep.same t56 _ gv,hL.rep,by simp;omega,by simp;omega,λv Ha sa na'=>?_⟩
 exact q _ _ (s09.trans (t56.trans sa)) (na'.back (s09.trans t56))
inductive Q33 (K:Fg)(vs:List V)(H:Hp)(Q:VK)(E:XK):Prop
 | mk (la na ta aa:Addr) (line:List Int) (notes there after:List (List Int)):vs=[.ref la,.ref na,.ref ta,.ref aa]->H la=some (.lst (line.map V.int))->line.length=9->Ls H na notes->Rep K H (zaF there) (.ref ta)->Rep K H (zaF after) (.ref aa)->notes.length<=100->there.length<=100->after.length<=100->(∀ v H',Same H H'->New H H' (.lst ((there.map λg=>zd9 g (notes++[line]))++after.map λg=>zd9 g (notes++[zhn line]))) v->Q v H')->Q33 K vs H Q E
include B Z Q5 Q38 Q3d in
theorem zh6 (F:Fun K "turn_duties" "turn_duties" zdO f fd)(m:mg "turn_duties"=some (.ref f)):Fn P w K mg b8 "turn_duties" ["line","notes","there","after"] 3 (Q33 K):=by
 refine Fn.of (k:=2) F zeR m (λ_ _ _ _ _ _ us hl=>(by obtain⟨_,_,_,_,rfl⟩:=len4 hl;rfl)) (λvs H Q E h=>?_) (λcdv A outer s H vs Q E hr h=>?_)
 ·first
  | (obtain⟨_,_,_,_,_,_,_,_,rfl,_⟩:=h;rfl)
 obtain⟨la,na,ta,aa,line,notes,there,after,rfl,hla,l9,hN,hT,hA,ln,lt,lf,q⟩:=h
 refine⟨_,(zaf (zas (i:=4) zeR.nd (zap Q5 hr rfl (zb6 (zaR (zab (pv 0) (zaE (zap Q3d hr rfl (zam zad zaa)) zaa))) (zb6 (zaR (ziQ (zcR zbJ zad) (ziQ (zcR zbJ zad) zaa))) zaa))))
   (zag (zan (zaQ (zaX K) (zap Q38 hr rfl (zab (pv 2) (zb7 (zaQ (zaX K) (pv 1) (zaR (zab (pv 0) zaa))) zaa))) (zap Q38 hr rfl (zab (pv 3) (zb7 (zaQ (zaX K) (pv 1) (zaR (zab (pv 4) zaa))) zaa))))))),?_⟩
 walk_at "q"
 nofun
 refine zf6 λv H1 s1 n1=>?_
 obtain⟨ca,rfl,ca0,ca1⟩:=New.iif.mp n1
 nofun
 refine⟨(by walk_at "sm"),λp hp=>?_⟩
 have t1:=zah hp (.lst [V.ref la,.ref ca])
 nofun
 refine⟨(by walk_at "sm"),λp2 hp2=>?_⟩
 have t2:=zah hp2 (.lst [V.int (-1),.int (-1)])
 have s12:=s1.trans (t1.trans t2)
 nofun
 refine⟨p,p2,[line,kL 1],[-1,-1],rfl,zdy (bs:=[la,ca]) (t2 _ _ zac) rfl (zcU (s12 _ _ hla) ((t1.trans t2) _ _ ca1)),SqL.of zac,rfl,by simp,λl hl=>?_,λi l w _ e2 n _=>?_,λv H2 s2 n2=>?_⟩
 ·simp at hl;rcases hl with rfl | rfl
  ·exact l9
  ·exact zbu 1
 ·have:w=-1:=by
   have:=zmg e2
   simp at this;exact this
  subst this;exact .inr ⟨by decide,by decide⟩
 obtain⟨ba,rfl,ba0,ba1⟩:=New.iif.mp n2
 have sA:=s12.trans s2
 obtain⟨xs,hxs,lxs⟩:=(hN.same sA).len
 nofun
 refine⟨(by walk_at "sm"),λp3 hp3=>?_⟩
 have t3:=zah hp3 (.lst [V.ref la])
 nofun
 refine zbt (t3 _ _ hxs) zac (zaq (by simp;omega)) λp4 hp4=>?_
 have hL4:=Ls.more (p:=p4) (bs:=[la]) (ms:=[line]) ((hN.same sA).same t3) (t3 _ _ hxs) rfl (zdb (t3 _ _ (sA _ _ hla))) hp4
 have t4:=zah hp4 (.lst (xs++[V.ref la]))
 have sB:=sA.trans (t3.trans t4)
 nofun
 refine⟨ta,p4,there,notes++[line],rfl,Rep.same sB _ hT,hL4.rep,by omega,by simp;omega,λv1 H3 s3 n3=>?_⟩
 have sC:=sB.trans s3
 have sAC:=(t3.trans t4).trans s3
 nofun
 refine⟨(by walk_at "sm"),λp5 hp5=>?_⟩
 have t5:=zah hp5 (.lst [V.ref ba])
 nofun
 refine zbt (t5 _ _ (sAC _ _ hxs)) zac (zaq (by simp;omega)) λp6 hp6=>?_
 have hL6:=Ls.more (p:=p6) (bs:=[ba]) (ms:=[zhn line]) ((hN.same sC).same t5) (t5 _ _ (sAC _ _ hxs)) rfl (zdb (t5 _ _ (sAC _ _ ba1))) hp6
 have t6:=zah hp6 (.lst (xs++[V.ref ba]))
 have t56:=t5.trans t6
 nofun
 refine⟨aa,p6,after,notes++[zhn line],rfl,Rep.same (sC.trans t56) _ hA,hL6.rep,by omega,by simp;omega,λv2 H4 s4 n4=>?_⟩
 obtain⟨a1,vs1,f1,rfl,z1,y1,r1,_⟩:=New.lso n3
 obtain⟨a2,vs2,f2,rfl,z2,y2,r2,_⟩:=New.lso n4
 have l1:=r1.length
 have l2:=r2.length
 simp only[zlm] at l1 l2
 have sD:=t56.trans s4
 nofun
 refine zbt (sD _ _ y1) y2 (zaq (by omega)) λp7 hp7=>?_
 exact q _ _ ((sC.trans sD).trans (zah hp7 _)) (New.cat (n3.back sB) sC sD (n4.back t56) (sD _ _ y1) y2 hp7)
theorem zo7:decide (("part" : Str) ="set")=false/\decide (("draw" : Str) ="set")=false/\decide (("draw" : Str) ="part")=false/\decide (("turn" : Str) ="set")=false/\decide (("turn" : Str) ="part")=false/\decide (("turn" : Str) ="draw")=false/\decide (("hold" : Str) ="set")=false/\decide (("hold" : Str) ="part")=false/\decide (("hold" : Str) ="draw")=false/\decide (("hold" : Str) ="turn")=false/\decide (("call" : Str) ="set")=false/\decide (("call" : Str) ="part")=false/\decide (("call" : Str) ="draw")=false/\decide (("call" : Str) ="turn")=false/\decide (("call" : Str) ="hold")=false:=by decide +kernel
inductive Q2d (K:Fg)(C:Nat->Addr)(vs:List V)(H:Hp)(Q:VK)(E:XK):Prop
 | mk (p ca:Addr) (place:Nat) (needs leaves:List (List Int)) (deeds:List Dd) (notes:List (List (List Int))) (kvs:List (Key × V)) (oath:Oath) (d:Dd):vs=[.ref p,.int place,.ref ca]->zd3 K (C 0) H p needs leaves deeds notes->Good needs leaves deeds.length notes->deeds[place]?=some d->dOk deeds.length d->H ca=some (.dK kvs)->znH K (C 0) H kvs oath d->(∀ v H',Same H H'->New H H' (.lst (zfo (dueL leaves notes place) (dueL leaves notes (place+1)) (dueL leaves notes) oath d)) v->Q v H')->Q2d K C vs H Q E
include B Z Q3c Q38 Q3a Q29 in
theorem zh7 (Q36:Fn P w K mg b8 "call_duties" ["deed","notes","after","other"] 4 (Q35 K C))(Q30:Fn P w K mg b8 "part_duties" ["deed","notes","after"] 4 (Q2f K))(Q32:Fn P w K mg b8 "draw_duties" ["deed","notes","after"] 4 (Q31 K))(Q34:Fn P w K mg b8 "turn_duties" ["line","notes","there","after"] 3 (Q33 K))(F:Fun K "deed_duties" "deed_duties" zdL f fd)(m:mg "deed_duties"=some (.ref f)):Fn P w K mg b8 "deed_duties" ["craft","place","crafts"] 5 (Q2d K C):=by
 refine Fn.of (k:=4) F zbY m (λ_ _ _ _ _ _ us hl=>(by obtain⟨_,_,_,rfl⟩:=len3 hl;rfl)) (λvs H Q E h=>?_) (λcdv A outer s H vs Q E hr h=>?_)
 ·first
  | (obtain⟨_,_,_,_,_,_,_,_,_,_,rfl,_⟩:=h;rfl)
 obtain⟨p,ca,place,needs,leaves,deeds,notes,kvs,oath,d,rfl,hT,hg,hd,ok,hca,hcl,q⟩:=h
 refine⟨_,(zaf (zas (i:=3) zbY.nd (zav (k_ix K) (zay K (pv 0) rfl) (pv 1)))
   (zaf (zas (i:=4) zbY.nd (zap Q29 hr rfl (zab (pv 0) (zab (pv 1) zaa))))
   (zaf (zas (i:=5) zbY.nd (zap Q29 hr rfl (zab (pv 0) (zb7 (zaQ (zaX K) (pv 1) zad) zaa))))
   (zaf (zas (i:=6) zbY.nd (zav (k_ix K) (pv 3) zad))
   (zaf (za4 (zax (k_eq K hr) (pv 6) zbi (zat _)) (zag (zan (zap Q38 hr rfl (zaE (zap Q3a hr rfl (zab (pv 5) (zaE (zap Q3c hr rfl (za0 (zfP (zb5 (zav (k_ix K) (pv 3) zad) (zav (k_ix K) (pv 3) zad) zfO) rfl rfl (by simp) (by simp)) zaa)) zaa))) (zab (pv 4) zaa))))) zaA)
   (zaf (za4 (zax (k_eq K hr) (pv 6) zbi (zat _)) (zag (zan (zap Q30 hr rfl (zab (pv 3) (zab (pv 4) (zab (pv 5) zaa)))))) zaA)
   (zaf (za4 (zax (k_eq K hr) (pv 6) zbi (zat _)) (zag (zan (zap Q32 hr rfl (zab (pv 3) (zab (pv 4) (zab (pv 5) zaa)))))) zaA)
   (zaf (za4 (zax (k_eq K hr) (pv 6) zbi (zat _)) (zag (zan (zap Q34 hr rfl (zaH (zav (k_ix K) (pv 3) zad) (zab (pv 4) (zaE (zap Q29 hr rfl (zab (pv 0) (zaH (zav (k_ix K) (pv 3) zad) zaa))) (zab (pv 5) zaa))))))) zaA)
   (zaf (za4 (zax (k_eq K hr) (pv 6) zbi (zat _)) (zag (zan (zaQ (zaX K) (zap Q38 hr rfl (zb6 (zaR (zaH (zav (k_ix K) (pv 3) zad) zaa)) (zab (pv 4) zaa))) (zap Q38 hr rfl (zab (pv 5) (zb7 (zaQ (zaX K) (pv 4) (zaR (zaH (zav (k_ix K) (pv 3) zad) zaa))) zaa)))))) zaA)
   (zag (zan (zap Q36 hr rfl (zab (pv 3) (zab (pv 4) (zab (pv 5) (zaH (zel (hr_u hr) (pv 2) (zav (k_ix K) (pv 3) zad) (λ_ _=>rfl)) zaa)))))))))))))))),?_⟩
 obtain⟨k1,k2,k3,k4,k5,k6,k7,k8,k9,k10,k11,k12,k13,k14,k15⟩:=zo7
 have lp:place<deeds.length:=(zge.mp hd).1
 obtain⟨hC,dx,w1,w2,bd,w4,dvs,hp,hbd,hD⟩:=hT
 obtain⟨x,hx,rx⟩:=R2.get hD lp
 rw[List.getElem?_eq_getElem lp] at hd
 cases hd
 generalize hdd:deeds[place]=d at rx ok hcl q
 obtain⟨t,ys,rfl,htup⟩:=znB rx
 walk_at "q"
 nofun
 refine⟨p,(C 0),dx,_,_,rfl,hp,Z.c_Craft,Z.n_Craft_deeds,zbP _ _ _ _,?_⟩
 nofun
 refine zbX (SqL.of hbd) (v:=.ref t) (zaB hx) ?_
 nofun
 have due:∀ {Hx:Hp}{Q':VK}(k:Int),Same H Hx->0<=k->k<=(deeds.length:Int)->(∀ a H',Same Hx H'->Hx a=none->Ls H' a (dueL leaves notes k)->Q' (.ref a) H')->Q28 K C [.ref p,.int k] Hx Q' E0:=λ{Hx Q'} k s k0 kn hq=>
  ⟨p,k,needs,leaves,deeds.map toD,notes,rfl,hC.same s,k0,by rw[zlm];exact kn,by rw[zlm];exact hg.dn,by rw[zlm];have:=hg.d;omega,by have:=hg.l;omega,hg.l9,λls hl=>by have:=(hg.o ls hl).1;omega,λv H' s' n'=>by obtain⟨a,rfl,a0,hL⟩:=n'.ls;exact hq a H' s' a0 hL⟩
 walk_at "q"
 nofun
 refine due _ (Same.refl _) (by omega) (by omega) λna H1 s1 na0 hN=>?_
 nofun
 walk_at "q"
 nofun
 refine due _ s1 (by omega) (by omega) λaa H2 s2 aa0 hA=>?_
 have s02:=s1.trans s2
 have hN2:=hN.same s2
 have gN:=hg.due (place:Int)
 have gA:=hg.due ((place:Int)+1)
 have h2:=s02 _ _ htup
 nofun
 walk_at "q"
 nofun
 refine zaL (SqT.of h2) zbs ?_
 nofun
 have rx2:zch H2 (toD d) (.ref t):=rx.sq s02.sq
 generalize dueL leaves notes (place:Int)=N at hN2 gN q
 generalize dueL leaves notes ((place:Int)+1)=A at hA gA q
 cases d with
 | set h l=>
  obtain⟨t',xs,et,hT2,px⟩:=zbk rx2
  cases et
  obtain⟨x0,r,rfl,e0,px⟩:=zal px
  obtain⟨x1,r,rfl,e1,px⟩:=zal px
  obtain⟨x2,r,rfl,e2,px⟩:=zal px
  cases zbL px;cases zbO e0
  cases zbq e1
  obtain⟨b2,rfl,hb2⟩:=zcs e2
  with_reducible refine zjO (λQ2 q2=>?_) (λNX=>?_)
  ·nofun
   rw[decide_eq_true (show zcV (Dd.set h l) ="set" from rfl)]
   exact q2
  nofun
  refine zil λdp hdp=>?_
  have u0:=zah hdp (.dK [])
  nofun
  refine zaL (SqT.of (u0 _ _ hT2)) (v:=.int h) (zaB (j:=1) rfl) ?_
  nofun
  refine zaL (SqT.of (u0 _ _ hT2)) (v:=.ref b2) (zaB (j:=2) rfl) ?_
  nofun
  refine⟨zac,[(.inl h,.ref b2)],rfl,by simp,?_⟩
  have s23:Same H2 (upd (upd H2 dp (.dK [])) dp (.dK (zbR [] [(.inl h,.ref b2)]))):=u0.put hdp
  nofun
  refine⟨dp,_,ch1 h l,rfl,zac,znU ok.1 (s23 _ _ hb2),λea H4 s4 ea0 hE=>?_⟩
  have s24:=s23.trans s4
  nofun
  refine⟨aa,ea,A,zaP (ch1 h l),rfl,(hA.same s24).rep,hE.rep,by omega,λz hz=>⟨gA.2 z hz,zd0 (zbn (λi=>zce i) (zf5 ok.2))⟩,zbA _,zbn (λi=>zar i) (zf5 ok.1),λv H5 s5 n5=>?_⟩
  have rv:=New.rep (K:=K) n5
  obtain⟨ga,rfl⟩:∃ b,v=.ref b:=by obtain⟨b,_,e,_⟩:=New.news n5;exact⟨b,e⟩
  have s25:=s24.trans s5
  nofun
  refine⟨ga,na,_,N,rfl,rv,(hN2.same s25).rep,by simp;omega,by omega,λv H6 s6 n6=>?_⟩
  exact q _ _ (s02.trans (s25.trans s6)) (n6.back (s02.trans s25))
 | part h l b=>
  obtain⟨t',xs,et,hT2,px⟩:=zbk rx2
  cases et
  obtain⟨x0,r,rfl,e0,px⟩:=zal px
  obtain⟨x1,r,rfl,e1,px⟩:=zal px
  obtain⟨x2,r,rfl,e2,px⟩:=zal px
  obtain⟨x3,r,rfl,e3,px⟩:=zal px
  cases zbL px;cases zbO e0
  cases zbq e1
  obtain⟨b2,rfl,hb2⟩:=zcs e2
  cases zbq e3
  with_reducible refine zcB (λQ2 q2=>?_) ?_
  ·nofun
   rw[show decide (zcV (Dd.part h l b) ="set")=false from k1]
   exact q2
  with_reducible refine zjO (λQ2 q2=>?_) (λNX=>?_)
  ·nofun
   rw[decide_eq_true (show zcV (Dd.part h l b) ="part" from rfl)]
   exact q2
  nofun
  refine⟨t,na,aa,b2,h,b,l,N,A,rfl,SqT.of hT2,hb2,ok.1,ok.2,hN2,hA.rep,by omega,by omega,gA.2,λv H3 s3 n3=>?_⟩
  exact q _ _ (s02.trans s3) (n3.back s02)
 | draw h lo hi=>
  obtain⟨t',xs,et,hT2,px⟩:=zbk rx2
  cases et
  obtain⟨x0,r,rfl,e0,px⟩:=zal px
  obtain⟨x1,r,rfl,e1,px⟩:=zal px
  obtain⟨x2,r,rfl,e2,px⟩:=zal px
  obtain⟨x3,r,rfl,e3,px⟩:=zal px
  cases zbL px;cases zbO e0
  cases zbq e1
  cases zbq e2
  cases zbq e3
  with_reducible refine zcB (λQ2 q2=>?_) ?_
  ·nofun
   rw[show decide (zcV (Dd.draw h lo hi) ="set")=false from k2]
   exact q2
  with_reducible refine zcB (λQ2 q2=>?_) ?_
  ·nofun
   rw[show decide (zcV (Dd.draw h lo hi) ="part")=false from k3]
   exact q2
  with_reducible refine zjO (λQ2 q2=>?_) (λNX=>?_)
  ·nofun
   rw[decide_eq_true (show zcV (Dd.draw h lo hi) ="draw" from rfl)]
   exact q2
  nofun
  refine⟨t,na,aa,h,lo,hi,N,A,rfl,SqT.of hT2,hN2,hA.rep,by omega,by omega,gA.2,λv H3 s3 n3=>?_⟩
  exact q _ _ (s02.trans s3) (n3.back s02)
 | turn l p2=>
  obtain⟨t',xs,et,hT2,px⟩:=zbk rx2
  cases et
  obtain⟨x0,r,rfl,e0,px⟩:=zal px
  obtain⟨x1,r,rfl,e1,px⟩:=zal px
  obtain⟨x2,r,rfl,e2,px⟩:=zal px
  cases zbL px;cases zbO e0
  obtain⟨b1,rfl,hb1⟩:=zcs e1
  cases zbq e2
  with_reducible refine zcB (λQ2 q2=>?_) ?_
  ·nofun
   rw[show decide (zcV (Dd.turn l p2) ="set")=false from k4]
   exact q2
  with_reducible refine zcB (λQ2 q2=>?_) ?_
  ·nofun
   rw[show decide (zcV (Dd.turn l p2) ="part")=false from k5]
   exact q2
  with_reducible refine zcB (λQ2 q2=>?_) ?_
  ·nofun
   rw[show decide (zcV (Dd.turn l p2) ="draw")=false from k6]
   exact q2
  with_reducible refine zjO (λQ2 q2=>?_) (λNX=>?_)
  ·nofun
   rw[decide_eq_true (show zcV (Dd.turn l p2) ="turn" from rfl)]
   exact q2
  nofun
  refine zaL (SqT.of hT2) (v:=.ref b1) (zaB (j:=1) rfl) ?_
  nofun
  refine zaL (SqT.of hT2) (v:=.int p2) (zaB (j:=2) rfl) ?_
  nofun
  refine due _ s02 ok.2.1 ok.2.2 λta H3 s3 ta0 hTh=>?_
  have gT:=hg.due p2
  have s03:=s02.trans s3
  nofun
  refine⟨b1,na,ta,aa,l,N,_,A,rfl,s3 _ _ hb1,ok.1,hN2.same s3,hTh.rep,(hA.same s3).rep,by omega,by omega,by omega,λv H4 s4 n4=>?_⟩
  exact q _ _ (s03.trans s4) (n4.back s03)
 | hold l=>
  obtain⟨t',xs,et,hT2,px⟩:=zbk rx2
  cases et
  obtain⟨x0,r,rfl,e0,px⟩:=zal px
  obtain⟨x1,r,rfl,e1,px⟩:=zal px
  cases zbL px;cases zbO e0
  obtain⟨b1,rfl,hb1⟩:=zcs e1
  with_reducible refine zcB (λQ2 q2=>?_) ?_
  ·nofun
   rw[show decide (zcV (Dd.hold l) ="set")=false from k7]
   exact q2
  with_reducible refine zcB (λQ2 q2=>?_) ?_
  ·nofun
   rw[show decide (zcV (Dd.hold l) ="part")=false from k8]
   exact q2
  with_reducible refine zcB (λQ2 q2=>?_) ?_
  ·nofun
   rw[show decide (zcV (Dd.hold l) ="draw")=false from k9]
   exact q2
  with_reducible refine zcB (λQ2 q2=>?_) ?_
  ·nofun
   rw[show decide (zcV (Dd.hold l) ="turn")=false from k10]
   exact q2
  with_reducible refine zjO (λQ2 q2=>?_) (λNX=>?_)
  ·nofun
   rw[decide_eq_true (show zcV (Dd.hold l) ="hold" from rfl)]
   exact q2
  nofun
  refine zaL (SqT.of hT2) (v:=.ref b1) (zaB (j:=1) rfl) ?_
  nofun
  refine⟨(by walk_at "sm"),λp3 hp3=>?_⟩
  have t3:=zah hp3 (.lst [V.ref b1])
  nofun
  refine⟨p3,na,[l],N,rfl,zdy (bs:=[b1]) zac rfl (zdb (t3 _ _ hb1)),(hN2.same t3).rep,by simp,by omega,λv1 H3 s3 n3=>?_⟩
  have s23:=t3.trans s3
  nofun
  refine zaL (SqT.of (s23 _ _ hT2)) (v:=.ref b1) (zaB (j:=1) rfl) ?_
  nofun
  refine⟨(by walk_at "sm"),λp5 hp5=>?_⟩
  have t5:=zah hp5 (.lst [V.ref b1])
  obtain⟨xs,hxs,lxs⟩:=(hN2.same s23).len
  nofun
  refine zbt (t5 _ _ hxs) zac (zaq (by simp;omega)) λp6 hp6=>?_
  have hL6:=Ls.more (p:=p6) (bs:=[b1]) (ms:=[l]) ((hN2.same s23).same t5) (t5 _ _ hxs) rfl (zdb (t5 _ _ (s23 _ _ hb1))) hp6
  have t6:=zah hp6 (.lst (xs++[V.ref b1]))
  have t56:=t5.trans t6
  nofun
  refine⟨aa,p6,A,N++[l],rfl,(hA.same (s23.trans t56)).rep,hL6.rep,by omega,by simp;omega,λv2 H4 s4 n4=>?_⟩
  obtain⟨a1,vs1,f1,rfl,z1,y1,r1,_⟩:=New.lso n3
  obtain⟨a2,vs2,f2,rfl,z2,y2,r2,_⟩:=New.lso n4
  have l1:=r1.length
  have l2:=r2.length
  simp only[zlm] at l1 l2
  have sD:=t56.trans s4
  nofun
  refine zbt (sD _ _ y1) y2 (zaq (by simp at l1;omega)) λp7 hp7=>?_
  exact q _ _ ((s02.trans (s23.trans sD)).trans (zah hp7 _)) (New.cat (n3.back (s02.trans t3)) (s02.trans s23) sD (n4.back t56) (sD _ _ y1) y2 hp7)
 | call m g0 g1 t0 t1=>
  obtain⟨t',xs,et,hT2,px⟩:=zbk rx2
  cases et
  obtain⟨x0,r,rfl,e0,px⟩:=zal px
  obtain⟨x1,r,rfl,e1,px⟩:=zal px
  obtain⟨x2,r,rfl,e2,px⟩:=zal px
  obtain⟨x3,r,rfl,e3,px⟩:=zal px
  cases zbL px;cases zbO e0
  cases zbq e1
  obtain⟨b2,rfl,hb2⟩:=zfn e2
  obtain⟨b3,rfl,hb3⟩:=zfn e3
  with_reducible refine zcB (λQ2 q2=>?_) ?_
  ·nofun
   rw[show decide (zcV (Dd.call m g0 g1 t0 t1) ="set")=false from k11]
   exact q2
  with_reducible refine zcB (λQ2 q2=>?_) ?_
  ·nofun
   rw[show decide (zcV (Dd.call m g0 g1 t0 t1) ="part")=false from k12]
   exact q2
  with_reducible refine zcB (λQ2 q2=>?_) ?_
  ·nofun
   rw[show decide (zcV (Dd.call m g0 g1 t0 t1) ="draw")=false from k13]
   exact q2
  with_reducible refine zcB (λQ2 q2=>?_) ?_
  ·nofun
   rw[show decide (zcV (Dd.call m g0 g1 t0 t1) ="turn")=false from k14]
   exact q2
  with_reducible refine zcB (λQ2 q2=>?_) ?_
  ·nofun
   rw[show decide (zcV (Dd.call m g0 g1 t0 t1) ="hold")=false from k15]
   exact q2
  obtain⟨o,od,ons,hv,hO,hgo⟩:=hcl
  nofun
  refine zaL (SqT.of hT2) (v:=.int m) (zaB (j:=1) rfl) ?_
  nofun
  refine⟨ca,.ref o,rfl,by rw[<-hv];exact DGet.k (k:=.inl m) (s02 _ _ hca),?_⟩
  nofun
  refine⟨t,na,aa,o,b2,b3,m,g0,g1,t0,t1,N,A,_,_,od,ons,rfl,SqT.of hT2,SqT.of hb2,SqT.of hb3,hN2,hA.rep,by omega,by omega,gN.2,gA.2,hO.same s02,hgo,λv H3 s3 n3=>?_⟩
  exact q _ _ (s02.trans s3) (n3.back s02)
inductive Q2a (K:Fg)(C:Nat->Addr)(vs:List V)(H:Hp)(Q:VK)(E:XK):Prop
  | mk (p ca:Addr) (needs leaves:List (List Int)) (deeds:List Dd) (notes:List (List (List Int))) (kvs:List (Key × V)) (oath:Oath):vs=[.ref p,.ref ca]->zd3 K (C 0) H p needs leaves deeds notes->Good needs leaves deeds.length notes->(∀ d∈deeds,dOk deeds.length d)->H ca=some (.dK kvs)->(∀ m∈zaV deeds,m.natAbs<zbm)->(((∃ m∈zaV deeds,valV kvs (.inl m)=none)/\∀ H',Same H H'->E (.ref (C 4)) none H')\/
   ((∀ m∈zaV deeds,(valV kvs (.inl m)).isSome=true)/\(∀ d∈deeds,znH K (C 0) H kvs oath d)/\(zhq needs leaves deeds notes oath).length<=1000/\∀ v H',Same H H'->New H H' (.lst (zhq needs leaves deeds notes oath)) v->Q v H'))->Q2a K C vs H Q E
variable (Q10:Fn P w K mg b8 "called_by" ["craft"] 1 (Qf K C))
include B Z Q10 in
theorem znW (Q2c:Fn P w K mg b8 "first_duties" ["craft"] 4 (Q2b K C))(Q2e:Fn P w K mg b8 "deed_duties" ["craft","place","crafts"] 5 (Q2d K C))(F:Fun K "duties" "duties" ziy f fd)(m:mg "duties"=some (.ref f)):Fnx P w K mg b8 "duties" ["craft","crafts"] 6 (Q2a K C):=by
 refine⟨f,fd,F.okx (k:=5) zfz (λvs H Q E h=>?_) (λcdv A outer s H vs Q E hr h=>?_),F.binds λ_ _ _ _ _ _ us hl=>(by obtain⟨_,_,rfl⟩:=len2 hl;rfl),F.kp,m⟩
 ·first
  | (obtain⟨_,_,_,_,_,_,_,_,rfl,_⟩:=h;rfl)
 obtain⟨p,ca,needs,leaves,deeds,notes,kvs,oath,rfl,hT,hg,hok,hca,hm,hc⟩:=h
 refine⟨_,(zaf (zej PassesOwn.leaving rfl (za8 K (zap Q10 hr rfl (zab (pv 0) zaa))) (zaD (i:=2) zfz.nd) (zag (za4 (zgT (zem (hr_u hr) (pv 2) (pv 1))) (zag (zeH Z.e_Unmet rfl Z.m_Unmet rfl zfU (za0 (zr6 (pv 2) (by decide +kernel) (by decide +kernel)) zaa))) zaA)))
   (zaf (zas (i:=3) zfz.nd (zap Q2c hr rfl (zab (pv 0) zaa)))
   (zaf (zej PassesOwn.leaving rfl (zei rfl B.range (zaE (zaw (zdV K) rfl B.len L2.boot_len (zba (zay K (pv 0) rfl) zaa)) zaa)) (zaD (i:=4) zfz.nd) (zag (za1 (zl0 PySem.F.plainAttrs_list PySem.F.slot_list_extend PySem.F.type_list_extend zjy (pv 3) (zaE (zap Q2e hr rfl (zab (pv 0) (zab (pv 4) (zab (pv 1) zaa)))) zaa)))))
   (zag (zan (pv 3)))))),?_⟩
 have hT0:=hT
 obtain⟨hC,dx,w1,w2,bd,w4,dvs,hp,hbd,hD⟩:=hT
 walk_at "q"
 nofun
 refine⟨p,dx,bd,w1,w2,w4,dvs,deeds,rfl,hp,hbd,hD,by have:=hg.d;omega,λv H1 s1 n1=>?_⟩
 obtain⟨la,rfl,la0,la1⟩:=New.iif.mp n1
 have lc:(zaV deeds).length<=deeds.length:=List.length_filterMap_le _ _
 refine⟨la,rfl,⟨_,SqL.of la1⟩,?_⟩
 refine zfT (zaZ (SqL.of la1)) (λi σ H2=>∃ x,A3 (σ=[some (.ref p),some (.ref ca),x,none,none]) (Same H1 H2) (∀ m∈(zaV deeds).take i,(valV kvs (.inl m)).isSome=true))
  ⟨none,rfl,Same.refl _,λm hm=>by simp at hm⟩ (λi σ H2 ⟨_,_,e,_⟩=>e) ?_ ?_
 ·rintro i v σ H2 H3 hi ⟨x,rfl,s2,hpre⟩ s3 hv
  rw[zgm] at hv
  obtain⟨m,hm',rfl⟩:=zme.mp hv
  have mm:=zmg hm'
  have s03:=s1.trans (s2.trans s3)
  nofun
  refine⟨ca,_,rfl,DGet.k (k:=.inl m) (s03 _ _ hca),?_⟩
  cases hv':valV kvs (.inl m) with
  | none=>
   nofun
   refine zeK (λ_=>?_) (λz=>by cases z)
   nofun
   refine⟨hm m mm,λz=>?_⟩
   nofun
   refine⟨(by walk_at "sm"),?_⟩
   rcases hc with ⟨_,hE⟩ | ⟨hB,_⟩
   ·exact hE _ s03
   ·have:=hB m mm
    rw[hv'] at this;cases this
  | some y=>
   nofun
   refine zeK (λz=>by cases z) (λ_=>?_)
   nofun
   refine⟨_,rfl,s2.trans s3,λk hk=>?_⟩
   rw[List.take_add_one,hm'] at hk
   rcases zma.mp hk with hk | hk
   ·exact hpre k hk
   ·simp at hk;subst hk;rw[hv'];rfl
 rintro σ H2 ⟨x,rfl,s2,hall⟩
 rw[zlm,List.take_of_length_le (Nat.le_refl _)] at hall
 rcases hc with ⟨⟨m,mm,hn⟩,_⟩ | ⟨_,hcl,hlen,q⟩
 ·have:=hall m mm
  rw[hn] at this;cases this
 have s02:=s1.trans s2
 walk_at "q"
 nofun
 refine⟨p,needs,leaves,deeds.map toD,notes,rfl,hC.same s02,by rw[zlm];exact hg,λv H3 s3 n3=>?_⟩
 have s03:=s02.trans s3
 obtain⟨ta,tvs,rfl,ta0,ac⟩:=(n3.back s02).acc
 nofun
 walk_at "q"
 nofun
 refine⟨p,(C 0),dx,_,_,rfl,s03 _ _ hp,Z.c_Craft,Z.n_Craft_deeds,zbP _ _ _ _,?_⟩
 nofun
 refine zer (.inl (SqL.of (s03 _ _ hbd))) ?_
 rw[<-hD.1]
 refine zhb (by omega) (by have:=hg.d;omega) ?_
 refine znk (λi σ H4=>∃ x y vs,i<=deeds.length/\σ=[some (.ref p),some (.ref ca),x,some (.ref ta),y]/\Same H H4/\Free H H4/\Acc H ta H4 (zjV needs leaves notes++zbf leaves notes oath (deeds.take i) 0) vs)
  ⟨_,none,tvs,Nat.zero_le _,rfl,s03,s03.fr,by rw[List.take_zero];show Acc H ta H3 (_++[]) tvs;rw[List.append_nil];exact ac⟩ ?_ ?_
 ·rintro i σ H4 hi ⟨x',y,vs,him,rfl,s4,f4,ac4⟩
  have hi':i<deeds.length:=by have:i<((deeds.length:Int)).toNat:=hi;omega
  have eT:deeds=deeds.take i++deeds[i]::deeds.drop (i+1):=by rw[List.getElem_cons_drop,List.take_append_drop]
  have eS:deeds.take (i+1)=deeds.take i++[deeds[i]]:=by rw[List.take_add_one,List.getElem?_eq_getElem hi'];rfl
  have step:zbf leaves notes oath (deeds.take (i+1)) 0=zbf leaves notes oath (deeds.take i) 0++zfo (dueL leaves notes i) (dueL leaves notes ((i:Int)+1)) (dueL leaves notes) oath deeds[i]:=by
   rw[eS,zfb]
   congr 1
   show zfo _ _ _ _ _++[]=_
   rw[List.append_nil,List.length_take,Nat.zero_add,Nat.min_eq_left (by omega)]
  have short:(zjV needs leaves notes++zbf leaves notes oath (deeds.take (i+1)) 0).length<=1000:=by
   refine Nat.le_trans ?_ hlen
   unfold zhq
   have:=zfb leaves notes oath (deeds.take (i+1)) (deeds.drop (i+1)) 0
   rw[List.take_append_drop] at this
   rw[this]
   simp only[List.length_append];omega
  nofun
  refine⟨tyL ac4.get,?_⟩
  nofun
  rw[Int.zero_add]
  refine⟨p,ca,i,needs,leaves,deeds,notes,kvs,oath,deeds[i],rfl,zd3.same s4 hT0,hg,List.getElem?_eq_getElem hi',hok _ (List.getElem_mem hi'),s4 _ _ hca,(hcl _ (List.getElem_mem hi')).same s4,λv H5 s5 n5=>?_⟩
  obtain⟨b,zs,rfl,b0,ab⟩:=n5.acc
  have lz:=ab.len
  have lv:=ac4.len
  nofun
  refine⟨ta,b,vs,zs,rfl,rfl,s5 _ _ ac4.get,ab.get,?_,?_⟩
  ·rw[step] at short
   simp only[List.length_append] at short lv
   exact zaq (by omega)
  ·refine⟨_,_,vs++zs,hi',rfl,(s4.trans s5).put ta0,f4.trans (s5.fr.trans zda),?_⟩
   rw[step,<-List.append_assoc]
   exact ac4.ext f4 s5 n5 ab.get
 ·rintro σ H4 ⟨x',y,vs,him,rfl,s4,f4,ac4⟩
  nofun
  refine q _ _ s4 ?_
  rw[show ((deeds.length:Int)).toNat=deeds.length by omega,List.take_of_length_le (Nat.le_refl _)] at ac4
  exact ac4.new ta0
--LEN (rcases h with ⟨_, rfl, _⟩ | ⟨_, _, _, _, _, _, _, _, _, _, rfl, _⟩ <;> rfl)
def CB (w:Int):Prop:=-(2 ^ 62)<w/\w<2 ^ 62
def zjf (K:Fg):Sp:=λvs H Q _=>(∃ d,vs=[d,.non]/\Q (.bl false) H)\/∃ (d r ga ha wa:Addr) (goal:List Int) (hyps:List (List Int)) (xs:List V) (whole:Int) (ws:List Int),vs=[.ref d,.ref r]/\SqT K H d [.ref ga,.ref ha]/\H ga=some (.lst (goal.map V.int))/\H ha=some (.lst xs)/\Reps K H (hyps.map nums) xs/\SqT K H r [.int whole,.ref wa]/\SqL K H wa (ws.map V.int)/\goal.length=9/\(∀ l∈hyps,l.length=9)/\hyps.length<=100/\ws.length<=1000/\CB whole/\(∀ w∈ws,CB w)/\
 ∀ H',Same H H'->Q (.bl (zew goal hyps whole ws)) H'
theorem zqQ (ws:List Int):(ws.map λw=>decide (w<0)).any id=!ws.all λw=>decide (0<=w):=by
 induction ws with
 | nil=>rfl
 | cons w ws ih=>
  rw[zmc,List.any_cons,ih,List.all_cons,Bool.not_and]
  congr 1
  by_cases h:w<0
  ·rw[id,decide_eq_true h,decide_eq_false (by omega)];rfl
  ·rw[id,decide_eq_false h,decide_eq_true (by omega)];rfl
theorem zsp:(List.replicate (8:Int).toNat [V.int 0]).flatten=(List.replicate 8 (0:Int)).map V.int:=rfl
include B Z Q5 in
theorem zo8 (F:Fun K "shows" "shows" zeT f fd)(m:mg "shows"=some (.ref f)):Fn P w K mg b8 "shows" ["duty","row"] 2 (zjf K):=by
 refine Fn.of (k:=1) F zcb m (λ_ _ _ _ _ _ us hl=>(by obtain⟨_,_,rfl⟩:=len2 hl;rfl)) (λvs H Q E h=>?_) (λcdv A outer s H vs Q E hr h=>?_)
 ·first
  | (rcases h with ⟨_,rfl,_⟩ | ⟨_,_,_,_,_,_,_,_,_,_,rfl,_⟩ <;> rfl)
  | (obtain⟨rfl,_⟩:=h;rfl)
  | (obtain⟨_,rfl,_⟩:=h;rfl)
  | (obtain⟨_,_,rfl,_⟩:=h;rfl)
  | (obtain⟨_,_,_,rfl,_⟩:=h;rfl)
  | (obtain⟨_,_,_,_,rfl,_⟩:=h;rfl)
  | (obtain⟨_,_,_,_,_,rfl,_⟩:=h;rfl)
  | (obtain⟨_,_,_,_,_,_,rfl,_⟩:=h;rfl)
  | (obtain⟨_,_,_,_,_,_,_,rfl,_⟩:=h;rfl)
  | (obtain⟨_,_,_,_,_,_,_,_,rfl,_⟩:=h;rfl)
  | (obtain⟨_,_,_,_,_,_,_,_,_,rfl,_⟩:=h;rfl)
  | (obtain⟨_,_,_,_,_,_,_,_,_,_,rfl,_⟩:=h;rfl)
  | (obtain⟨_,_,_,_,_,_,_,_,_,_,_,rfl,_⟩:=h;rfl)
  | (obtain⟨_,_,_,_,_,_,_,_,_,_,_,_,rfl,_⟩:=h;rfl)
  | (obtain⟨_,_,_,_,_,_,_,_,_,_,_,_,_,rfl,_⟩:=h;rfl)
  | (obtain⟨_,_,_,_,_,_,_,_,_,_,_,_,_,_,rfl,_⟩:=h;rfl)
  | (obtain⟨_,_,_,_,_,_,_,_,_,_,_,_,_,_,_,rfl,_⟩:=h;rfl)
  | (obtain⟨_,_,_,_,_,_,_,_,_,_,_,_,_,_,_,_,rfl,_⟩:=h;rfl)
 rcases h with ⟨d,rfl,q⟩ | ⟨d,r,ga,ha,wa,goal,hyps,xs,whole,ws,rfl,hd,hga,hha,hx,hrr,hwa,l9,h9,hl,hlw,cw,cws,q⟩
 ·refine⟨_,(zaf (za4 (zax zgV (pv 1) zcQ (zat _)) (zag (zan zcx)) zaA)
   (zaf (zas (i:=2) zcb.nd (zav (k_ix K) (pv 0) zad))
   (zaf (zas (i:=3) zcb.nd (zav (k_ix K) (pv 0) zad))
   (zaf (zas (i:=4) zcb.nd (zav (k_ix K) (pv 1) zad))
   (zaf (zas (i:=5) zcb.nd (zav (k_ix K) (pv 1) zad))
   (zaf (za4 (PW.pt (zgq (zax zmM (pv 4) zad (zat _)) (zgq (zax (k_ne K hr) (zaw (zdV K) rfl B.len L2.boot_len (zab (pv 5) zaa)) (zaw (zdV K) rfl B.len L2.boot_len (zab (pv 3) zaa)) (zat _)) (zfg (zcp (zaw (zrV K rfl) rfl B.any L2.zlq (zcy (za6 rfl (COk.m (sc0:=zae zeT) (N:=["duty","row","goal","hypotheses","whole","weights","rest"]) (N':=["duty","row","goal","hypotheses","whole","weights","rest","weight"]) (ms:=[false,false,false,false,false,false,false,true])) (za8 K (pv 5)) (λ_ _ _ _ _=>(zaD (i:=7) (ndS (N:=["duty","row","goal","hypotheses","whole","weights","rest","weight"])))) (λ_ _ _ _ _=>zaN) (λ_ _ _ _ _=>(zbe zmM (pv 7) zad (zat _)))) zaa))))))) (zag (zan zcx)) zaA)
   (zaf (zas (i:=6) zcb.nd (zap Q5 hr rfl (zb7 (zaQ (zaX K) (zaR (zab (pv 2) zaa)) (pv 3)) (zb7 (zaQ (zaX K) (zaR (zab (pv 4) zaa)) (za6 rfl (COk.m (sc0:=zae zeT) (N:=["duty","row","goal","hypotheses","whole","weights","rest"]) (N':=["duty","row","goal","hypotheses","whole","weights","rest","weight"]) (ms:=[false,false,false,false,false,false,false,true])) (za8 K (pv 5)) (λ_ _ _ _ _=>(zaD (i:=7) (ndS (N:=["duty","row","goal","hypotheses","whole","weights","rest","weight"])))) (λ_ _ _ _ _=>zaN) (λ_ _ _ _ _=>(zcR zbJ (pv 7))))) zaa))))
   (zag (zan (zbF (zbe zpS (zav (k_ix K) (pv 6) zad) (zcR zbJ (pv 4)) (zat _)) (zb2 (zbe (k_eq K hr) (zfh (k_sl K) (pv 6) (zg0 zad) zgZ) (zaQ zc9 (zaR (zam zad zaa)) (za9 rfl B.c_FACTORS)) (zat _))))))))))))),?_⟩
  ac_rfl
  refine⟨rfl,?_⟩
  rw[ziR]
  ac_rfl
  exact q
 refine⟨_,(zaf (za4 (zax zgV (pv 1) zcQ (zat _)) (zag (zan zcx)) zaA)
   (zaf (zas (i:=2) zcb.nd (zav (k_ix K) (pv 0) zad))
   (zaf (zas (i:=3) zcb.nd (zav (k_ix K) (pv 0) zad))
   (zaf (zas (i:=4) zcb.nd (zav (k_ix K) (pv 1) zad))
   (zaf (zas (i:=5) zcb.nd (zav (k_ix K) (pv 1) zad))
   (zaf (za4 (PW.pt (zgq (zax zmM (pv 4) zad (zat _)) (zgq (zax (k_ne K hr) (zaw (zdV K) rfl B.len L2.boot_len (zab (pv 5) zaa)) (zaw (zdV K) rfl B.len L2.boot_len (zab (pv 3) zaa)) (zat _)) (zfg (zcp (zaw (zrV K rfl) rfl B.any L2.zlq (zcy (za6 rfl (COk.m (sc0:=zae zeT) (N:=["duty","row","goal","hypotheses","whole","weights","rest"]) (N':=["duty","row","goal","hypotheses","whole","weights","rest","weight"]) (ms:=[false,false,false,false,false,false,false,true])) (za8 K (pv 5)) (λ_ _ _ _ _=>(zaD (i:=7) (ndS (N:=["duty","row","goal","hypotheses","whole","weights","rest","weight"])))) (λ_ _ _ _ _=>zaN) (λ_ _ _ _ _=>(zbe zmM (pv 7) zad (zat _)))) zaa))))))) (zag (zan zcx)) zaA)
   (zaf (zas (i:=6) zcb.nd (zap Q5 hr rfl (zb7 (zaQ (zaX K) (zaR (zab (pv 2) zaa)) (pv 3)) (zb7 (zaQ (zaX K) (zaR (zab (pv 4) zaa)) (za6 rfl (COk.m (sc0:=zae zeT) (N:=["duty","row","goal","hypotheses","whole","weights","rest"]) (N':=["duty","row","goal","hypotheses","whole","weights","rest","weight"]) (ms:=[false,false,false,false,false,false,false,true])) (za8 K (pv 5)) (λ_ _ _ _ _=>(zaD (i:=7) (ndS (N:=["duty","row","goal","hypotheses","whole","weights","rest","weight"])))) (λ_ _ _ _ _=>zaN) (λ_ _ _ _ _=>(zcR zbJ (pv 7))))) zaa))))
   (zag (zan (zbF (zbe zpS (zav (k_ix K) (pv 6) zad) (zcR zbJ (pv 4)) (zat _)) (zb2 (zbe (k_eq K hr) (zfh (k_sl K) (pv 6) (zg0 zad) zgZ) (zaQ zc9 (zaR (zam zad zaa)) (za9 rfl B.c_FACTORS)) (zat _))))))))))))),?_⟩
 have lx:=hx.length
 rw[zlm] at lx
 ac_rfl
 refine⟨rfl,?_⟩
 rw[zkK]
 ac_rfl
 refine zaL hd zbs ?_
 ac_rfl
 refine zaL hd (v:=.ref ha) (zaB (j:=1) rfl) ?_
 ac_rfl
 refine zaL hrr zbs ?_
 ac_rfl
 refine zaL hrr (v:=.ref wa) (zaB (j:=1) rfl) ?_
 ac_rfl
 have no:rowB hyps whole ws=false->∀ H',Same H H'->Q (.bl false) H':=λe H' s=>by
  have:=q H' s
  unfold zew at this
  rwa [e,Bool.false_and] at this
 refine zeK (λe=>?_) (λe=>?_)
 ·ac_rfl
  refine no ?_ _ (Same.refl _)
  unfold rowB
  rw[decide_eq_false (by have:=of_decide_eq_true e;omega)];rfl
 have w1:1<=whole:=by have:=of_decide_eq_false e;omega
 ac_rfl
 refine zer (.inl hwa) ?_
 ac_rfl
 refine zer (.inl (SqL.of hha)) ?_
 ac_rfl
 refine zeK (λe=>?_) (λe=>?_)
 ·ac_rfl
  refine no ?_ _ (Same.refl _)
  have e1:¬ ((((ws.map V.int).length:Nat):Int)=(xs.length:Int)):=by simpa using e
  unfold rowB
  rw[decide_eq_false (show ¬ (ws.length=hyps.length) by rw[zlm] at e1;omega),Bool.false_and,Bool.and_false]
 have e1:(((ws.map V.int).length:Nat):Int)=(xs.length:Int):=by simpa using e
 have lw:ws.length=hyps.length:=by rw[zlm] at e1;omega
 ac_rfl
 refine⟨wa,rfl,⟨_,hwa⟩,?_⟩
 refine zaW (zaZ hwa) ((ws.map λw=>decide (w<0)).map D.bl) (by simp) (zaq (by simp;omega)) (λj x d' H4 R hj hd' s4 hx' hR=>?_) (λv H4 s4 n4=>?_)
 ·rw[zgm] at hx'
  obtain⟨w,hw,rfl⟩:=zme.mp hx'
  rw[zgm,zgm,hw] at hd'
  cases hd'
  ac_rfl
  exact hR _ _ (Same.refl _) New.bl
 obtain⟨ba,rfl,ba0,ba1⟩:=New.bls n4
 ac_rfl
 refine i_any (SqL.of ba1) ?_
 rw[zqQ]
 ac_rfl
 refine zeK (λe=>?_) (λe=>?_)
 ·ac_rfl
  refine no ?_ _ s4
  unfold rowB
  rw[show (ws.all λw=>decide (0<=w))=false by simpa using e,Bool.and_false,Bool.and_false]
 have hrow:rowB hyps whole ws=true:=by
  unfold rowB
  rw[decide_eq_true w1,decide_eq_true lw,show (ws.all λw=>decide (0<=w))=true by simpa using e];rfl
 ac_rfl
 refine⟨(by walk_at "sm"),λp hp=>?_⟩
 have s5:=s4.trans (zah hp (.lst [.ref ga]))
 ac_rfl
 refine zbt zac (s5 _ _ hha) (zaq (by simp;omega)) λp2 hp2=>?_
 have s6:=s5.trans (zah hp2 (.lst ([.ref ga]++xs)))
 ac_rfl
 refine⟨(by walk_at "sm"),λp3 hp3=>?_⟩
 have s7:=s6.trans (zah hp3 (.lst [.int whole]))
 ac_rfl
 refine⟨wa,rfl,⟨_,s7.seq hwa⟩,?_⟩
 refine zaW (zaZ (s7.seq hwa)) ((negs ws).map D.int) (by simp[negs]) (zaq (by simp;omega)) (λj x d' H8 R hj hd' s8 hx' hR=>?_) (λv H8 s8 n8=>?_)
 ·rw[zgm] at hx'
  obtain⟨w,hw,rfl⟩:=zme.mp hx'
  unfold negs at hd'
  rw[zgm,zgm,hw] at hd'
  cases hd'
  ac_rfl
  exact hR _ _ (Same.refl _) New.int
 obtain⟨na,rfl,na0,na1⟩:=New.iif.mp n8
 ac_rfl
 refine zbt (s8 _ _ zac) na1 (zaq (by simp[negs];omega)) λp4 hp4=>?_
 have s9:=s8.trans (zah hp4 (.lst ([.int whole]++(negs ws).map V.int)))
 have s09:=s7.trans s9
 ac_rfl
 have hL:Rep K (upd H8 p4 (.lst ([.int whole]++(negs ws).map V.int))) (.lst ((goal::hyps).map nums)) (.ref p2):=by
  unfold Rep
  refine⟨p2,[.ref ga]++xs,rfl,SqL.of (s9 _ _ (zah hp3 _ _ _ zac)),?_⟩
  rw[zmc]
  unfold Reps
  exact⟨_,_,rfl,zbd.mpr ⟨ga,rfl,SqL.of (s09 _ _ hga)⟩,Reps.same s09 _ hx⟩
 refine⟨p2,p4,goal::hyps,whole::negs ws,rfl,hL,SqL.of zac,by simp[negs];omega,by simp;omega,λl hl=>?_,λi l w e1 e2 n hn=>?_,λv Ha sa na=>?_⟩
 ·rcases List.mem_cons.mp hl with hl | hl
  ·subst hl;exact l9
  ·exact h9 l hl
 ·refine .inr ?_
  cases i with
  | zero=>simp at e2;subst e2;unfold CB at cw;exact⟨by omega,by omega⟩
  | succ i=>
   have e2':(negs ws)[i]?=some w:=by simpa using e2
   unfold negs at e2'
   rw[zgm] at e2'
   obtain⟨u,hu,rfl⟩:=zme.mp e2'
   have:=cws u (zmg hu)
   unfold CB at this
   exact⟨by omega,by omega⟩
 obtain⟨ra,rfl,ra0,ra1⟩:=New.iif.mp na
 have hr9:(zkM goal hyps whole ws).length=9:=za7 λl hl=>by
  rcases List.mem_cons.mp hl with hl | hl
  ·subst hl;exact l9
  ·exact h9 l hl
 obtain⟨c,fs,ec⟩:∃ c fs,zkM goal hyps whole ws=c::fs:=by
  cases e:zkM goal hyps whole ws with
  | nil=>rw[e] at hr9;simp at hr9
  | cons c fs=>exact⟨c,fs,rfl⟩
 have ra2:Ha ra=some (.lst ((c::fs).map V.int)):=by rw[<-ec];exact ra1
 have sf:=s09.trans sa
 have yes:∀ H',Same H H'->Q (.bl (decide (-whole<c) && decide (fs=List.replicate 8 0))) H':=λH' s=>by
  have:=q H' s
  unfold zew zoP at this
  rw[hrow,ec,Bool.true_and] at this
  exact this
 ac_rfl
 refine zbX (SqL.of ra2) (v:=.int c) zbs ?_
 ac_rfl
 cases hb:decide (-whole<c) with
 | false=>
  ac_rfl
  have:=yes _ sf
  rw[hb,Bool.false_and] at this
  exact this
 | true=>
  ac_rfl
  refine zr3 (SqL.of ra2) λp5 hp5=>?_
  rw[show cutV ((c::fs).map V.int) (some 1) none=fs.map V.int from zoG (k:=1) (by simp)]
  ac_rfl
  refine⟨(by walk_at "sm"),λp6 hp6=>?_⟩
  ac_rfl
  refine .inr ⟨p6,8,[.int 0],rfl,rfl,zac,by decide,by decide,by decide,λp7 hp7=>?_⟩
  rw[zsp]
  have t5:=zah hp5 (.lst (fs.map V.int))
  have t6:=zah hp6 (.lst [.int 0])
  have t7:=zah hp7 (.lst ((List.replicate 8 (0:Int)).map V.int))
  ac_rfl
  refine zox (d:=nums fs) (e:=nums (List.replicate 8 0)) (zbd.mpr ⟨p5,rfl,SqL.of (t7 _ _ (t6 _ _ zac))⟩) (zbd.mpr ⟨p7,rfl,SqL.of zac⟩) (Nat.le_trans (ziL _) (by decide)) ?_
  have:=yes _ (sf.trans (t5.trans (t6.trans t7)))
  rw[hb,Bool.true_and] at this
  unfold pyEq
  rw[zfR]
  exact this
def zc0 (K:Fg):Sp:=λvs H Q _=>∃ n:Nat,vs=[.int n]/\n<=8/\∀ v H',Same H H'->New H H' (.lst ((zd8 n).map nums)) v->Q v H'
variable {n:Nat}
theorem znX(h:n<=8):(zd8 n).length<=256:=by
 rw[zgj]
 exact Nat.le_trans (Nat.pow_le_pow_right (by decide) h) (by decide)
theorem zo9{r:Addr}(hp:H p=none)(hr:(upd H p (.lst [])) r=none):New H (upd (upd H p (.lst [])) r (.lst [.ref p])) (.lst ((zd8 0).map nums)) (.ref r):=by
 have s1:=zah hp (.lst [])
 have s2:=zah hr (.lst [.ref p])
 have pr:r≠p:=λz=>by rw[z,zac] at hr;cases hr
 refine New.lst (fp:=[p]) ?_ (by simp) (λb hb=>?_) (s1.free hr) (by simpa using pr) zac
 ·show zaj _ [nums []] [.ref p] [p]
  exact zaj.cany (f:=[p]) (fp:=[]) (RepF.line (ns:=[]) (s2 _ _ zac)) zaj.nil
 ·rw[zms.mp hb];exact hp
include B Z in
theorem zfe (F:Fun K "noughts_and_ones" "noughts_and_ones" zbo f fd)(m:mg "noughts_and_ones"=some (.ref f)):Fn P w K mg b8 "noughts_and_ones" ["count"] 1 (zc0 K):=by
 refine Fn.of (k:=0) F zbz m (λ_ _ _ _ _ _ us hl=>(by obtain⟨_,rfl⟩:=len1 hl;rfl)) (λvs H Q E h=>?_) (λcdv A outer s H vs Q E hr h=>?_)
 ·first
  | (obtain⟨_,rfl,_⟩:=h;rfl)
 obtain⟨n,rfl,hn,q⟩:=h
 refine⟨_,(zaf (zas (i:=1) zbz.nd (QE.run (zbC (zbp (zbC zaG) zaG))))
   (zaf (zej PassesOwn.never rfl (zei rfl B.range (zab (pv 0) zaa)) (zaD (i:=2) zbz.nd) (zag (zas (i:=1) zbz.nd (zaQ (zaX K) (za6 rfl (COk.m (sc0:=zae zbo) (N:=["count","found","bit"]) (N':=["count","found","bit","weights"]) (ms:=[false,false,false,true])) (za8 K (pv 1)) (λ_ _ _ _ _=>(zaD (i:=3) (ndS (N:=["count","found","bit","weights"])))) (λ_ _ _ _ _=>zaN) (λ_ _ _ _ _=>(zaQ (zaX K) (pv 3) (zaR (zam zad zaa))))) (za6 rfl (COk.m (sc0:=zae zbo) (N:=["count","found","bit"]) (N':=["count","found","bit","weights"]) (ms:=[false,false,false,true])) (za8 K (pv 1)) (λ_ _ _ _ _=>(zaD (i:=3) (ndS (N:=["count","found","bit","weights"])))) (λ_ _ _ _ _=>zaN) (λ_ _ _ _ _=>(zaQ (zaX K) (pv 3) (zaR (zam zad zaa)))))))))
   (zag (zan (pv 1))))),?_⟩
 ac_rfl
 refine⟨(by walk_at "sm"),λp1 hp1=>?_⟩
 ac_rfl
 refine⟨(by walk_at "sm"),λp2 hp2=>?_⟩
 have n0:=zo9 hp1 hp2
 have s0:=(zah hp1 (.lst [])).trans (zah hp2 (.lst [.ref p1]))
 ac_rfl
 refine zhb (by omega) (by omega) ?_
 refine znk (λi σ H2=>∃ x fa,i<=n/\σ=[some (.int n),some (.ref fa),x]/\Same H H2/\New H H2 (.lst ((zd8 i).map nums)) (.ref fa))
  ⟨none,p2,Nat.zero_le _,rfl,s0,n0⟩ ?_ ?_
 ·rintro i σ H2 hi ⟨x,fa,him,rfl,s2,n2⟩
  have hi':i<n:=by have:i<((n:Int)).toNat:=hi;omega
  have lr:=znX (n:=i) (by omega)
  obtain⟨_,ef,fa0,lsf⟩:=n2.ls
  cases ef
  obtain⟨vs,hvs,lvs⟩:=lsf.len
  ac_rfl
  refine⟨fa,rfl,⟨_,SqL.of hvs⟩,?_⟩
  refine zaW (zaZ (SqL.of hvs)) (((zd8 i).map λr=>r++[0]).map nums) (by simp[lvs]) (zaq (by omega)) (λj x' d H4 R hj hd s4 hx' hR=>?_) (λv H3 s3 n3=>?_)
  ·obtain⟨wa,r,rfl,hr',hwa⟩:=lsf.item hvs hx'
   rw[zgm,zgm,hr'] at hd;cases hd
   have lr2:=(zdB _ _ (zmg hr')).1
   ac_rfl
   refine⟨(by walk_at "sm"),λp hp=>?_⟩
   have t1:=zah hp (.lst [.int 0])
   ac_rfl
   refine zbt (t1 _ _ (s4 _ _ hwa)) zac (zaq (by simp;omega)) λp' hp'=>?_
   exact hR _ _ (t1.trans (zah hp' _)) (New.iif.mpr ⟨p',rfl,t1.free hp',by rw[zac,List.map_append];rfl⟩)
  ac_rfl
  refine⟨fa,rfl,⟨_,SqL.of (s3 _ _ hvs)⟩,?_⟩
  refine zaW (zaZ (SqL.of (s3 _ _ hvs))) (((zd8 i).map λr=>r++[1]).map nums) (by simp[lvs]) (zaq (by omega)) (λj x' d H4 R hj hd s4 hx' hR=>?_) (λv' H4 s4 n4=>?_)
  ·obtain⟨wa,r,rfl,hr',hwa⟩:=lsf.item hvs hx'
   rw[zgm,zgm,hr'] at hd;cases hd
   have lr2:=(zdB _ _ (zmg hr')).1
   ac_rfl
   refine⟨(by walk_at "sm"),λp hp=>?_⟩
   have t1:=zah hp (.lst [.int 1])
   ac_rfl
   refine zbt (t1 _ _ (s4 _ _ (s3 _ _ hwa))) zac (zaq (by simp;omega)) λp' hp'=>?_
   exact hR _ _ (t1.trans (zah hp' _)) (New.iif.mpr ⟨p',rfl,t1.free hp',by rw[zac,List.map_append];rfl⟩)
  obtain⟨a1,vs1,f1,rfl,z1,y1,r1,_⟩:=New.lso n3
  obtain⟨a2,vs2,f2,rfl,z2,y2,r2,_⟩:=New.lso n4
  have l1:=r1.length
  have l2:=r2.length
  simp only[zlm] at l1 l2
  ac_rfl
  refine zbt (s4 _ _ y1) y2 (zaq (by omega)) λp hp=>?_
  ac_rfl
  refine⟨_,p,by omega,rfl,(s2.trans (s3.trans s4)).trans (zah hp _),?_⟩
  have:=New.cat (n3.back s2) (s2.trans s3) s4 n4 (s4 _ _ y1) y2 hp
  rw[<-List.map_append] at this
  exact this
 ·rintro σ H2 ⟨x,fa,him,rfl,s2,n2⟩
  ac_rfl
  exact q _ _ s2 n2
inductive Q3f (K:Fg)(vs:List V)(H:Hp)(Q:VK)(E:XK):Prop
 | mk (d ga ha:Addr) (goal:List Int) (hyps:List (List Int)) (xs:List V):vs=[.ref d]->SqT K H d [.ref ga,.ref ha]->H ga=some (.lst (goal.map V.int))->H ha=some (.lst xs)->Reps K H (hyps.map nums) xs->goal.length=9->(∀ l∈hyps,l.length=9)->hyps.length<=8->(∀ v H',Same H H'->New H H' (rowD (zbx goal hyps)) v->Q v H')->Q3f K vs H Q E
theorem zqR{r:List Int}(h:r∈zd8 n):∀ w∈r,CB w:=λw hw=>by
 have:=(zdB _ _ h).2 w hw
 unfold CB
 rcases this with z | z <;> exact⟨by omega,by omega⟩
variable (Q3e:Fn P w K mg b8 "shows" ["duty","row"] 2 (zjf K))
include B Z Q3e in
theorem znY (Q40:Fn P w K mg b8 "noughts_and_ones" ["count"] 1 (zc0 K))(F:Fun K "sought" "sought" ziz f fd)(m:mg "sought"=some (.ref f)):Fn P w K mg b8 "sought" ["duty"] 3 (Q3f K):=by
 refine Fn.of (k:=2) F zfA m (λ_ _ _ _ _ _ us hl=>(by obtain⟨_,rfl⟩:=len1 hl;rfl)) (λvs H Q E h=>?_) (λcdv A outer s H vs Q E hr h=>?_)
 ·first
  | (obtain⟨_,_,_,_,_,_,rfl,_⟩:=h;rfl)
 obtain⟨d,ga,ha,goal,hyps,xs,rfl,hd,hga,hha,hx,l9,h9,hl,q⟩:=h
 obtain⟨gw,g_WHOLES,hT⟩:=B.t_WHOLES
 have lx:=hx.length
 rw[zlm] at lx
 refine⟨_,(zaf (zas (i:=1) zfA.nd (zap Q40 hr rfl (zaE (zaw (zdV K) rfl B.len L2.boot_len (zaH (zav (k_ix K) (pv 0) zad) zaa)) zaa)))
   (zaf (zej PassesOwn.never rfl (zjF K (zb1 rfl g_WHOLES)) (zaD (i:=2) zfA.nd) (zag (zej PassesOwn.never rfl (za8 K (pv 1)) (zaD (i:=3) zfA.nd) (zag (za4 (zcp (zap Q3e hr rfl (zab (pv 0) (zpA (zdu (zab (pv 2) (zab (pv 3) zaa))) zaa)))) (zag (zan (zdu (zab (pv 2) (zab (pv 3) zaa))))) zaA)))))
   (zag (zan zcQ)))),?_⟩
 ac_rfl
 refine zaL hd (v:=.ref ha) (zaB (j:=1) rfl) ?_
 ac_rfl
 refine zer (.inl (SqL.of hha)) ?_
 ac_rfl
 refine⟨xs.length,rfl,by omega,λv H1 s1 n1=>?_⟩
 rw[<-lx] at n1
 obtain⟨ra,rfl,ra0,lsr⟩:=n1.ls
 obtain⟨vs,hvs,lvs⟩:=lsr.len
 have lr:=znX (n:=hyps.length) hl
 ac_rfl
 refine⟨gw,rfl,⟨_,hT _⟩,?_⟩
 refine zfT (n:=4) (zfk (xs:=([1,2,3,4]:List Int).map V.int) (hT H1)) (λi σ H2=>∃ x y,A3 (σ=[some (.ref d),some (.ref ra),x,y]) (Same H1 H2) ((([1,2,3,4]:List Int).take i).findSome? (zgK goal hyps)=none))
  ⟨none,none,rfl,Same.refl _,rfl⟩ (λi σ H2 ⟨_,_,_,e,_⟩=>e) ?_ ?_
 ·rintro i v σ H2 H3 hi ⟨x,y,rfl,s2,f2⟩ s3 hv
  rw[zgm] at hv
  obtain⟨w,hw,rfl⟩:=zme.mp hv
  have w4:1<=w/\w<=4:=by
   have:=zmg hw
   simp at this
   omega
  have s13:=s2.trans s3
  ac_rfl
  refine⟨ra,rfl,⟨_,SqL.of (s13 _ _ hvs)⟩,?_⟩
  refine zfT (zaZ (SqL.of (s13 _ _ hvs))) (λj σ H4=>∃ y,A3 (σ=[some (.ref d),some (.ref ra),some (.int w),y]) (Same H3 H4) (((zd8 hyps.length).take j).findSome? (zin goal hyps w)=none))
   ⟨y,rfl,Same.refl _,rfl⟩ (λi σ H2 ⟨_,_,e,_⟩=>e) ?_ ?_
  ·rintro j v σ H4 H5 hj ⟨y',rfl,s4,f4⟩ s5 hv
   obtain⟨wa,r,rfl,hr',hwa⟩:=lsr.item hvs hv
   have hm:=zmg hr'
   have lr2:=(zdB _ _ hm).1
   have s15:=s13.trans (s4.trans s5)
   have s05:=s1.trans s15
   ac_rfl
   refine⟨(by walk_at "sm"),λT hTT=>?_⟩
   have t1:=zah hTT (.tup [.int w,.ref wa])
   have s06:=s05.trans t1
   ac_rfl
   refine .inr ⟨d,T,ga,ha,wa,goal,hyps,xs,w,r,rfl,s06.tup hd,s06 _ _ hga,s06 _ _ hha,Reps.same s06 _ hx,SqT.of zac,SqL.of (t1 _ _ (s15 _ _ hwa)),l9,h9,by omega,by omega,by unfold CB;exact⟨by omega,by omega⟩,zqR hm,λH7 s7=>?_⟩
   have s17:=s15.trans (t1.trans s7)
   cases hb:zew goal hyps w r with
   | true=>
    ac_rfl
    refine⟨(by walk_at "sm"),λT2 hT2=>?_⟩
    have e1:zin goal hyps w r=some (w,r):=by unfold zin;rw[if_pos hb]
    have e2:zgK goal hyps w=some (w,r):=ziU f4 hr' e1
    have e3:zbx goal hyps=some (w,r):=ziU f2 hw e2
    have n7:New H H7 (nums r) (.ref wa):=(New.item (d:=nums r) n1 hvs (by rw[zgm,hr'];rfl) hv).same s17
    refine q _ _ ((s1.trans s17).trans (zah hT2 _)) ?_
    rw[e3]
    exact n7.pairT hT2
   | false=>
    ac_rfl
    refine⟨_,rfl,s4.trans (s5.trans (t1.trans s7)),zhm f4 hr' ?_⟩
    unfold zin
    rw[if_neg (by rw[hb];decide)]
  ·rintro σ H4 ⟨y',rfl,s4,f4⟩
   refine⟨_,_,rfl,s13.trans s4,zhm f2 hw ?_⟩
   exact zlB f4 (by omega)
 ·rintro σ H2 ⟨x,y,rfl,s2,f2⟩
  ac_rfl
  refine q _ _ (s1.trans s2) ?_
  have e3:zbx goal hyps=none:=zlB f2 (by decide)
  rw[e3]
  exact New.non
inductive Q41 (K:Fg)(C:Nat->Addr)(vs:List V)(H:Hp)(Q:VK)(E:XK):Prop
 | mk (ha dx:Addr):vs=[.ref ha]->H ha=some (.ins (C 7) dx [])->(∀ la va H',H la=none->H va=none->la≠va->OffA [ha] H H'->H' ha=some (.ins (C 7) dx (hfl la va))->H' la=some (.dK [])->H' va=some (.dK [])->Q .non H')->Q41 K C vs H Q E
include B Z in
theorem zqS (F:Fun K "__init__" "Hall.__init__" zcL f fd)(M:Mk K (C 7) f):Mkr P w K mg b8 "Hall" (C 7) ["self"] 1 (Q41 K C):=by
 refine⟨f,fd,M,F.ok (k:=0) zgs (λvs H Q E h=>?_) (λcdv A outer s H vs Q E hr h=>?_),F.binds λ_ _ _ _ _ _ us hl=>(by obtain⟨_,rfl⟩:=len1 hl;rfl),Z.m_Hall⟩
 ·first
  | (obtain⟨_,_,rfl,_⟩:=h;rfl)
 obtain⟨ha,dx,rfl,hh,q⟩:=h
 refine⟨_,(zaf (zbG (pv 0) zgE rfl)
   (zag (zbG (pv 0) zgE rfl))),?_⟩
 walk_at "q"
 nofun
 intro la la0
 have e1:(upd H la (.dK [])) ha=some (.ins (C 7) dx []):=by rw[zai (zao hh la0)];exact hh
 nofun
 refine⟨ha,(C 7),dx,[],rfl,e1,Z.c_Hall,Z.n_Hall_laid,by show 0<1000;decide,?_⟩
 nofun
 intro va va0
 have nha:va≠ha:=λz=>by rw[z,zac] at va0;cases va0
 have nla:va≠la:=λz=>by rw[z,zai (zao hh la0).symm,zac] at va0;cases va0
 have v0:H va=none:=by rw[zai nha,zai nla] at va0;exact va0
 nofun
 refine⟨ha,(C 7),dx,_,rfl,by rw[zai nha.symm,zac],Z.c_Hall,Z.n_Hall_vouched,Nat.lt_of_lt_of_le (za2 (n:=1) (by decide)) (by decide),?_⟩
 have nl:la≠ha:=(zao hh la0).symm
 refine q la va _ la0 v0 nla.symm (λb o n e=>?_) zac ?_ ?_
 ·have n1:b≠ha:=λz=>n (by simp[z])
  rw[zai n1,zai (zao e v0),zai n1,zai (zao e la0)]
  exact e
 ·rw[zai nl,zai nla.symm,zai nl,zac]
 ·rw[zai nha,zac]
inductive Q58 (K:Fg)(C:Nat->Addr)(vs:List V)(H:Hp)(Q:VK)(E:XK):Prop
 | mk (ha la va:Addr) (n:Int) (ks:List Int) (cr:Int->Cr) (ws:List Int) (fp:List Addr):vs=[.ref ha,.int n]->HAt (C 7) (C 0) H ha la va ks cr ws fp->(∀ H' ws',OffA [va] H H'->HAt (C 7) (C 0) H' ha la va ks cr ws' fp->(∀ m,m∈ws'↔m∈ws/\m≠n)->Q .non H')->Q58 K C vs H Q E
include B Z in
theorem zhK (F:Fun K "release" "Hall.release" zdj f fd)(M:Meth K (C 7) "release" f):Mth CX0 P w K mg b8 (C 7) "release" ["self","number"] 1 (Q58 K C):=by
 refine⟨f,fd,M,F.ok (k:=0) zhA (λvs H Q E h=>?_) (λcdv A outer s H vs Q E hr h=>?_),F.binds λ_ _ _ _ _ _ us hl=>(by obtain⟨_,_,rfl⟩:=len2 hl;rfl)⟩
 ·first
  | (obtain⟨_,_,_,_,_,_,_,_,rfl,_⟩:=h;rfl)
 obtain⟨ha,la,va,n,ks,cr,ws,fp,rfl,hA,q⟩:=h
 refine⟨_,(zag (za1 (zol (zay K (pv 0) rfl) (pv 1) zcQ ⟨rfl,rfl,rfl,rfl⟩))),?_⟩
 obtain⟨dx,hh⟩:=hA.ins
 obtain⟨kvs,hva,hk⟩:=hA.vou
 nofun
 refine⟨ha,(C 7),dx,_,_,rfl,hh,Z.c_Hall,Z.n_Hall_vouched,zdC _ _,?_⟩
 refine⟨va,rfl,.inl ⟨_,.inl hva⟩,?_⟩
 nofun
 refine⟨kvs,.inl n,hva,rfl,λv hv=>?_,λhv=>?_⟩
 ·nofun
  refine q _ _ (zbI (by simp)) (hA.putV hk.drop λm hm=>hA.sub m (List.mem_filter.mp hm).1) λm=>?_
  rw[List.mem_filter,decide_eq_true_eq]
 ·nofun
  refine q _ ws (Same.refl _).offA hA λm=>⟨λhm=>⟨hm,λz=>?_⟩,λhm=>hm.1⟩
  subst z
  obtain⟨v,e,_⟩:=hk.2.2 m hm
  rw[e] at hv;cases hv
inductive Q56 (K:Fg)(C:Nat->Addr)(vs:List V)(H:Hp)(Q:VK)(E:XK):Prop
 | mk (ha la va:Addr) (n:Int) (ks:List Int) (cr:Int->Cr) (ws:List Int) (fp:List Addr):vs=[.ref ha,.int n]->HAt (C 7) (C 0) H ha la va ks cr ws fp->(∀ v H',Same H H'->New H H' (nums (zbw ks cr n)) v->Q v H')->Q56 K C vs H Q E
include B Z Q10 in
theorem zf7 (F:Fun K "called_at" "Hall.called_at" zcu f fd)(M:Meth K (C 7) "called_at" f):Mth CX0 P w K mg b8 (C 7) "called_at" ["self","number"] 2 (Q56 K C):=by
 refine⟨f,fd,M,F.ok (k:=1) zf1 (λvs H Q E h=>?_) (λcdv A outer s H vs Q E hr h=>?_),F.binds λ_ _ _ _ _ _ us hl=>(by obtain⟨_,_,rfl⟩:=len2 hl;rfl)⟩
 ·first
  | (obtain⟨_,_,_,_,_,_,_,_,rfl,_⟩:=h;rfl)
 obtain⟨ha,la,va,n,ks,cr,ws,fp,rfl,hA,q⟩:=h
 refine⟨_,(zaf (za4 (zgT (zm5 (hr_u hr) (pv 1) (zay K (pv 0) rfl))) (zag (zan (zap Q10 hr rfl (zaH (zel (hr_u hr) (zay K (pv 0) rfl) (pv 1) (λ_ _=>rfl)) zaa)))) zaA)
   (zag (zan (zaR zaa)))),?_⟩
 obtain⟨dx,hh⟩:=hA.ins
 obtain⟨kvs,hla,hk⟩:=hA.laid
 unfold zbw at q
 walk_at "q"
 nofun
 refine⟨ha,(C 7),dx,_,_,rfl,hh,Z.c_Hall,Z.n_Hall_laid,zdo _ _,?_⟩
 refine⟨la,_,rfl,DGet.k (k:=.inl n) hla,?_⟩
 by_cases hm:n∈ks
 ·obtain⟨v,hv,p,f,rfl,hC,hf⟩:=hk.2.2 n hm
  rw[if_pos hm] at q
  have rt:=hA.rt n hm
  obtain⟨_,dx',w1,w2,b3,w4,dvs,hp,hb3,hD⟩:=hC.t (K:=K) rt.nine.d9
  rw[hv]
  nofun
  refine zeK (λ_=>?_) (λz=>by cases z)
  nofun
  refine⟨ha,(C 7),dx,_,_,rfl,hh,Z.c_Hall,Z.n_Hall_laid,zdo _ _,?_⟩
  nofun
  refine⟨la,.ref p,rfl,by rw[<-hv];exact DGet.k (k:=.inl n) hla,?_⟩
  nofun
  exact⟨p,dx',b3,w1,w2,w4,dvs,(cr n).deeds,rfl,hp,hb3,hD,by have:=rt.nine.d;omega,q⟩
 ·rw[if_neg hm] at q
  rw[hk.no hm]
  nofun
  refine zeK (λz=>by cases z) (λ_=>?_)
  nofun
  refine⟨(by walk_at "sm"),λp hp=>?_⟩
  exact q _ _ (zah hp _) (New.iif.mpr ⟨p,rfl,hp,zac⟩)
inductive Q5a (K:Fg)(C:Nat->Addr)(vs:List V)(H:Hp)(Q:VK)(E:XK):Prop
 | mk (ha la va:Addr) (n:Int) (ks:List Int) (cr:Int->Cr) (ws:List Int) (fp:List Addr):vs=[.ref ha,.int n]->HAt (C 7) (C 0) H ha la va ks cr ws fp->(∀ H' ws',OffA [va] H H'->HAt (C 7) (C 0) H' ha la va ks cr ws' fp->(∀ m,m∈ws'↔m∈ws/\n∉zbw ks cr m)->Q .non H')->Q5a K C vs H Q E
variable (Q57:Mth CX0 P w K mg b8 (C 7) "called_at" ["self","number"] 2 (Q56 K C))(Q59:Mth CX0 P w K mg b8 (C 7) "release" ["self","number"] 1 (Q58 K C))
include B Z Q57 Q59 in
theorem zd1 (F:Fun K "release_callers" "Hall.release_callers" zbE f fd)(M:Meth K (C 7) "release_callers" f):Mth CX0 P w K mg b8 (C 7) "release_callers" ["self","number"] 3 (Q5a K C):=by
 refine⟨f,fd,M,F.ok (k:=2) zcc (λvs H Q E h=>?_) (λcdv A outer s H vs Q E hr h=>?_),F.binds λ_ _ _ _ _ _ us hl=>(by obtain⟨_,_,rfl⟩:=len2 hl;rfl)⟩
 ·first
  | (obtain⟨_,_,_,_,_,_,_,_,rfl,_⟩:=h;rfl)
 obtain⟨ha,la,va,n,ks,cr,ws,fp,rfl,hA,q⟩:=h
 refine⟨_,(zag (zej PassesOwn.never rfl (za8 K (zcS (zl8 rfl) rfl B.list L2.zdw (zba (zay K (pv 0) rfl) zaa))) (zaD (i:=2) zcc.nd) (zag (za4 (zax (k_in K) (pv 1) (zaS Q57 Z.c_Hall hr za5 (pv 0) (zab (pv 2) zaa)) rfl) (zag (za1 (zaS Q59 Z.c_Hall hr za5 (pv 0) (zab (pv 2) zaa)))) zaA)))),?_⟩
 obtain⟨dx,hh⟩:=hA.ins
 obtain⟨kvs,hva,hk⟩:=hA.vou
 have nd:=hk.2.1
 nofun
 refine⟨ha,(C 7),dx,_,_,rfl,hh,Z.c_Hall,Z.n_Hall_vouched,zdC _ _,?_⟩
 nofun
 refine zqt hva hk.1 λl hl=>?_
 have s0:=zah hl (.lst (ws.map V.int))
 have nlv:l≠va:=(zao hva hl).symm
 refine⟨l,rfl,⟨_,SqL.of zac⟩,?_⟩
 refine ziP (xs:=ws.map V.int) (λi σ H'=>∃ x ws',A4 (σ=[some (.ref ha),some (.int n),x]) (OffA [va] (upd H l (.lst (ws.map V.int))) H') (HAt (C 7) (C 0) H' ha la va ks cr ws' fp) (∀ m,m∈ws'↔m∈ws/\(m∈ws.take i->n∉zbw ks cr m)))
  ⟨none,ws,rfl,(Same.refl _).offA,hA.same s0,λm=>by simp⟩ (λi σ H' _ ⟨_,_,_,e,_,_⟩=>SqL.of (e _ _ (by simp[nlv]) zac)) ?_ ?_
 ·rintro i v σ H2 hv ⟨x,ws',rfl,o2,hA2,hm2⟩
  rw[zgm] at hv
  obtain⟨m0,hm0,rfl⟩:=zme.mp hv
  obtain⟨dx2,hh2⟩:=hA2.ins
  nofun
  refine⟨ha,dx2,_,rfl,hh2,zcj,?_⟩
  nofun
  refine⟨ha,la,va,m0,ks,cr,ws',fp,rfl,hA2,λv H3 s3 n3=>?_⟩
  obtain⟨ca,rfl,ca0,ca1⟩:=New.iif.mp n3
  refine i_inI (SqL.of ca1) ?_
  have tk:∀ m,m∈ws.take (i+1)↔m∈ws.take i\/m=m0:=λm=>by
   rw[List.take_add_one,hm0];simp
  by_cases hc:n∈zbw ks cr m0
  ·rw[decide_eq_true hc]
   nofun
   refine⟨ha,dx2,_,rfl,s3 _ _ hh2,zcj,?_⟩
   nofun
   refine⟨ha,la,va,m0,ks,cr,ws',fp,rfl,hA2.same s3,λH4 ws4 o4 hA4 hm4=>?_⟩
   nofun
   refine⟨_,ws4,rfl,o2.trans (s3.offA.trans o4),hA4,λm=>?_⟩
   rw[hm4,hm2,tk]
   constructor
   ·rintro⟨⟨h1,h2⟩,h3⟩
    exact⟨h1,λz=>by rcases z with z | z;exact h2 z;exact absurd z h3⟩
   ·rintro⟨h1,h2⟩
    exact⟨⟨h1,λz=>h2 (.inl z)⟩,λz=>h2 (.inr z) (by rw[z];exact hc)⟩
  ·rw[decide_eq_false hc]
   nofun
   refine⟨_,ws',rfl,o2.trans s3.offA,hA2.same s3,λm=>?_⟩
   rw[hm2,tk]
   constructor
   ·rintro⟨h1,h2⟩
    exact⟨h1,λz=>by rcases z with z | z;exact h2 z;rw[z];exact hc⟩
   ·rintro⟨h1,h2⟩
    exact⟨h1,λz=>h2 (.inl z)⟩
 ·rintro σ H2 ⟨x,ws',rfl,o2,hA2,hm2⟩
  nofun
  refine q _ ws' (s0.offA.trans o2) hA2 λm=>?_
  rw[hm2,zlm,List.take_of_length_le (Nat.le_refl _)]
  exact⟨λh=>⟨h.1,h.2 h.1⟩,λh=>⟨h.1,λ_=>h.2⟩⟩
inductive Q5c (K:Fg)(C:Nat->Addr)(vs:List V)(H:Hp)(Q:VK)(E:XK):Prop
 | mk (p q:Addr) (n1 l1 n2 l2:List (List Int)) (d1 d2:List D) (o1 o2:List (List (List Int))):vs=[.ref p,.ref q]->zby K (C 0) H p n1 l1 d1 o1->zby K (C 0) H q n2 l2 d2 o2->Q (.bl (decide (n1=n2) && decide (l1=l2))) H->Q5c K C vs H Q E
include B Z in
theorem zkg (F:Fun K "same_oath" "same_oath" zeV f fd)(m:mg "same_oath"=some (.ref f)):Fn P w K mg b8 "same_oath" ["craft","other"] 1 (Q5c K C):=by
 refine Fn.of (k:=0) F zj7 m (λ_ _ _ _ _ _ us hl=>(by obtain⟨_,_,rfl⟩:=len2 hl;rfl)) (λvs H Q E h=>?_) (λcdv A outer s H vs Q E hr h=>?_)
 ·first
  | (obtain⟨_,_,_,_,_,_,_,_,_,_,rfl,_⟩:=h;rfl)
 obtain⟨p,q,n1,l1,n2,l2,d1,d2,o1,o2,rfl,hP,hQ,k⟩:=h
 refine⟨_,(zag (zan (zbF (zbe (k_eq K hr) (zay K (pv 0) rfl) (zay K (pv 1) rfl) (zat _)) (zb2 (zbe (k_eq K hr) (zay K (pv 0) rfl) (zay K (pv 1) rfl) (zat _)))))),?_⟩
 obtain⟨dx,w1,w2,w3,w4,hp,r1,r2,_,_⟩:=hP
 obtain⟨dy,u1,u2,u3,u4,hq,t1,t2,_,_⟩:=hQ
 obtain⟨a1,rfl⟩:∃ b,w1=.ref b:=by unfold zaF Rep at r1;obtain⟨a,_,e,_⟩:=r1;exact⟨a,e⟩
 obtain⟨a2,rfl⟩:∃ b,w2=.ref b:=by unfold zaF Rep at r2;obtain⟨a,_,e,_⟩:=r2;exact⟨a,e⟩
 obtain⟨b1,rfl⟩:∃ b,u1=.ref b:=by unfold zaF Rep at t1;obtain⟨a,_,e,_⟩:=t1;exact⟨a,e⟩
 obtain⟨b2,rfl⟩:∃ b,u2=.ref b:=by unfold zaF Rep at t2;obtain⟨a,_,e,_⟩:=t2;exact⟨a,e⟩
 nofun
 refine⟨p,(C 0),dx,_,_,rfl,hp,Z.c_Craft,Z.n_Craft_needs,zcn _ _ _ _,?_⟩
 nofun
 refine⟨q,(C 0),dy,_,_,rfl,hq,Z.c_Craft,Z.n_Craft_needs,zcn _ _ _ _,?_⟩
 refine zox r1 t1 (Nat.le_trans (zjI _) (by decide)) ?_
 rw[zir]
 refine zdx (λe=>?_) (λe=>by rw[e,Bool.false_and] at k;exact k)
 rw[e,Bool.true_and] at k
 nofun
 refine⟨p,(C 0),dx,_,_,rfl,hp,Z.c_Craft,Z.n_Craft_leaves,zb9 _ _ _ _,?_⟩
 nofun
 refine⟨q,(C 0),dy,_,_,rfl,hq,Z.c_Craft,Z.n_Craft_leaves,zb9 _ _ _ _,?_⟩
 refine zox r2 t2 (Nat.le_trans (zjI _) (by decide)) ?_
 rw[zir]
 exact k
inductive Q42 (K:Fg)(C:Nat->Addr)(vs:List V)(H:Hp)(Q:VK)(E:XK):Prop
 | mk (ha la va p:Addr) (n:Int) (ks:List Int) (cr:Int->Cr) (ws:List Int) (fp:List Addr) (c:Cr):vs=[.ref ha,.int n,.ref p]->HAt (C 7) (C 0) H ha la va ks cr ws fp->zd3 K (C 0) H p c.needs c.leaves c.deeds c.notes->c.Nine->n.natAbs<zbm->(n∈ks\/ks.length<60)->(c.right=false->∀ H',Same H H'->E (.ref (C 2)) none H')->(c.right=true->∀ H' ks' ws' fp',OffA [la,va] H H'->HAt (C 7) (C 0) H' ha la va ks' (setC cr n c) ws' fp'->(∀ m,m∈ks'↔m∈ks\/m=n)->(n∈ks->ks'=ks)->(n∉ks->ks'=ks++[n])->
  (∀ m,m∈ws'↔m∈ws/\m≠n/\(n∈ks->¬ ((cr n).needs=c.needs/\(cr n).leaves=c.leaves)->n∉zbw ks cr m))->(∀ b∈fp',b∈fp\/H b=none)->Q .non H')->Q42 K C vs H Q E
variable (Qe:Fn P w K mg b8 "copied_craft" ["craft"] 4 (Qd K C))
include B Z Q59 Qe in
theorem zk5 (G_right:Fn P w K mg b8 "right" ["craft"] 7 (Q11 K C))(Q5b:Mth CX0 P w K mg b8 (C 7) "release_callers" ["self","number"] 3 (Q5a K C))(Q5d:Fn P w K mg b8 "same_oath" ["craft","other"] 1 (Q5c K C))(F:Fun K "lay" "Hall.lay" zfI f fd)(M:Meth K (C 7) "lay" f):Mth (CX1 P w) P w K mg b8 (C 7) "lay" ["self","number","craft"] 8 (Q42 K C):=by
 refine⟨f,fd,M,F.okx (k:=7) zkZ (λvs H Q E h=>?_) (λcdv A outer s H vs Q E hr h=>?_),F.binds λ_ _ _ _ _ _ us hl=>(by obtain⟨_,_,_,rfl⟩:=len3 hl;rfl)⟩
 ·first
  | (obtain⟨_,_,_,_,_,_,_,_,_,_,rfl,_⟩:=h;rfl)
 obtain⟨ha,la,va,p,n,ks,cr,ws,fp,c,rfl,hA,hT,nine,hn,hfew,qE,qQ⟩:=h
 refine⟨_,(zaf (za4 (zgf (zcp (zap G_right hr rfl (zab (pv 2) zaa)))) (zag (zeH Z.e_BadSheet rfl Z.m_BadSheet rfl zfU (za0 (zr6 (pv 1) (by decide +kernel) (by decide +kernel)) zaa))) zaA)
   (zaf (za4 (PW.pt (zmC (zgT (zm5 (hr_u hr) (pv 1) (zay K (pv 0) rfl))) (zkx (zgf (zcp (zap Q5d hr rfl (zaH (zel (hr_u hr) (zay K (pv 0) rfl) (pv 1) (λ_ _=>rfl)) (zab (pv 2) zaa)))))))) (zag (za1 (zaS Q5b Z.c_Hall hr za5 (pv 0) (zab (pv 1) zaa)))) zaA)
   (zaf (za1 (zaS Q59 Z.c_Hall hr za5 (pv 0) (zab (pv 1) zaa)))
   (zag (zg3 (hr_u hr) (zay K (pv 0) rfl) (pv 1) (zap Qe hr rfl (zab (pv 2) zaa)) rfl))))),?_⟩
 have g1:=nine.n
 have g2:=nine.l
 have g3:=nine.d
 have g4:=nine.o
 walk_at "q"
 nofun
 refine⟨p,c.needs,c.leaves,c.deeds,c.notes,rfl,hT.1,by omega,by omega,by omega,by omega,nine.n9,nine.l9,nine.d9,λls hl=>⟨by have:=(nine.o9 ls hl).1;omega,(nine.o9 ls hl).2⟩,λH1 s1=>?_⟩
 cases hr':zd2 c.needs c.leaves c.deeds c.notes with
 | false=>
  nofun
  refine⟨hn,λz=>?_⟩
  nofun
  exact⟨(by walk_at "sm"),qE hr' _ s1⟩
 | true=>
 have qQ:=qQ hr'
 clear qE
 have rtc:c.Rt:=⟨nine,hr'⟩
 nofun
 have hA1:=hA.same s1
 have hT1:=zd3.same s1 hT
 have oA:∀ {Hx:Hp},OffA [va] H1 Hx->zd3 K (C 0) Hx p c.needs c.leaves c.deeds c.notes:=λ{Hx} o=>by
  obtain⟨kv,hv,_⟩:=hA1.vou
  have nd:=o.nod λa ha=>by rw[zms.mp ha];exact⟨_,hv⟩
  obtain⟨k0,dx,w1,w2,b3,w4,dvs,k1,k2,k3⟩:=hT1
  exact⟨k0.nod nd,dx,w1,w2,b3,w4,dvs,nd _ _ k1 (λ_ z=>by cases z),nd _ _ k2 (λ_ z=>by cases z),R2.mono k3 λ_ _ z=>z.sq nd.sq⟩
 -- who called it by another oath is let go
 with_reducible refine zgh (λσ H'=>σ=[some (.ref ha),some (.int n),some (.ref p)]/\∃ ws',OffA [va] H1 H'/\HAt (C 7) (C 0) H' ha la va ks cr ws' fp/\∀ m,m∈ws'↔m∈ws/\(n∈ks->¬ ((cr n).needs=c.needs/\(cr n).leaves=c.leaves)->n∉zbw ks cr m)) (λNX tail=>?_) ?_
 ·obtain⟨dx,hh⟩:=hA1.ins
  obtain⟨kvs,hla,hk⟩:=hA1.laid
  nofun
  refine⟨ha,(C 7),dx,_,_,rfl,hh,Z.c_Hall,Z.n_Hall_laid,zdo _ _,?_⟩
  refine⟨la,_,rfl,DGet.k (k:=.inl n) hla,?_⟩
  by_cases hm:n∈ks
  ·obtain⟨v,hv,q,f,rfl,hC,hf⟩:=hk.2.2 n hm
   rw[hv]
   nofun
   refine zeK (λ_=>?_) (λz=>by cases z)
   nofun
   refine⟨ha,(C 7),dx,_,_,rfl,hh,Z.c_Hall,Z.n_Hall_laid,zdo _ _,?_⟩
   nofun
   refine⟨la,.ref q,rfl,by rw[<-hv];exact DGet.k (k:=.inl n) hla,?_⟩
   nofun
   refine⟨q,p,(cr n).needs,(cr n).leaves,c.needs,c.leaves,_,_,_,_,rfl,hC.at,hT1.1,?_⟩
   cases hs:(decide ((cr n).needs=c.needs) && decide ((cr n).leaves=c.leaves)) with
   | true=>
    nofun
    rw[Bool.and_eq_true,decide_eq_true_eq,decide_eq_true_eq] at hs
    exact tail _ _ ⟨rfl,ws,(Same.refl _).offA,hA1,λm=>⟨λz=>⟨z,λ_ w=>absurd hs w⟩,λz=>z.1⟩⟩
   | false=>
    have hs':¬ ((cr n).needs=c.needs/\(cr n).leaves=c.leaves):=λz=>by
     rw[decide_eq_true z.1,decide_eq_true z.2] at hs;cases hs
    nofun
    refine⟨ha,dx,_,rfl,hh,zcj,?_⟩
    nofun
    refine⟨ha,la,va,n,ks,cr,ws,fp,rfl,hA1,λH2 ws2 o2 hA2 hm2=>?_⟩
    nofun
    refine tail _ _ ⟨rfl,ws2,o2,hA2,λm=>?_⟩
    rw[hm2]
    exact⟨λz=>⟨z.1,λ_ _=>z.2⟩,λz=>⟨z.1,z.2 hm hs'⟩⟩
  ·rw[hk.no hm]
   nofun
   refine zeK (λz=>by cases z) (λ_=>?_)
   nofun
   exact tail _ _ ⟨rfl,ws,(Same.refl _).offA,hA1,λm=>⟨λz=>⟨z,λw=>absurd w hm⟩,λz=>z.1⟩⟩
 rintro σ H2 ⟨rfl,ws2,o2,hA2,hm2⟩
 obtain⟨dx2,hh2⟩:=hA2.ins
 walk_at "q"
 nofun
 refine⟨ha,dx2,_,rfl,hh2,zcj,?_⟩
 nofun
 refine⟨ha,la,va,n,ks,cr,ws2,fp,rfl,hA2,λH3 ws3 o3 hA3 hm3=>?_⟩
 have o13:=o2.trans o3
 nofun
 refine⟨p,c,rfl,oA o13,nine,λq f H4 s4 hC hf fn=>?_⟩
 have hA4:=hA3.same s4
 obtain⟨dx4,hh4⟩:=hA4.ins
 obtain⟨kvs,hla,hk⟩:=hA4.laid
 nofun
 refine⟨ha,(C 7),dx4,_,_,rfl,hh4,Z.c_Hall,Z.n_Hall_laid,zdo _ _,?_⟩
 nofun
 have hkl:=hk.len
 have h60:=hA.few
 refine⟨la,_,rfl,DPut.k (k:=.inl n) hla (zcq (by omega)),?_⟩
 have nd5:NoD H4 (upd H4 la (.dK (putK kvs (.inl n) (.ref q)))):=zhp hla
 obtain⟨kv,hva,hkv⟩:=hA4.vou
 have put:=hk.put' (m:=n) (v:=.ref q) (P':=CrIn (C 0) (upd H4 la (.dK (putK kvs (.inl n) (.ref q)))) (setC cr n c) (f++fp)) ⟨q,f,rfl,by unfold setC;rw[if_pos rfl];exact hC.nod nd5,λb hb=>List.mem_append_left _ hb⟩ (λk v ne ⟨p',f',e1,e2,e3⟩=>⟨p',f',e1,by unfold setC;rw[if_neg ne];exact e2.nod nd5,λb hb=>List.mem_append_right _ (e3 b hb)⟩)
 have kss:∀ m,m∈(if n∈ks then ks else ks++[n])↔m∈ks\/m=n:=λm=>by
  by_cases z:n∈ks
  ·rw[if_pos z]
   exact⟨.inl,λw=>by rcases w with w | w;exact w;rw[w];exact z⟩
  ·rw[if_neg z];simp
 refine qQ _ (if n∈ks then ks else ks++[n]) ws3 (f++fp) ?_ ⟨?_,⟨_,zac,put⟩,⟨kv,by rw[zai hA4.ne.symm];exact hva,hkv⟩,hA4.ne,λm hm=>?_,?_,λm hm=>?_,λb hb=>?_⟩ kss (λz=>by rw[if_pos z]) (λz=>by rw[if_neg z]) (λm=>?_) (λb hb=>?_)
 ·refine OffA.trans (s1.offA.trans ?_) (s4.offA.trans (zbI (by simp)))
  exact OffA.putDict o13 λb hb=>by rw[zms.mp hb];simp
 ·exact⟨dx4,nd5 _ _ hh4 (λ_ z=>by cases z)⟩
 ·unfold setC
  by_cases z:m=n
  ·rw[if_pos z];exact rtc
  ·rw[if_neg z]
   exact hA.rt m (by rcases (kss m).mp hm with w | w;exact w;exact absurd w z)
 ·by_cases z:n∈ks
  ·rw[if_pos z];exact hA.few
  ·rw[if_neg z,List.length_append,List.length_singleton]
   rcases hfew with w | w
   ·exact absurd w z
   ·omega
 ·exact (kss m).mpr (.inl (hA4.sub m hm))
 ·rcases zma.mp hb with z | z
  ·obtain⟨o,e,n⟩:=hC.hasN b z
   exact⟨o,nd5 b o e n,n⟩
  ·obtain⟨o,e,n⟩:=hA4.has b z
   exact⟨o,nd5 b o e n,n⟩
 ·rw[hm3,hm2]
  exact⟨λz=>⟨z.1.1,z.2,z.1.2⟩,λz=>⟨⟨z.1,z.2.2⟩,z.2.1⟩⟩
 ·rcases zma.mp hb with z | z
  ·right
   have e3:=hf b z
   cases eb:H b with
   | none=>rfl
   | some o=>
    exfalso
    by_cases nb:b=va
    ·obtain⟨kv3,hv3,_⟩:=hA3.vou
     rw[nb,hv3] at e3;cases e3
    ·have:=o13 b o (by simp[nb]) (s1 _ _ eb)
     rw[this] at e3;cases e3
  ·exact .inl z
inductive Q44 (K:Fg)(C:Nat->Addr)(vs:List V)(H:Hp)(Q:VK)(E:XK):Prop
 | mk (ha la va:Addr) (ks:List Int) (cr:Int->Cr) (ws:List Int) (fp:List Addr):vs=[.ref ha]->HAt (C 7) (C 0) H ha la va ks cr ws fp->(∀ (l:Addr) (ns:List Int),H l=none->ns.Perm ks->ns.Pairwise (·<=·)->Q (.ref l) (upd H l (.lst (ns.map V.int))))->Q44 K C vs H Q E
include B Z in
theorem zgw (F:Fun K "standing" "Hall.standing" zcM f fd)(M:Meth K (C 7) "standing" f):Mth CX0 P w K mg b8 (C 7) "standing" ["self"] 1 (Q44 K C):=by
 refine⟨f,fd,M,F.ok (k:=0) zgt (λvs H Q E h=>?_) (λcdv A outer s H vs Q E hr h=>?_),F.binds λ_ _ _ _ _ _ us hl=>(by obtain⟨_,rfl⟩:=len1 hl;rfl)⟩
 ·first
  | (obtain⟨_,_,_,_,_,_,_,rfl,_⟩:=h;rfl)
 obtain⟨ha,la,va,ks,cr,ws,fp,rfl,hA,q⟩:=h
 refine⟨_,(zag (zan (zaw (zgi rfl) rfl B.sorted L2.zhg (zba (zay K (pv 0) rfl) zaa)))),?_⟩
 obtain⟨dx,hh⟩:=hA.ins
 obtain⟨kvs,hla,hk⟩:=hA.laid
 have h60:=hA.few
 nofun
 refine⟨ha,(C 7),dx,_,_,rfl,hh,Z.c_Hall,Z.n_Hall_laid,zdo _ _,?_⟩
 nofun
 exact znt hla hk.1 (by omega) q
inductive Q46 (K:Fg)(C:Nat->Addr)(vs:List V)(H:Hp)(Q:VK)(E:XK):Prop
 | mk (ha la va:Addr) (ks:List Int) (cr:Int->Cr) (ws:List Int) (fp:List Addr):vs=[.ref ha]->HAt (C 7) (C 0) H ha la va ks cr ws fp->(∀ ca H' kvs (ns:List Int) (F:Int->List Addr),Same H H'->H ca=none->H' ca=some (.dK kvs)->ns.Perm ks->ns.Pairwise (·<=·)->KVs (λm v=>∃ p,v=.ref p/\zbv (C 0) H' p (cr m) (F m)) kvs ns->(∀ m∈ns,∀ b∈F m,H b=none)->(∀ m∈ns,(F m).Nodup)->(∀ m∈ns,∀ k∈ns,m≠k->∀ b∈F m,b∉F k)->Q (.ref ca) H')->Q46 K C vs H Q E
include B Z Qe in
theorem zh8 (Q45:Mth CX0 P w K mg b8 (C 7) "standing" ["self"] 1 (Q44 K C))(F:Fun K "crafts" "Hall.crafts" zdR f fd)(M:Meth K (C 7) "crafts" f):Mth CX0 P w K mg b8 (C 7) "crafts" ["self"] 5 (Q46 K C):=by
 refine⟨f,fd,M,F.ok (k:=4) zdr (λvs H Q E h=>?_) (λcdv A outer s H vs Q E hr h=>?_),F.binds λ_ _ _ _ _ _ us hl=>(by obtain⟨_,rfl⟩:=len1 hl;rfl)⟩
 ·first
  | (obtain⟨_,_,_,_,_,_,_,rfl,_⟩:=h;rfl)
 obtain⟨ha,la,va,ks,cr,ws,fp,rfl,hA,q⟩:=h
 refine⟨_,(zaf (zas (i:=1) zdr.nd zgE)
   (zaf (zej PassesOwn.never rfl (za8 K (zci Q45 Z.c_Hall hr za5 (pv 0))) (zaD (i:=2) zdr.nd) (zag (zg3 (hr_u hr) (pv 1) (pv 2) (zap Qe hr rfl (zaH (zel (hr_u hr) (zay K (pv 0) rfl) (pv 2) (λ_ _=>rfl)) zaa)) rfl)))
   (zag (zan (pv 1))))),?_⟩
 obtain⟨dx,hh⟩:=hA.ins
 have h60:=hA.few
 walk_at "q"
 nofun
 intro ca ca0
 have s1:=zah ca0 (.dK [])
 nofun
 walk_at "q"
 nofun
 refine⟨ha,dx,_,rfl,s1 _ _ hh,zcj,?_⟩
 nofun
 refine⟨ha,la,va,ks,cr,ws,fp,rfl,hA.same s1,λl ns l0 pm so=>?_⟩
 have s2:=zah l0 (.lst (ns.map V.int))
 have s12:=s1.trans s2
 have hca:=s2 _ _ (zac (H:=H) (a:=ca) (o:=.dK []))
 have nlc:l≠ca:=λz=>by rw[z,zac] at l0;cases l0
 have hl:(upd (upd H ca (.dK [])) l (.lst (ns.map V.int))) l=some (.lst (ns.map V.int)):=zac
 generalize (upd (upd H ca (.dK [])) l (.lst (ns.map V.int)))=H2 at s2 s12 hca hl
 have nnd:ns.Nodup:=pm.nodup_iff.mpr hA.nd
 have nlen:=pm.length_eq
 refine⟨l,rfl,⟨_,SqL.of hl⟩,?_⟩
 refine ziP (xs:=ns.map V.int) (λi σ H'=>E3 λx kvs F=>A8 (σ=[some (.ref ha),some (.ref ca),x]) (Same H H') (NoD H2 H') (H' ca=some (.dK kvs)) (KVs (λm v=>∃ p,v=.ref p/\zbv (C 0) H' p (cr m) (F m)) kvs (ns.take i)) ((∀ m∈ns.take i,∀ b∈F m,H b=none)) ((∀ m∈ns.take i,(F m).Nodup)) ((∀ m∈ns.take i,∀ k∈ns.take i,m≠k->∀ b∈F m,b∉F k)))
  ⟨none,[],(λ_=>[]:Int->List Addr),rfl,s12,(Same.refl _).nod,hca,by rw[List.take_zero];exact KVs.nil,λm hm=>by simp at hm,λm hm=>by simp at hm,λm hm=>by simp at hm⟩ (λi σ H' _ ⟨_,_,_,_,_,nd,_,_,_,_,_⟩=>SqL.of (nd _ _ hl (λ_ z=>by cases z))) ?_ ?_
 ·rintro i v σ H3 hv ⟨x,kvs,F,rfl,s3,nd3,hc3,hk3,f3,u3,d3⟩
  rw[zgm] at hv
  obtain⟨m,hm,rfl⟩:=zme.mp hv
  have hi:i<ns.length:=(zge.mp hm).1
  have mk:m∈ks:=pm.mem_iff.mp (zmg hm)
  have mt:m∉ns.take i:=zkR nnd hm
  have hA3:=hA.same s3
  obtain⟨dx3,hh3⟩:=hA3.ins
  obtain⟨kvl,hla,hkl⟩:=hA3.laid
  obtain⟨v,hv,p,f,rfl,hC,hf⟩:=hkl.2.2 m mk
  have rt:=hA.rt m mk
  nofun
  refine⟨ha,(C 7),dx3,_,_,rfl,hh3,Z.c_Hall,Z.n_Hall_laid,zdo _ _,?_⟩
  nofun
  refine⟨la,.ref p,rfl,by rw[<-hv];exact DGet.k (k:=.inl m) hla,?_⟩
  nofun
  refine⟨p,cr m,rfl,hC.t rt.nine.d9,rt.nine,λq fq H4 s4 hq fq0 fqn=>?_⟩
  have hc4:=s4 _ _ hc3
  have kl:=hk3.len
  rw[List.length_take] at kl
  nofun
  refine⟨ca,_,rfl,DPut.k (k:=.inl m) hc4 (zcq (by omega)),?_⟩
  have nd5:NoD H4 (upd H4 ca (.dK (putK kvs (.inl m) (.ref q)))):=zhp hc4
  have put:=hk3.put' (m:=m) (v:=.ref q) (P':=λk v=>∃ p,v=.ref p/\zbv (C 0) (upd H4 ca (.dK (putK kvs (.inl m) (.ref q)))) p (cr k) ((λj=>if j=m then fq else F j) k)) ⟨q,rfl,by simp only[if_pos];exact hq.nod nd5⟩ (λk v ne ⟨p',e1,e2⟩=>⟨p',e1,by simp only[if_neg ne];exact (e2.same s4).nod nd5⟩)
  rw[if_neg mt] at put
  have tk:ns.take (i+1)=ns.take i++[m]:=by rw[List.take_add_one,hm];rfl
  have old:∀ k∈ns.take i,∀ b∈F k,∃ o,H3 b=some o:=λk hk b hb=>by
   obtain⟨v,_,p',_,e2⟩:=hk3.2.2 k hk
   exact e2.has b hb
  refine⟨_,_,_,rfl,(s3.trans s4).put ca0,nd3.trans (s4.nod.trans nd5),zac,by rw[tk];exact put,λk hk b hb=>?_,λk hk=>?_,λk hk j hj ne b hb=>?_⟩
  ·rw[tk] at hk
   by_cases z:k=m
   ·simp only[z,if_pos] at hb
    exact s3.fr b (fq0 b hb)
   ·simp only[if_neg z] at hb
    refine f3 k ?_ b hb
    rcases zma.mp hk with w | w
    ·exact w
    ·exact absurd (zms.mp w) z
  ·rw[tk] at hk
   by_cases z:k=m
   ·simp only[z,if_pos];exact fqn
   ·simp only[if_neg z]
    refine u3 k ?_
    rcases zma.mp hk with w | w
    ·exact w
    ·exact absurd (zms.mp w) z
  ·rw[tk] at hk hj
   have inT:∀ {k},k∈ns.take i++[m]->¬ k=m->k∈ns.take i:=λ{k} hk z=>by
    rcases zma.mp hk with w | w
    ·exact w
    ·exact absurd (zms.mp w) z
   by_cases z:k=m
   ·have zj:¬ j=m:=λw=>ne (z.trans w.symm)
    simp only[if_pos z] at hb
    simp only[if_neg zj]
    intro w
    obtain⟨o,ho⟩:=old j (inT hj zj) b w
    rw[fq0 b hb] at ho;cases ho
   ·simp only[if_neg z] at hb
    by_cases zj:j=m
    ·simp only[if_pos zj]
     intro w
     obtain⟨o,ho⟩:=old k (inT hk z) b hb
     rw[fq0 b w] at ho;cases ho
    ·simp only[if_neg zj]
     exact d3 k (inT hk z) j (inT hj zj) ne b hb
 ·rintro σ H3 ⟨x,kvs,F,rfl,s3,nd3,hc3,hk3,f3,u3,d3⟩
  rw[zlm,List.take_of_length_le (Nat.le_refl _)] at hk3 f3 u3 d3
  nofun
  exact q ca H3 kvs ns F s3 ca0 hc3 pm so hk3 f3 u3 d3
def zf8 (rs:List (Int × List Int)):Prop:=∀ r∈rs,r.2.length<=1000/\CB r.1/\∀ w∈r.2,CB w
theorem zqT{r:Int × List Int}(h:Rep K H (zhU r) v):∃ T wa,v=.ref T/\SqT K H T [.int r.1,.ref wa]/\SqL K H wa (r.2.map V.int):=by
 obtain⟨a,xs,rfl,hT,hx⟩:=zes h
 unfold Reps at hx
 obtain⟨v1,r1,rfl,h1,hx⟩:=hx
 unfold Reps at hx
 obtain⟨v2,r2,rfl,h2,hx⟩:=hx
 unfold Reps at hx
 subst hx
 unfold Rep at h1
 subst h1
 obtain⟨wa,rfl,hw⟩:=zbd.mp h2
 exact⟨a,wa,rfl,hT,hw⟩
inductive Q5e (K:Fg)(vs:List V)(H:Hp)(Q:VK)(E:XK):Prop
 | mk (da ra:Addr) (gs:List Du) (xs:List V) (rs:List (Int × List Int)) (ys:List V):vs=[.ref da,.ref ra]->SqL K H da xs->R2 (zio H) gs xs->SqL K H ra ys->Reps K H (rs.map zhU) ys->(∀ g∈gs,zht g)->gs.length<=34->zf8 rs->(∀ H',Same H H'->Q (.bl (zfY gs rs)) H')->Q5e K vs H Q E
include B Z Q3e in
theorem zkh (F:Fun K "all_shown" "all_shown" zdS f fd)(m:mg "all_shown"=some (.ref f)):Fn P w K mg b8 "all_shown" ["due","rows"] 3 (Q5e K):=by
 refine Fn.of (k:=2) F zj8 m (λ_ _ _ _ _ _ us hl=>(by obtain⟨_,_,rfl⟩:=len2 hl;rfl)) (λvs H Q E h=>?_) (λcdv A outer s H vs Q E hr h=>?_)
 ·first
  | (obtain⟨_,_,_,_,_,_,rfl,_⟩:=h;rfl)
 obtain⟨da,ra,gs,xs,rs,ys,rfl,hda,hg,hra,hrp,gf,gl,rf,q⟩:=h
 refine⟨_,(zag (zan (zbF (zbe (k_eq K hr) (zaw (zdV K) rfl B.len L2.boot_len (zab (pv 0) zaa)) (zaw (zdV K) rfl B.len L2.boot_len (zab (pv 1) zaa)) (zat _)) (zb2 (zaw (ziO K rfl) rfl B.all L2.zcG (zcy (za6 rfl (COk.m (sc0:=zae zdS) (N:=["due","rows"]) (N':=["due","rows","duty","row"]) (ms:=[false,false,true,true])) (zlp K rfl B.zip (zab (pv 0) (zab (pv 1) zaa))) (λ_ _ _ _ _=>(zjG K (n:=2) rfl (zcm (zaD (i:=2) (ndS (N:=["due","rows","duty","row"]))) (zcm (zaD (i:=3) (ndS (N:=["due","rows","duty","row"]))) zgU)))) (λ_ _ _ _ _=>zaN) (λ_ _ _ _ _=>(zap Q3e hr rfl (zab (pv 2) (zab (pv 3) zaa))))) zaa)))))),?_⟩
 have lx:=hg.1
 have ly:=hrp.length
 rw[zlm] at ly
 nofun
 refine zer (.inl hda) ?_
 nofun
 refine zer (.inl hra) ?_
 nofun
 cases hb:decide (((xs.length:Nat):Int)=((ys.length:Nat):Int)) with
 | false=>
  nofun
  have:=q _ (Same.refl _)
  unfold zfY at this
  rw[decide_eq_false (by have:=of_decide_eq_false hb;omega),Bool.false_and] at this
  exact this
 | true=>
  have hl:gs.length=rs.length:=by have:=of_decide_eq_true hb;omega
  nofun
  refine⟨da,ra,rfl,⟨_,hda⟩,⟨_,hra⟩,?_⟩
  refine zaW (n:=gs.length) (zgH hda hra (by omega)) ((List.zipWith (λg r=>zew g.1 g.2 r.1 r.2) gs rs).map D.bl) (by simp[hl]) (zaq (by omega)) (λj x d H2 R hj hd s2 hx hR=>?_) (λv H2 s2 n2=>?_)
  ·obtain⟨T,u,z,rfl,hT,eu,ez⟩:=hx
   have jr:j<rs.length:=by omega
   have eg:gs[j]?=some gs[j]:=List.getElem?_eq_getElem hj
   have er:rs[j]?=some rs[j]:=List.getElem?_eq_getElem jr
   generalize gs[j]=g at eg
   generalize rs[j]=r at er
   rw[zgm,List.getElem?_zipWith,eg,er] at hd
   cases hd
   obtain⟨T2,ga,na,rfl,hT2,hga,hL⟩:=(hg.2 j g u eg eu).same s2
   obtain⟨k9,k4,k99⟩:=gf g (zmg eg)
   obtain⟨zs,hna,lzs,rzs⟩:=hL.out (K:=K)
   obtain⟨dd,hdd,hrep⟩:=hrp.get' ez
   rw[zgm,er] at hdd
   cases hdd
   obtain⟨T3,wa,rfl,hT3,hwa⟩:=zqT (Rep.same s2 _ hrep)
   obtain⟨c1,c2,c3⟩:=rf r (zmg er)
   refine⟨T,_,rfl,SqT.of hT,rfl,⟨_,_,rfl,?_⟩⟩
   refine⟨_,_,rfl,?_⟩
   refine⟨rfl,?_⟩
   nofun
   exact .inr ⟨T2,T3,ga,na,wa,g.1,g.2,zs,r.1,r.2,rfl,SqT.of hT2,hga,hna,rzs,hT3,hwa,k9,k99,by omega,c1,c2,c3,λH3 s3=>hR _ _ s3 New.bl⟩
  obtain⟨ba,rfl,ba0,hba⟩:=New.bls n2
  nofun
  refine ziN (SqL.of hba) ?_
  have:=q _ s2
  unfold zfY at this
  rw[decide_eq_true hl,Bool.true_and] at this
  exact this
inductive Q52 (K:Fg)(C:Nat->Addr)(vs:List V)(H:Hp)(Q:VK)(E:XK):Prop
 | mk (ha dx la va:Addr) (n:Int) (kvs:List (Key × V)):vs=[.ref ha,.int n]->H ha=some (.ins (C 7) dx (hfl la va))->H la=some (.dK kvs)->n.natAbs<zbm->(valV kvs (.inl n)=none->E (.ref (C 3)) none H)->((valV kvs (.inl n)).isSome=true->Q .non H)->Q52 K C vs H Q E
include B Z in
theorem zfG (F:Fun K "must_stand" "Hall.must_stand" zcg f fd)(M:Meth K (C 7) "must_stand" f):Mth (CX1 P w) P w K mg b8 (C 7) "must_stand" ["self","number"] 1 (Q52 K C):=by
 refine⟨f,fd,M,F.okx (k:=0) zfB (λvs H Q E h=>?_) (λcdv A outer s H vs Q E hr h=>?_),F.binds λ_ _ _ _ _ _ us hl=>(by obtain⟨_,_,rfl⟩:=len2 hl;rfl)⟩
 ·first
  | (obtain⟨_,_,_,_,_,_,rfl,_⟩:=h;rfl)
 obtain⟨ha,dx,la,va,n,kvs,rfl,hh,hla,hn,qE,qQ⟩:=h
 refine⟨_,(zag (za4 (zgT (zem (hr_u hr) (pv 1) (zay K (pv 0) rfl))) (zag (zeH Z.e_NoCraft rfl Z.m_NoCraft rfl zfU (za0 (zly (pv 1) (by decide +kernel)) zaa))) zaA)),?_⟩
 nofun
 refine⟨ha,(C 7),dx,_,_,rfl,hh,Z.c_Hall,Z.n_Hall_laid,zdo _ _,?_⟩
 refine⟨la,_,rfl,DGet.k (k:=.inl n) hla,?_⟩
 cases hv:valV kvs (.inl n) with
 | none=>
  nofun
  refine zeK (λ_=>?_) (λz=>by cases z)
  nofun
  refine⟨hn,λz=>?_⟩
  nofun
  exact⟨(by walk_at "sm"),qE hv⟩
 | some y=>
  nofun
  refine zeK (λz=>by cases z) (λ_=>?_)
  nofun
  exact qQ (by rw[hv];rfl)
inductive Q54 (K:Fg)(C:Nat->Addr)(vs:List V)(H:Hp)(Q:VK)(E:XK):Prop
 | mk (ha la va:Addr) (n:Int) (ks:List Int) (cr:Int->Cr) (ws:List Int) (fp:List Addr):vs=[.ref ha,.int n]->HAt (C 7) (C 0) H ha la va ks cr ws fp->n.natAbs<zbm->(n∉ks->E (.ref (C 3)) none H)->(n∈ks->(∃ m∈zaV (cr n).deeds,m∉ks)->∀ H',Same H H'->E (.ref (C 4)) none H')->(n∈ks->(∀ m∈zaV (cr n).deeds,m∈ks)->∀ v H',Same H H'->New H H' (.lst (((cr n).gs cr).map duD)) v->Q v H')->Q54 K C vs H Q E
include B Z in
theorem zf9 (Q53:Mth (CX1 P w) P w K mg b8 (C 7) "must_stand" ["self","number"] 1 (Q52 K C))(G_duties:Fnx P w K mg b8 "duties" ["craft","crafts"] 6 (Q2a K C))(F:Fun K "duties_at" "Hall.duties_at" zct f fd)(M:Meth K (C 7) "duties_at" f):Mth (CX1 P w) P w K mg b8 (C 7) "duties_at" ["self","number"] 7 (Q54 K C):=by
 refine⟨f,fd,M,F.okx (k:=6) zf0 (λvs H Q E h=>?_) (λcdv A outer s H vs Q E hr h=>?_),F.binds λ_ _ _ _ _ _ us hl=>(by obtain⟨_,_,rfl⟩:=len2 hl;rfl)⟩
 ·first
  | (obtain⟨_,_,_,_,_,_,_,_,rfl,_⟩:=h;rfl)
 obtain⟨ha,la,va,n,ks,cr,ws,fp,rfl,hA,hn,q1,q2,q3⟩:=h
 refine⟨_,(zaf (za1 (zaS Q53 Z.c_Hall hr zhd (pv 0) (zab (pv 1) zaa)))
   (zag (zan (zpx G_duties hr rfl zhd (zaH (zel (hr_u hr) (zay K (pv 0) rfl) (pv 1) (λ_ _=>rfl)) (zba (zay K (pv 0) rfl) zaa)))))),?_⟩
 obtain⟨dx,hh⟩:=hA.ins
 obtain⟨kvs,hla,hk⟩:=hA.laid
 walk_at "q"
 nofun
 refine⟨ha,dx,_,rfl,hh,zcj,?_⟩
 nofun
 refine⟨ha,dx,la,va,n,kvs,rfl,hh,hla,hn,λhv=>?_,λhv=>?_⟩
 ·refine q1 λz=>?_
  obtain⟨v,e,_⟩:=hk.2.2 n z
  rw[hv] at e;cases e
 have hm:n∈ks:=by
  refine Classical.byContradiction λz=>?_
  rw[hk.no z] at hv;cases hv
 obtain⟨v,hv,p,f,rfl,hC,hf⟩:=hk.2.2 n hm
 have rt:=hA.rt n hm
 nofun
 refine⟨ha,(C 7),dx,_,_,rfl,hh,Z.c_Hall,Z.n_Hall_laid,zdo _ _,?_⟩
 nofun
 refine⟨la,.ref p,rfl,by rw[<-hv];exact DGet.k (k:=.inl n) hla,?_⟩
 nofun
 refine⟨ha,(C 7),dx,_,_,rfl,hh,Z.c_Hall,Z.n_Hall_laid,zdo _ _,?_⟩
 nofun
 refine⟨p,la,(cr n).needs,(cr n).leaves,(cr n).deeds,(cr n).notes,kvs,znI cr,rfl,hC.t rt.nine.d9,rt.good,rt.dok,hla,rt.calledMost,?_⟩
 by_cases hu:∃ m∈zaV (cr n).deeds,m∉ks
 ·obtain⟨m,mm,mk⟩:=hu
  exact .inl ⟨⟨m,mm,hk.no mk⟩,q2 hm ⟨m,mm,mk⟩⟩
 ·have hall:∀ m∈zaV (cr n).deeds,m∈ks:=λm mm=>Classical.byContradiction λz=>hu ⟨m,mm,z⟩
  refine .inr ⟨λm mm=>?_,λd hd=>?_,?_,λv H' s' n'=>q3 hm hall v H' s' ?_⟩
  ·obtain⟨v,e,_⟩:=hk.2.2 m (hall m mm)
   rw[e];rfl
  ·cases d with
   | call m g0 g1 t0 t1=>
    have mk:=hall m (zoR hd)
    obtain⟨v,e,o,fo,rfl,hO,_⟩:=hk.2.2 m mk
    have g:=(hA.rt m mk).good
    exact⟨o,_,_,e,hO.at,by rw[zlm];exact g⟩
   | _=>trivial
  ·rw[<-ziq,zlm]
   have:=(rt.gs (cr:=cr) λm mm=>hA.rt m (hall m mm)).1
   unfold Cr.gs at this
   omega
  ·unfold Cr.gs
   rw[ziq]
   exact n'
inductive Q48 (K:Fg)(C:Nat->Addr)(vs:List V)(H:Hp)(Q:VK)(E:XK):Prop
 | mk (ha la va ra:Addr) (n:Int) (ks:List Int) (cr:Int->Cr) (ws:List Int) (fp:List Addr) (rs:List (Int × List Int)) (ys:List V):vs=[.ref ha,.int n,.ref ra]->HAt (C 7) (C 0) H ha la va ks cr ws fp->n.natAbs<zbm->SqL K H ra ys->Reps K H (rs.map zhU) ys->zf8 rs->(n∉ks->E (.ref (C 3)) none H)->(n∈ks->(∃ m∈zaV (cr n).deeds,m∉ks)->∀ H',Same H H'->E (.ref (C 4)) none H')->(n∈ks->(∀ m∈zaV (cr n).deeds,m∈ks)->zfY ((cr n).gs cr) rs=false->∀ H',Same H H'->E (.ref (C 5)) none H')->(n∈ks->(∀ m∈zaV (cr n).deeds,m∈ks)->zfY ((cr n).gs cr) rs=true->∀ H' ws',OffA [va] H H'->HAt (C 7) (C 0) H' ha la va ks cr ws' fp->(∀ m,m∈ws'↔m∈ws\/m=n)->Q .non H')->Q48 K C vs H Q E
variable (Q55:Mth (CX1 P w) P w K mg b8 (C 7) "duties_at" ["self","number"] 7 (Q54 K C))
include B Z Q55 in
theorem zjg (Q5f:Fn P w K mg b8 "all_shown" ["due","rows"] 3 (Q5e K))(F:Fun K "vouch" "Hall.vouch" zee f fd)(M:Meth K (C 7) "vouch" f):Mth (CX1 P w) P w K mg b8 (C 7) "vouch" ["self","number","rows"] 8 (Q48 K C):=by
 refine⟨f,fd,M,F.okx (k:=7) zi4 (λvs H Q E h=>?_) (λcdv A outer s H vs Q E hr h=>?_),F.binds λ_ _ _ _ _ _ us hl=>(by obtain⟨_,_,_,rfl⟩:=len3 hl;rfl)⟩
 ·first
  | (obtain⟨_,_,_,_,_,_,_,_,_,_,_,rfl,_⟩:=h;rfl)
 obtain⟨ha,la,va,ra,n,ks,cr,ws,fp,rs,ys,rfl,hA,hn,hra,hrp,rf,q1,q2,q3,q4⟩:=h
 refine⟨_,(zaf (za4 (zgf (zcp (zap Q5f hr rfl (zaE (zaS Q55 Z.c_Hall hr zhd (pv 0) (zab (pv 1) zaa)) (zab (pv 2) zaa))))) (zag (zeH Z.e_NotShown rfl Z.m_NotShown rfl zfU (za0 (zly (pv 1) (by decide +kernel)) zaa))) zaA)
   (zag (zg3 (hr_u hr) (zay K (pv 0) rfl) (pv 1) zcx rfl))),?_⟩
 obtain⟨dx,hh⟩:=hA.ins
 walk_at "q"
 nofun
 refine⟨ha,dx,_,rfl,hh,zcj,?_⟩
 nofun
 refine⟨ha,la,va,n,ks,cr,ws,fp,rfl,hA,hn,q1,q2,λhm hall v H1 s1 n1=>?_⟩
 have q3:=q3 hm hall
 have q4:=q4 hm hall
 obtain⟨gl,gf⟩:=(hA.rt n hm).gs (cr:=cr) λm mm=>hA.rt m (hall m mm)
 generalize (cr n).gs cr=gs at *
 obtain⟨da,xs,dfp,rfl,da0,hda,hfr,_⟩:=New.lso n1
 have rX:=zaj.duties hfr
 nofun
 refine⟨da,ra,gs,xs,rs,ys,rfl,SqL.of hda,rX,s1.seq hra,Reps.same s1 _ hrp,gf,gl,rf,λH2 s2=>?_⟩
 have s02:=s1.trans s2
 cases hb:zfY gs rs with
 | false=>
  nofun
  refine⟨hn,λz=>?_⟩
  nofun
  exact⟨(by walk_at "sm"),q3 hb _ s02⟩
 | true=>
  have hA3:=hA.same s02
  obtain⟨dx3,hh3⟩:=hA3.ins
  obtain⟨kv,hva,hkv⟩:=hA3.vou
  nofun
  refine⟨ha,(C 7),dx3,_,_,rfl,hh3,Z.c_Hall,Z.n_Hall_vouched,zdC _ _,?_⟩
  nofun
  have kl:=hkv.len
  have vl:=hA3.vfew
  refine⟨va,_,rfl,DPut.k (k:=.inl n) hva (zcq (by omega)),?_⟩
  have put:=hkv.put (m:=n) (v:=.bl true) rfl
  have wss:∀ m,m∈(if n∈ws then ws else ws++[n])↔m∈ws\/m=n:=λm=>by
   by_cases z:n∈ws
   ·rw[if_pos z]
    exact⟨.inl,λw=>by rcases w with w | w;exact w;rw[w];exact z⟩
   ·rw[if_neg z];simp
  refine q4 hb _ _ (s02.offA.trans (zbI (by simp))) (hA3.putV put λm hm'=>?_) wss
  rcases (wss m).mp hm' with w | w
  ·exact hA.sub m w
  ·rw[w];exact hm
inductive Q4a (K:Fg)(C:Nat->Addr)(vs:List V)(H:Hp)(Q:VK)(E:XK):Prop
 | mk (ha la va:Addr) (n:Int) (ks:List Int) (cr:Int->Cr) (ws:List Int) (fp:List Addr):vs=[.ref ha,.int n]->HAt (C 7) (C 0) H ha la va ks cr ws fp->n.natAbs<zbm->(n∉ks->E (.ref (C 3)) none H)->(n∈ks->(∃ m∈zaV (cr n).deeds,m∉ks)->∀ H',Same H H'->E (.ref (C 4)) none H')->(n∈ks->(∀ m∈zaV (cr n).deeds,m∈ks)->∀ v H' ws',OffA [va] H H'->HAt (C 7) (C 0) H' ha la va ks cr ws' fp->(∀ m,m∈ws'↔m∈ws\/(m=n/\zgL ((cr n).gs cr)))->New H H' (.lst (((cr n).gs cr).map λg=>rowD (zbx g.1 g.2))) v->Q v H')->Q4a K C vs H Q E
include B Z Q55 in
theorem zki (G_sought:Fn P w K mg b8 "sought" ["duty"] 3 (Q3f K))(F:Fun K "seek" "Hall.seek" zcN f fd)(M:Meth K (C 7) "seek" f):Mth (CX1 P w) P w K mg b8 (C 7) "seek" ["self","number"] 8 (Q4a K C):=by
 refine⟨f,fd,M,F.okx (k:=7) zgk (λvs H Q E h=>?_) (λcdv A outer s H vs Q E hr h=>?_),F.binds λ_ _ _ _ _ _ us hl=>(by obtain⟨_,_,rfl⟩:=len2 hl;rfl)⟩
 ·first
  | (obtain⟨_,_,_,_,_,_,_,_,rfl,_⟩:=h;rfl)
 obtain⟨ha,la,va,n,ks,cr,ws,fp,rfl,hA,hn,q1,q2,q3⟩:=h
 refine⟨_,(zaf (zik (i:=2) zgk.nd rfl rfl rfl (COk.m (sc0:=zae zcN) (N:=["self","number","rows"]) (N':=["self","number","rows","duty"]) (ms:=[false,false,false,true])) (za8 K (zaS Q55 Z.c_Hall hr zhd (pv 0) (zab (pv 1) zaa))) (λ_ _ _ _ _=>(zaD (i:=3) (ndS (N:=["self","number","rows","duty"])))) (λ_ _ _ _ _=>zaN) (λ_ _ _ _ _=>(zap G_sought hr rfl (zab (pv 3) zaa))))
   (zaf (za4 (zcp (zaw (ziO K rfl) rfl B.all L2.zcG (zcy (za6 rfl (COk.m (sc0:=zae zcN) (N:=["self","number","rows"]) (N':=["self","number","rows","row"]) (ms:=[false,false,false,true])) (za8 K (pv 2)) (λ_ _ _ _ _=>(zaD (i:=3) (ndS (N:=["self","number","rows","row"])))) (λ_ _ _ _ _=>zaN) (λ_ _ _ _ _=>(zbe zky (pv 3) zcQ (zat _)))) zaa))) (zag (zg3 (hr_u hr) (zay K (pv 0) rfl) (pv 1) zcx rfl)) zaA)
   (zag (zan (pv 2))))),?_⟩
 obtain⟨dx,hh⟩:=hA.ins
 walk_at "q"
 nofun
 refine⟨ha,dx,_,rfl,hh,zcj,?_⟩
 nofun
 refine⟨ha,la,va,n,ks,cr,ws,fp,rfl,hA,hn,q1,q2,λhm hall v H1 s1 n1=>?_⟩
 have rt:=hA.rt n hm
 obtain⟨gl,gf⟩:=rt.gs (cr:=cr) λm mm=>hA.rt m (hall m mm)
 have q3:=q3 hm hall
 generalize (cr n).gs cr=gs at *
 obtain⟨da,xs,dfp,rfl,da0,hda,hfr,_⟩:=New.lso n1
 have rX:=zaj.duties hfr
 have lx:=rX.1
 refine⟨da,rfl,⟨_,SqL.of hda⟩,?_⟩
 refine zaW (zaZ (SqL.of hda)) (gs.map λg=>rowD (zbx g.1 g.2)) (by rw[zlm];exact lx) (zaq (by omega)) (λj x d H2 R hj hd s2 hx hR=>?_) (λv H2 s2 n2=>?_)
 ·rw[zgm] at hd
  obtain⟨g,hg,rfl⟩:=zme.mp hd
  obtain⟨T,ga,na,rfl,hT,hga,hL⟩:=(rX.2 j g x hg hx).same s2
  obtain⟨k9,k4,k99⟩:=gf g (zmg hg)
  obtain⟨ys,hna,lys,rys⟩:=hL.out (K:=K)
  nofun
  exact⟨T,ga,na,g.1,g.2,ys,rfl,SqT.of hT,hga,hna,rys,k9,k99,by omega,λv H3 s3 n3=>hR v H3 s3 n3⟩
 have s02:=s1.trans s2
 have n02:=n2.back s1
 obtain⟨ra,rvs,rfp,rfl,ra0,hra,hrr,_⟩:=New.lso n02
 have lr:=hrr.length
 rw[zlm] at lr
 nofun
 have hnon:∀ (j:Nat) g x,gs[j]?=some g->rvs[j]?=some x->decide (x=V.non)=!(zbx g.1 g.2).isSome:=λj g x e1 e2=>by
  obtain⟨f,hf⟩:=zaj.item hrr j (rowD (zbx g.1 g.2)) x (by rw[zgm,e1];rfl) e2
  cases hs:zbx g.1 g.2 with
  | none=>rw[hs] at hf;unfold rowD RepF at hf;rw[hf.1];rfl
  | some r=>
   obtain⟨w,r⟩:=r
   rw[hs] at hf
   unfold rowD RepF at hf
   obtain⟨a,_,e,_⟩:=hf
   rw[e,zkK];rfl
 -- are all of them found
 with_reducible refine zgh (λσ H'=>σ=[some (.ref ha),some (.int n),some (.ref ra)]/\∃ ws',OffA [va] H2 H'/\HAt (C 7) (C 0) H' ha la va ks cr ws' fp/\(∀ m,m∈ws'↔m∈ws\/(m=n/\zgL gs))/\New H H' (.lst (gs.map λg=>rowD (zbx g.1 g.2))) (.ref ra)) (λNX tail=>?_) ?_
 ·nofun
  refine⟨ra,rfl,⟨_,SqL.of hra⟩,?_⟩
  refine zaW (zaZ (SqL.of hra)) ((gs.map λg=>(zbx g.1 g.2).isSome).map D.bl) (by simp[lr]) (zaq (by omega)) (λj x d H3 R hj hd s3 hx hR=>?_) (λv H3 s3 n3=>?_)
  ·rw[zgm,zgm] at hd
   obtain⟨b,hb,rfl⟩:=zme.mp hd
   obtain⟨g,hg,rfl⟩:=zme.mp hb
   nofun
   refine⟨rfl,?_⟩
   rw[hnon j g x hg hx,Bool.not_not]
   exact hR _ _ (Same.refl _) New.bl
  obtain⟨ba,rfl,ba0,hba⟩:=New.bls n3
  nofun
  refine ziN (SqL.of hba) ?_
  have s03:=s02.trans s3
  cases hb:(gs.map λg=>(zbx g.1 g.2).isSome).all id with
  | true=>
   have af:zgL gs:=λg hg=>by
    rw[List.all_map,List.all_eq_true] at hb
    exact hb g hg
   have hA3:=hA.same s03
   obtain⟨dx3,hh3⟩:=hA3.ins
   obtain⟨kv,hva,hkv⟩:=hA3.vou
   nofun
   refine⟨ha,(C 7),dx3,_,_,rfl,hh3,Z.c_Hall,Z.n_Hall_vouched,zdC _ _,?_⟩
   nofun
   have kl:=hkv.len
   have vl:=hA3.vfew
   refine⟨va,_,rfl,DPut.k (k:=.inl n) hva (zcq (by omega)),?_⟩
   have put:=hkv.put (m:=n) (v:=.bl true) rfl
   have wss:∀ m,m∈(if n∈ws then ws else ws++[n])↔m∈ws\/m=n:=λm=>by
    by_cases z:n∈ws
    ·rw[if_pos z]
     exact⟨.inl,λw=>by rcases w with w | w;exact w;rw[w];exact z⟩
    ·rw[if_neg z];simp
   refine tail _ _ ⟨rfl,_,s3.offA.trans (zbI (by simp)),hA3.putV put λm hm'=>?_,λm=>?_,(n02.same s3).sq (zhp hva).sq⟩
   ·rcases (wss m).mp hm' with w | w
    ·exact hA.sub m w
    ·rw[w];exact hm
   ·rw[wss]
    exact⟨λz=>by rcases z with z | z;exact .inl z;exact .inr ⟨z,af⟩,λz=>by rcases z with z | z;exact .inl z;exact .inr z.1⟩
  | false=>
   have af:¬ zgL gs:=λz=>by
    have:(gs.map λg=>(zbx g.1 g.2).isSome).all id=true:=by
     rw[List.all_map,List.all_eq_true];exact z
    rw[this] at hb;cases hb
   nofun
   exact tail _ _ ⟨rfl,ws,s3.offA,hA.same s03,λm=>⟨.inl,λz=>by rcases z with z | z;exact z;exact absurd z.2 af⟩,n02.same s3⟩
 rintro σ H3 ⟨rfl,ws3,o3,hA3,hm3,n3⟩
 nofun
 exact q3 _ _ ws3 (s02.offA.trans o3) hA3 hm3 n3
inductive Q4c (K:Fg)(C:Nat->Addr)(vs:List V)(H:Hp)(Q:VK)(E:XK):Prop
 | mk (ha la va:Addr) (n:Int) (ks:List Int) (cr:Int->Cr) (ws:List Int) (fp:List Addr):vs=[.ref ha,.int n]->HAt (C 7) (C 0) H ha la va ks cr ws fp->Q (.bl (decide (n∈ws))) H->Q4c K C vs H Q E
include B Z in
theorem zkj (F:Fun K "held" "Hall.held" zeU f fd)(M:Meth K (C 7) "held" f):Mth CX0 P w K mg b8 (C 7) "held" ["self","number"] 1 (Q4c K C):=by
 refine⟨f,fd,M,F.ok (k:=0) zj6 (λvs H Q E h=>?_) (λcdv A outer s H vs Q E hr h=>?_),F.binds λ_ _ _ _ _ _ us hl=>(by obtain⟨_,_,rfl⟩:=len2 hl;rfl)⟩
 ·first
  | (obtain⟨_,_,_,_,_,_,_,_,rfl,_⟩:=h;rfl)
 obtain⟨ha,la,va,n,ks,cr,ws,fp,rfl,hA,q⟩:=h
 refine⟨_,(zag (zan (zq2 (zm5 (hr_u hr) (pv 1) (zay K (pv 0) rfl))))),?_⟩
 obtain⟨dx,hh⟩:=hA.ins
 obtain⟨kvs,hva,hk⟩:=hA.vou
 nofun
 refine⟨ha,(C 7),dx,_,_,rfl,hh,Z.c_Hall,Z.n_Hall_vouched,zdC _ _,?_⟩
 refine⟨va,_,rfl,DGet.k (k:=.inl n) hva,?_⟩
 by_cases hm:n∈ws
 ·obtain⟨v,hv,_⟩:=hk.2.2 n hm
  rw[hv]
  rw[decide_eq_true hm] at q
  exact q
 ·rw[hk.no hm]
  rw[decide_eq_false hm] at q
  exact q
inductive ReachI (ks:List Int)(cr:Int->Cr)(n:Int):Int->Prop
 | me:ReachI ks cr n n
 | go {m k:Int} : ReachI ks cr n m->k∈zbw ks cr m->ReachI ks cr n k
inductive Q4e (K:Fg)(C:Nat->Addr)(vs:List V)(H:Hp)(Q:VK)(E:XK):Prop
 | mk (ha la va:Addr) (n:Int) (ks:List Int) (cr:Int->Cr) (ws:List Int) (fp:List Addr) (us:List Int):vs=[.ref ha,.int n]->HAt (C 7) (C 0) H ha la va ks cr ws fp->n∈us->(∀ m,∀ k∈zbw ks cr m,k∈us)->us.length<64->(∀ l H' (rs:List Int),Same H H'->H l=none->H' l=some (.lst (rs.map V.int))->(∀ m,m∈rs↔ReachI ks cr n m)->rs.Pairwise (·<=·)->rs.Nodup->Q (.ref l) H')->Q4e K C vs H Q E
theorem zsq(h:∀ m∈ks,(cr m).Rt)(m:Int):(zbw ks cr m).length<=8:=by
 unfold zbw
 split
 ·rename_i z
  have:=(h m z).parts.2.2.1.2
  have:(zaV (cr m).deeds).length<=(cr m).deeds.length:=List.length_filterMap_le _ _
  omega
 ·simp
include B Z Q57 in
theorem zjh (F:Fun K "reach" "Hall.reach" zef f fd)(M:Meth K (C 7) "reach" f):Mth CX0 P w K mg b8 (C 7) "reach" ["self","number"] 3 (Q4e K C):=by
 refine⟨f,fd,M,F.ok (k:=2) zcJ (λvs H Q E h=>?_) (λcdv A outer s H vs Q E hr h=>?_),F.binds λ_ _ _ _ _ _ us hl=>(by obtain⟨_,_,rfl⟩:=len2 hl;rfl)⟩
 ·first
  | (obtain⟨_,_,_,_,_,_,_,_,_,rfl,_⟩:=h;rfl)
 obtain⟨ha,la,va,n,ks,cr,ws,fp,us,rfl,hA,nu,hu,lu,q⟩:=h
 refine⟨_,(zaf (zas (i:=2) zcJ.nd zgE)
   (zaf (zas (i:=3) zcJ.nd (zaR (zab (pv 1) zaa)))
   (zaf (ziD PassesOwn.never (zqv K (pv 3)) (zaf (zas (i:=4) zcJ.nd (zpi PySem.F.plainAttrs_list PySem.F.slot_list_pop PySem.F.type_list_pop zpj (pv 3)))
   (zag (za4 (zgT (zem (hr_u hr) (pv 4) (pv 2))) (zaf (zg3 (hr_u hr) (pv 2) (pv 4) zcx rfl)
   (zag (za1 (zl0 PySem.F.plainAttrs_list PySem.F.slot_list_extend PySem.F.type_list_extend zjy (pv 3) (zaE (zaS Q57 Z.c_Hall hr za5 (pv 0) (zab (pv 4) zaa)) zaa))))) zaA))))
   (zag (zan (zaw (zgi rfl) rfl B.sorted L2.zhg (zab (pv 2) zaa))))))),?_⟩
 nofun
 walk_at "q"
 nofun
 intro ra ra0
 have s1:=zah ra0 (.dK [])
 have hra1:(upd H ra (.dK [])) ra=some (.dK []):=zac
 generalize upd H ra (.dK [])=H1 at *
 nofun
 walk_at "q"
 nofun
 refine⟨(by walk_at "sm"),λwa wa1=>?_⟩
 have s2:=s1.trans (zah wa1 (.lst [V.int n]))
 have hra2:=zah wa1 (.lst [V.int n]) _ _ hra1
 have wa0:=s1.free wa1
 have hwa2:(upd H1 wa (.lst [V.int n])) wa=some (.lst ([n].map V.int)):=zac
 generalize upd H1 wa (.lst [V.int n])=H2 at *
 nofun
 with_reducible refine zgh (λσ H'=>E3 λx4 kvs rs=>A6 (σ=[some (.ref ha),some (.int n),some (.ref ra),some (.ref wa),x4]) (Same H H') (H' ra=some (.dK kvs)) (KVs (λ_ v=>v=.bl true) kvs rs) ((∀ m,m∈rs↔ReachI ks cr n m)) (rs.length<64)) (λNX tail=>?_) ?_
 ·refine⟨(λm σ H'=>E4 λx4 kvs wt rs=>A10 (σ=[some (.ref ha),some (.int n),some (.ref ra),some (.ref wa),x4]) (m=9 * (us.length - rs.length)+wt.length) (Same H H') (H' ra=some (.dK kvs)) (H' wa=some (.lst (wt.map V.int))) (KVs (λ_ v=>v=.bl true) kvs rs) ((∀ m,m∈rs\/m∈wt->ReachI ks cr n m/\m∈us)) ((∀ m∈rs,∀ k∈zbw ks cr m,k∈rs\/k∈wt)) ((n∈rs\/n∈wt)) (9 * (us.length - rs.length)+wt.length<=600)),⟨_,none,[],[n],[],rfl,rfl,s2,hra2,hwa2,KVs.nil,(λm hm=>by
   rcases hm with z | z
   ·cases z
   ·rw[zms.mp z];exact⟨.me,nu⟩),(λm hm=>by cases hm),.inr (zms.mpr rfl),by simp;omega⟩,?_⟩
  rintro m σ H3 ⟨x4,kvs,wt,rs,rfl,rfl,s3,hra3,hwa3,hk3,ru3,cl3,n3,l3⟩
  have rlen:rs.length<=us.length:=zhs hk3.2.1 λm hm=>(ru3 m (.inl hm)).2
  nofun
  refine znu (SqL.of hwa3) ?_
  rcases List.eq_nil_or_concat wt with rfl | ⟨wt,o,rfl⟩
  ·nofun
   refine tail _ _ ⟨x4,kvs,rs,rfl,s3,hra3,hk3,λm=>⟨λz=>(ru3 m (.inl z)).1,λz=>?_⟩,by omega⟩
   induction z with
   | me=>exact n3.resolve_right (by simp)
   | go _ hk ih=>exact (cl3 _ ih _ hk).resolve_right (by simp)
  ·have e:(wt.concat o).map V.int=wt.map V.int++[V.int o]:=by rw[List.concat_eq_append,List.map_append];rfl
   rw[e] at hwa3
   rw[e]
   rw[List.length_concat] at l3 ⊢
   have mo:∀ {x:Int},x∈wt.concat o↔x∈wt\/x=o:=λ{x}=>by rw[List.concat_eq_append,zma,zms]
   obtain⟨ro,uo⟩:=ru3 o (.inr (mo.mpr (.inr rfl)))
   have nwr:ra≠wa:=zn4 hra3 hwa3 (by intro z;cases z)
   rw[show (!(wt.map V.int++[V.int o]).isEmpty)=true by cases wt <;> rfl]
   nofun
   refine⟨(λσ H'=>E4 λx4 kvs wt' rs'=>A9 (σ=[some (.ref ha),some (.int n),some (.ref ra),some (.ref wa),x4]) (9 * (us.length - rs'.length)+wt'.length<9 * (us.length - rs.length)+(wt.length+1)) (Same H H') (H' ra=some (.dK kvs)) (H' wa=some (.lst (wt'.map V.int))) (KVs (λ_ v=>v=.bl true) kvs rs') ((∀ m,m∈rs'\/m∈wt'->ReachI ks cr n m/\m∈us)) ((∀ m∈rs',∀ k∈zbw ks cr m,k∈rs'\/k∈wt')) ((n∈rs'\/n∈wt'))),λσ' H' ⟨y4,kvs',wt',rs',z1,z2,z3,z4,z5,z6,z7,z8,z9⟩=>⟨_,z2,y4,kvs',wt',rs',z1,rfl,z3,z4,z5,z6,z7,z8,z9,by omega⟩,?_⟩
   nofun
   walk_at "q"
   nofun
   refine⟨tyL hwa3,?_⟩
   nofun
   refine zsb hwa3 (y:=.int o) (by rw[List.length_append];simp) ?_
   rw[List.dropLast_concat]
   have s4:Same H (upd H3 wa (.lst (wt.map V.int))):=s3.put wa0
   have hwa4:(upd H3 wa (.lst (wt.map V.int))) wa=some (.lst (wt.map V.int)):=zac
   have hra4:(upd H3 wa (.lst (wt.map V.int))) ra=some (.dK kvs):=by rw[zai nwr];exact hra3
   generalize upd H3 wa (.lst (wt.map V.int))=H4 at *
   nofun
   by_cases ho:o∈rs
   ·obtain⟨v,e1,_⟩:=hk3.2.2 o ho
    refine⟨ra,some v,rfl,by rw[<-e1];exact DGet.k (k:=.inl o) hra4,?_⟩
    dsimp only[Option.isSome]
    nofun
    refine⟨_,kvs,wt,rs,rfl,by omega,s4,hra4,hwa4,hk3,λm hm=>ru3 m (hm.imp_right λz=>mo.mpr (.inl z)),λm hm k hk=>?_,?_⟩
    ·rcases cl3 m hm k hk with z | z
     ·exact .inl z
     ·rcases mo.mp z with w | w
      ·exact .inr w
      ·rw[w];exact .inl ho
    ·rcases n3 with z | z
     ·exact .inl z
     ·rcases mo.mp z with w | w
      ·exact .inr w
      ·rw[w];exact .inl ho
   ·refine⟨ra,none,rfl,by rw[<-hk3.no ho];exact DGet.k (k:=.inl o) hra4,?_⟩
    dsimp only[Option.isSome]
    have kl:=hk3.len
    nofun
    walk_at "q"
    nofun
    refine⟨ra,_,rfl,DPut.k (k:=.inl o) hra4 (zcq (by omega)),?_⟩
    have put:=hk3.put (m:=o) (v:=.bl true) rfl
    rw[if_neg ho] at put
    have s5:Same H (upd H4 ra (.dK (putK kvs (.inl o) (.bl true)))):=s4.put ra0
    have hra5:(upd H4 ra (.dK (putK kvs (.inl o) (.bl true)))) ra=some (.dK (putK kvs (.inl o) (.bl true))):=zac
    have hwa5:(upd H4 ra (.dK (putK kvs (.inl o) (.bl true)))) wa=some (.lst (wt.map V.int)):=by rw[zai nwr.symm];exact hwa4
    generalize upd H4 ra (.dK (putK kvs (.inl o) (.bl true)))=H5 at *
    have hA5:=hA.same s5
    obtain⟨dx,hh⟩:=hA5.ins
    nofun
    refine⟨tyL hwa5,?_⟩
    nofun
    refine⟨ha,dx,_,rfl,hh,zcj,?_⟩
    nofun
    refine⟨ha,la,va,o,ks,cr,ws,fp,rfl,hA5,λv H6 s6 n6=>?_⟩
    obtain⟨ca,rfl,ca0,hca⟩:=New.iif.mp n6
    have c8:=zsq hA.rt o
    nofun
    refine⟨wa,ca,_,_,rfl,rfl,s6 _ _ hwa5,hca,Nat.le_trans (m:=1000) (by rw[zlm,zlm];omega) (by decide),?_⟩
    have s7:Same H (upd H6 wa (.lst (wt.map V.int++(zbw ks cr o).map V.int))):=(s5.trans s6).put wa0
    have rl2:rs.length<us.length:=by
     have:=zhs (l:=rs++[o]) (m:=us) put.2.1 λm hm=>by
      rcases zma.mp hm with z | z
      ·exact (ru3 m (.inl z)).2
      ·rw[zms.mp z];exact uo
     rw[List.length_append] at this
     exact this
    nofun
    refine⟨_,_,wt++zbw ks cr o,rs++[o],rfl,by rw[List.length_append,List.length_append];show 9 * (us.length - (rs.length+1))+_<_;omega,s7,by rw[zai nwr];exact s6 _ _ hra5,by rw[zac,List.map_append],put,λm hm=>?_,λm hm k hk=>?_,?_⟩
    ·rcases hm with z | z
     ·rcases zma.mp z with w | w
      ·exact ru3 m (.inl w)
      ·rw[zms.mp w];exact⟨ro,uo⟩
     ·rcases zma.mp z with w | w
      ·exact ru3 m (.inr (mo.mpr (.inl w)))
      ·exact⟨.go ro w,hu o m w⟩
    ·rcases zma.mp hm with z | z
     ·rcases cl3 m z k hk with w | w
      ·exact .inl (List.mem_append_left _ w)
      ·rcases mo.mp w with y | y
       ·exact .inr (List.mem_append_left _ y)
       ·rw[y];exact .inl (List.mem_append_right _ (zms.mpr rfl))
     ·rw[zms.mp z] at hk
      exact .inr (List.mem_append_right _ hk)
    ·rcases n3 with z | z
     ·exact .inl (List.mem_append_left _ z)
     ·rcases mo.mp z with w | w
      ·exact .inr (List.mem_append_left _ w)
      ·rw[w];exact .inl (List.mem_append_right _ (zms.mpr rfl))
 rintro σ H3 ⟨x4,kvs,rs,rfl,s3,hra3,hk3,hrs,l64⟩
 nofun
 refine znt hra3 hk3.1 l64 λl rs' l0 pm so=>?_
 exact q l _ rs' (s3.trans (zah l0 _)) (s3.free l0) zac (λm=>by rw[pm.mem_iff];exact hrs m) so (pm.nodup_iff.mpr hk3.2.1)
inductive Q50 (K:Fg)(C:Nat->Addr)(vs:List V)(H:Hp)(Q:VK)(E:XK):Prop
 | mk (ha la va:Addr) (n:Int) (ks:List Int) (cr:Int->Cr) (ws:List Int) (fp:List Addr) (us:List Int):vs=[.ref ha,.int n]->HAt (C 7) (C 0) H ha la va ks cr ws fp->n∈us->(∀ m,∀ k∈zbw ks cr m,k∈us)->us.length<64->(∀ H' b,Same H H'->(b=true↔∀ m,ReachI ks cr n m->m∈ws)->Q (.bl b) H')->Q50 K C vs H Q E
variable (Q4d:Mth CX0 P w K mg b8 (C 7) "held" ["self","number"] 1 (Q4c K C))
include B Z Q4d in
theorem zji (Q4f:Mth CX0 P w K mg b8 (C 7) "reach" ["self","number"] 3 (Q4e K C))(F:Fun K "sworn" "Hall.sworn" zc5 f fd)(M:Meth K (C 7) "sworn" f):Mth CX0 P w K mg b8 (C 7) "sworn" ["self","number"] 4 (Q50 K C):=by
 refine⟨f,fd,M,F.ok (k:=3) zi5 (λvs H Q E h=>?_) (λcdv A outer s H vs Q E hr h=>?_),F.binds λ_ _ _ _ _ _ us hl=>(by obtain⟨_,_,rfl⟩:=len2 hl;rfl)⟩
 ·first
  | (obtain⟨_,_,_,_,_,_,_,_,_,rfl,_⟩:=h;rfl)
 obtain⟨ha,la,va,n,ks,cr,ws,fp,us,rfl,hA,nu,hu,lu,q⟩:=h
 refine⟨_,(zag (zan (zaw (ziO K rfl) rfl B.all L2.zcG (zcy (za6 rfl (COk.m (sc0:=zae zc5) (N:=["self","number"]) (N':=["self","number","other"]) (ms:=[false,false,true])) (za8 K (zaS Q4f Z.c_Hall hr za5 (pv 0) (zab (pv 1) zaa))) (λ_ _ _ _ _=>(zaD (i:=2) (ndS (N:=["self","number","other"])))) (λ_ _ _ _ _=>zaN) (λ_ _ _ _ _=>(zaS Q4d Z.c_Hall hr za5 (pv 0) (zab (pv 2) zaa)))) zaa)))),?_⟩
 obtain⟨dx,hh⟩:=hA.ins
 nofun
 refine⟨ha,dx,_,rfl,hh,zcj,?_⟩
 nofun
 refine⟨ha,la,va,n,ks,cr,ws,fp,us,rfl,hA,nu,hu,lu,λl H1 rs s1 l0 hl hrs so nd=>?_⟩
 have rl:rs.length<=us.length:=zhs nd λm hm=>by
  cases (hrs m).mp hm with
  | me=>exact nu
  | go _ hk=>exact hu _ _ hk
 have hA1:=hA.same s1
 refine⟨l,rfl,⟨_,SqL.of hl⟩,?_⟩
 refine zaW (zaZ (SqL.of hl)) ((rs.map λm=>decide (m∈ws)).map D.bl) (by simp) (zaq (by simp;omega)) (λj x d H2 R hj hd s2 hx hR=>?_) (λv H2 s2 n2=>?_)
 ·rw[zgm] at hx
  obtain⟨m,hm,rfl⟩:=zme.mp hx
  rw[zgm,zgm,hm] at hd
  cases hd
  have hA2:=hA1.same s2
  obtain⟨dx2,hh2⟩:=hA2.ins
  nofun
  refine⟨ha,dx2,_,rfl,hh2,zcj,?_⟩
  nofun
  refine⟨ha,la,va,m,ks,cr,ws,fp,rfl,hA2,?_⟩
  exact hR _ _ (Same.refl _) New.bl
 obtain⟨ba,rfl,ba0,ba1⟩:=New.bls n2
 nofun
 refine ziN (SqL.of ba1) ?_
 refine q _ _ (s1.trans s2) ?_
 rw[List.all_eq_true]
 constructor
 ·intro z m hm
  have:=z (decide (m∈ws)) (zmm.mpr ⟨m,(hrs m).mpr hm,rfl⟩)
  exact of_decide_eq_true this
 ·intro z b hb
  obtain⟨m,hm,rfl⟩:=zmm.mp hb
  exact decide_eq_true (z m ((hrs m).mp hm))
inductive Q60 (K:Fg)(C:Nat->Addr)(vs:List V)(H:Hp)(Q:VK)(E:XK):Prop
 | mk (p dx g:Addr) (n a0 a1:Int):vs=[.ref p,.int n,.ref g]->H p=some (.ins (C 8) dx [])->(SqL K H g [.int a0,.int a1]\/SqT K H g [.int a0,.int a1])->(∀ ha aa H',H ha=none->H aa=none->ha≠aa->OffA [p] H H'->H' p=some (.ins (C 8) dx (ffl n 0 ha aa))->H' ha=some (.lst [.int a0,.int a1,.int 0,.int 0])->H' aa=some (.lst [.int a0,.int a1])->Q .non H')->Q60 K C vs H Q E
theorem zga{H':Hp}{g:Addr}(e:Sq H H')(h:SqL K H g xs\/SqT K H g xs):SqL K H' g xs\/SqT K H' g xs:=by
 rcases h with h | h
 ·exact .inl (e.lst h)
 ·exact .inr (e.tup h)
include B Z in
theorem zpa (F:Fun K "__init__" "Frame.__init__" zcv f fd)(M:Mk K (C 8) f):Mkr P w K mg b8 "Frame" (C 8) ["self","number","asked"] 1 (Q60 K C):=by
 refine⟨f,fd,M,F.ok (k:=0) zf2 (λvs H Q E h=>?_) (λcdv A outer s H vs Q E hr h=>?_),F.binds λ_ _ _ _ _ _ us hl=>(by obtain⟨_,_,_,rfl⟩:=len3 hl;rfl),Z.m_Frame⟩
 ·first
  | (obtain⟨_,_,_,_,_,_,rfl,_⟩:=h;rfl)
 obtain⟨p,dx,g,n,a0,a1,rfl,hp,hg,q⟩:=h
 refine⟨_,(zaf (zbG (pv 0) (pv 1) rfl)
   (zaf (zbG (pv 0) zad rfl)
   (zaf (zbG (pv 0) (zaR (zaH (zav (k_ix K) (pv 2) zad) (zaH (zav (k_ix K) (pv 2) zad) (zam zad (zam zad zaa))))) rfl)
   (zag (zbG (pv 0) (zaR (zaH (zav (k_ix K) (pv 2) zad) (zaH (zav (k_ix K) (pv 2) zad) zaa))) rfl))))),?_⟩
 walk_at "q"
 nofun
 refine⟨p,(C 8),dx,[],rfl,hp,Z.c_Frame,Z.n_Frame_number,by show 0<1000;decide,?_⟩
 have q1:Sq H (upd H p (.ins (C 8) dx (putF "number" (.int n) []))):=zeM hp rfl
 walk_at "q"
 nofun
 refine⟨p,(C 8),dx,_,rfl,zac,Z.c_Frame,Z.n_Frame_place,Nat.lt_of_lt_of_le (za2 (n:=1) (by decide)) (by decide),?_⟩
 have q2:=q1.trans (zeM (o:=.ins (C 8) dx (putF "place" (.int 0) (putF "number" (.int n) []))) zac rfl)
 have o2:OffA [p] H (upd (upd H p (.ins (C 8) dx (putF "number" (.int n) []))) p (.ins (C 8) dx (putF "place" (.int 0) (putF "number" (.int n) [])))):=(zbI (by simp)).trans (zbI (by simp))
 have p2:(upd (upd H p (.ins (C 8) dx (putF "number" (.int n) []))) p (.ins (C 8) dx (putF "place" (.int 0) (putF "number" (.int n) [])))) p=some (.ins (C 8) dx (putF "place" (.int 0) (putF "number" (.int n) []))):=zac
 have fr2:Free H (upd (upd H p (.ins (C 8) dx (putF "number" (.int n) []))) p (.ins (C 8) dx (putF "place" (.int 0) (putF "number" (.int n) [])))):=zda.trans zda
 generalize (upd (upd H p (.ins (C 8) dx (putF "number" (.int n) []))) p (.ins (C 8) dx (putF "place" (.int 0) (putF "number" (.int n) []))))=H2 at q2 o2 p2 fr2
 have hg2:=zga q2 hg
 walk_at "q"
 nofun
 refine zkV hg2 ?_
 nofun
 refine zkW hg2 ?_
 nofun
 refine⟨(by walk_at "sm"),λha ha0=>?_⟩
 have s3:=zah ha0 (.lst [V.int a0,.int a1,.int 0,.int 0])
 have nh:ha≠p:=(zao p2 ha0).symm
 nofun
 refine⟨p,(C 8),dx,_,rfl,s3 _ _ p2,Z.c_Frame,Z.n_Frame_hands,Nat.lt_of_lt_of_le (za2 (n:=2) (za2 (n:=1) (by decide))) (by decide),?_⟩
 have q4:=s3.sq.trans (zeM (o:=.ins (C 8) dx (putF "hands" (.ref ha) (putF "place" (.int 0) (putF "number" (.int n) [])))) (s3 _ _ p2) rfl)
 have hg4:=zga q4 hg2
 nofun
 refine zkV hg4 ?_
 nofun
 refine zkW hg4 ?_
 nofun
 refine⟨(by walk_at "sm"),λaa aa0=>?_⟩
 have na:aa≠p:=λz=>by rw[z,zac] at aa0;cases aa0
 have nah:aa≠ha:=λz=>by rw[z,zai nh,zac] at aa0;cases aa0
 have aa2:H2 aa=none:=by rw[zai na,zai nah] at aa0;exact aa0
 nofun
 refine⟨p,(C 8),dx,_,rfl,by rw[zai na.symm,zac],Z.c_Frame,Z.n_Frame_asked,Nat.lt_of_lt_of_le (za2 (n:=3) (za2 (n:=2) (za2 (n:=1) (by decide)))) (by decide),?_⟩
 rw[zqC]
 refine q ha aa _ (fr2 _ ha0) (fr2 _ aa2) nah.symm (λb o nb e=>?_) zac ?_ ?_
 ·have nb':b≠p:=λz=>nb (by simp[z])
  have e2:=o2 b o nb e
  rw[zai nb',zai (zao e2 aa2),zai nb',zai (zao e2 ha0)]
  exact e2
 ·rw[zai nh,zai nah.symm,zai nh,zac]
 ·rw[zai na,zac]
inductive Q61 (K:Fg)(C:Nat->Addr)(vs:List V)(H:Hp)(Q:VK)(E:XK):Prop
 | mk (p dx ha aa:Addr) (f:Fm):vs=[.ref p]->H p=some (.ins (C 8) dx (ffl f.n f.p ha aa))->H ha=some (.lst (f.hands.map V.int))->H aa=some (.lst (f.asked.map V.int))->f.hands.length=4->f.asked.length=2->(∀ na H',Same H H'->H' na=some (.lst ((zcH f).map V.int))->Q (.ref na) H')->Q61 K C vs H Q E
include B Z in
theorem zgx (F:Fun K "numbers" "Frame.numbers" zcO f fd)(M:Meth K (C 8) "numbers" f):Mth CX0 P w K mg b8 (C 8) "numbers" ["self"] 1 (Q61 K C):=by
 refine⟨f,fd,M,F.ok (k:=0) zgu (λvs H Q E h=>?_) (λcdv A outer s H vs Q E hr h=>?_),F.binds λ_ _ _ _ _ _ us hl=>(by obtain⟨_,rfl⟩:=len1 hl;rfl)⟩
 ·first
  | (obtain⟨_,_,_,_,_,rfl,_⟩:=h;rfl)
 obtain⟨p,dx,ha,aa,f,rfl,hp,hh,haa,l4,l2,q⟩:=h
 refine⟨_,(zag (zan (zaQ (zaX K) (zaQ (zaX K) (zay K (pv 0) rfl) (zay K (pv 0) rfl)) (zfh (k_sl K) (zay K (pv 0) rfl) zgZ (zg0 zad))))),?_⟩
 nofun
 refine⟨p,(C 8),dx,_,_,rfl,hp,Z.c_Frame,Z.n_Frame_hands,zca _ _ _ _,?_⟩
 nofun
 refine⟨p,(C 8),dx,_,_,rfl,hp,Z.c_Frame,Z.n_Frame_asked,zoU _ _ _ _,?_⟩
 refine zbt hh haa (zaq (by simp[l4,l2])) λp1 hp1=>?_
 have t1:=zah hp1 (.lst (f.hands.map V.int++f.asked.map V.int))
 nofun
 refine⟨p,(C 8),dx,_,_,rfl,t1 _ _ hp,Z.c_Frame,Z.n_Frame_hands,zca _ _ _ _,?_⟩
 nofun
 refine zr3 (SqL.of (t1 _ _ hh)) λp2 hp2=>?_
 rw[znC (by decide)]
 have t2:=zah hp2 (.lst ((f.hands.map V.int).take (2:Int).toNat))
 nofun
 refine zbt (t2 _ _ zac) zac (zaq (by simp[l4,l2])) λp3 hp3=>?_
 refine q _ _ (t1.trans (t2.trans (zah hp3 _))) ?_
 rw[zac]
 unfold zcH
 rw[List.map_append,List.map_append,List.map_take]
 rfl
inductive Q78 (K:Fg)(C:Nat->Addr)(vs:List V)(H:Hp)(Q:VK)(E:XK):Prop
 | mk (r ka ia sa:Addr) (ks:List Int) (cr:Int->Cr) (fas:List Fa) (s:Rs) (kfp:List Addr) (p dx ha aa:Addr) (f:Fm):vs=[.ref r,.ref p]->RunX (C 9) (C 8) (C 0) H r ka ia sa ks cr fas s kfp->H p=some (.ins (C 8) dx (ffl f.n f.p ha aa))->f.n∈ks->(∀ q g,zbv (C 0) H q (cr f.n) g->Q (.ref q) H)->Q78 K C vs H Q E
include B Z in
theorem zhL (F:Fun K "craft_of" "Run.craft_of" zdl f fd)(M:Meth K (C 9) "craft_of" f):Mth CX0 P w K mg b8 (C 9) "craft_of" ["self","frame"] 1 (Q78 K C):=by
 refine⟨f,fd,M,F.ok (k:=0) zhE (λvs H Q E h=>?_) (λcdv A outer s H vs Q E hr h=>?_),F.binds λ_ _ _ _ _ _ us hl=>(by obtain⟨_,_,rfl⟩:=len2 hl;rfl)⟩
 ·first
  | (obtain⟨_,_,_,_,_,_,_,_,_,_,_,_,_,_,rfl,_⟩:=h;rfl)
 obtain⟨r,ka,ia,sa,ks,cr,fas,s,kfp,p,dx,ha,aa,f,rfl,A',hp,hn,q⟩:=h
 refine⟨_,(zag (zan (zel (hr_u hr) (zay K (pv 0) rfl) (zay K (pv 1) rfl) (λ_ _=>rfl)))),?_⟩
 obtain⟨dr,ev,hr',_⟩:=A'.ins
 obtain⟨kvs,o,g,e1,e2,e3⟩:=A'.kn.craft hn
 nofun
 refine⟨r,(C 9),dr,_,_,rfl,hr',Z.c_Run,Z.n_Run_known,zfr,?_⟩
 nofun
 refine⟨p,(C 8),dx,_,_,rfl,hp,Z.c_Frame,Z.n_Frame_number,zjZ _ _ _ _,?_⟩
 refine⟨ka,.ref o,rfl,by rw[<-e2];exact DGet.k (k:=.inl f.n) e1,?_⟩
 exact q o g e3
inductive Q71 (K:Fg)(C:Nat->Addr)(vs:List V)(H:Hp)(Q:VK)(E:XK):Prop
 | mk (r ka ia sa:Addr) (ks:List Int) (cr:Int->Cr) (fas:List Fa) (s:Rs) (kfp:List Addr) (f:Fm) (st:List Fm):vs=[.ref r]->RunX (C 9) (C 8) (C 0) H r ka ia sa ks cr fas s kfp->s.st=f::st->WfF ks cr f->(cr f.n).Rt->Q (.bl (decide (f.p=((cr f.n).deeds.length:Int)))) H->Q71 K C vs H Q E
variable (Q79:Mth CX0 P w K mg b8 (C 9) "craft_of" ["self","frame"] 1 (Q78 K C))
include B Z Q79 in
theorem zc2 (F:Fun K "is_behind_last_deed" "Run.is_behind_last_deed" zbr f fd)(M:Meth K (C 9) "is_behind_last_deed" f):Mth CX0 P w K mg b8 (C 9) "is_behind_last_deed" ["self"] 2 (Q71 K C):=by
 refine⟨f,fd,M,F.ok (k:=1) zbT (λvs H Q E h=>?_) (λcdv A outer s H vs Q E hr h=>?_),F.binds λ_ _ _ _ _ _ us hl=>(by obtain⟨_,rfl⟩:=len1 hl;rfl)⟩
 ·first
  | (obtain⟨_,_,_,_,_,_,_,_,_,_,_,rfl,_⟩:=h;rfl)
 obtain⟨r,ka,ia,sa,ks,cr,fas,s',kfp,f,st,rfl,A',hst,wf,rt,q⟩:=h
 refine⟨_,(zaf (zas (i:=1) zbT.nd (zav (k_ix K) (zay K (pv 0) rfl) (zcR zbJ zad)))
   (zag (zan (zbe (k_eq K hr) (zay K (pv 1) rfl) (zaw (zdV K) rfl B.len L2.boot_len (zba (zay K (zaS Q79 Z.c_Run hr za5 (pv 0) (zab (pv 1) zaa)) rfl) zaa)) (zat _))))),?_⟩
 obtain⟨dr,ev,hr',_⟩:=A'.ins
 have fr:=A'.fr
 rw[hst] at fr
 cases fas with
 | nil=>exact fr.elim
 | cons t fas=>
 obtain⟨p,ha,aa⟩:=t
 obtain⟨⟨dp,f1⟩,_⟩:=fr
 walk_at "q"
 nofun
 refine⟨r,(C 9),dr,_,_,rfl,hr',Z.c_Run,Z.n_Run_stack,zbQ,?_⟩
 nofun
 refine zbX (SqL.of A'.sta) (v:=.ref p) zfs ?_
 nofun
 refine⟨p,(C 8),dp,_,_,rfl,f1,Z.c_Frame,Z.n_Frame_place,zcI _ _ _ _,?_⟩
 nofun
 refine⟨r,dr,_,rfl,hr',zcf,?_⟩
 nofun
 refine⟨r,ka,ia,sa,ks,cr,(p,ha,aa)::fas,s',kfp,p,dp,ha,aa,f,rfl,A',f1,wf.m,λo g hC=>?_⟩
 obtain⟨dx,y1,y2,b3,b4,dvs,nvs,ho,_,_,h3,hD,_⟩:=hC.out (K:=K) rt.nine.d9
 nofun
 refine⟨o,(C 0),dx,_,_,rfl,ho,Z.c_Craft,Z.n_Craft_deeds,zbP _ _ _ _,?_⟩
 nofun
 refine zer (.inl (SqL.of h3)) ?_
 refine zrH ?_
 have e:dvs.length=(cr f.n).deeds.length:=hD.1.symm
 rw[e]
 exact q
inductive Q7c (K:Fg)(vs:List V)(H:Hp)(Q:VK)(E:XK):Prop
 | mk (la na:Addr) (ls:List (List Int)) (ns:List Int):vs=[.ref la,.ref na]->zdp K H la ls->SqL K H na (ns.map V.int)->ns.length=8->(∀ l∈ls,l.length=9/\Sm l)->(∀ H',Same H H'->Q (badV (zaM ls ns)) H')->Q7c K vs H Q E
theorem znZ{ls:List (List Int)}(h1:zdp K H la ls)(h2:SqL K H na (ns.map V.int))(h3:ns.length=8)(h4:∀ l∈ls,l.length=9/\Sm l)(q:∀ H',Same H H'->Q (badV (zaM ls ns)) H'):Q7c K [.ref la,.ref na] H Q E:=⟨la,na,ls,ns,rfl,h1,h2,h3,h4,q⟩
theorem zh9{ls:List (List Int)}{P:List Int->Bool}{i:Nat}(h:(ls.take i).findIdx? P=none)(e:ls[i]?=some l)(hp:P l=false):(ls.take (i+1)).findIdx? P=none:=by
 rw[List.take_add_one,e,List.findIdx?_append,h]
 simp[hp]
variable (Q1:Fn P w K mg b8 "holds" ["line","numbers"] 2 (zgO K))
include B Z Q1 in
theorem zia (F:Fun K "first_unmet" "first_unmet" zdU f fd)(m:mg "first_unmet"=some (.ref f)):Fn P w K mg b8 "first_unmet" ["lines","numbers"] 3 (Q7c K):=by
 refine Fn.of (k:=2) F zds m (λ_ _ _ _ _ _ us hl=>(by obtain⟨_,_,rfl⟩:=len2 hl;rfl)) (λvs H Q E h=>?_) (λcdv A outer s H vs Q E hr h=>?_)
 ·first
  | (obtain⟨_,_,_,_,rfl,_⟩:=h;rfl)
 obtain⟨la,na,ls,ns,rfl,⟨xs,hla,hxs⟩,hna,n8,h9,q⟩:=h
 refine⟨_,(zaf (zej PassesOwn.never rfl (zqj K rfl B.enumerate (zab (pv 0) zaa)) (zjG K (n:=2) rfl (zcm (zaD (i:=2) zds.nd) (zcm (zaD (i:=3) zds.nd) zgU))) (zag (za4 (zgf (zcp (zap Q1 hr rfl (zab (pv 3) (zab (pv 1) zaa))))) (zag (zan (pv 2))) zaA)))
   (zag (zan zcQ))),?_⟩
 have lx:=hxs.length
 rw[zlm] at lx
 walk_at "q"
 nofun
 refine⟨la,xs,rfl,hla,?_⟩
 refine zfT (znh (SqL.of hla)) (λi σ H2=>∃ x y,A3 (σ=[some (.ref la),some (.ref na),x,y]) (Same H H2) ((ls.take i).findIdx? (λl=>decide (zdz l ns<0))=none))
  ⟨none,none,rfl,Same.refl _,rfl⟩ (λi σ H2 ⟨_,_,_,e,_⟩=>e) ?_ ?_
 ·rintro i v σ H2 H3 hi ⟨x,y,rfl,s2,hf⟩ s3 ⟨T,u,rfl,hT,hu'⟩
  have s03:=s2.trans s3
  obtain⟨d,hd,hru⟩:=Reps.get' hxs hu'
  rw[zgm] at hd
  obtain⟨l,hl,rfl⟩:=zme.mp hd
  obtain⟨ua,rfl,hua⟩:=zbd.mp (Rep.same s03 _ hru)
  obtain⟨l9,lsm⟩:=h9 l (zmg hl)
  refine⟨T,_,rfl,SqT.of hT,rfl,⟨_,_,rfl,?_⟩⟩
  refine⟨_,_,rfl,?_⟩
  refine⟨rfl,?_⟩
  cases l with
  | nil=>simp at l9
  | cons c fs=>
  nofun
  refine⟨ua,na,c,fs,ns,rfl,hua,s03.seq hna,by simpa using l9,n8,znK lsm,λH4 s4=>?_⟩
  have ew:c+dot fs ns=zdz (c::fs) ns:=(ze6 _ _ _).symm
  rw[ew]
  dsimp only
  by_cases hb:0<=zdz (c::fs) ns
  ·rw[decide_eq_true hb]
   nofun
   exact⟨_,_,rfl,s03.trans s4,zh9 hf hl (decide_eq_false (by omega))⟩
  ·rw[decide_eq_false hb]
   nofun
   have e:zaM ls ns=some i:=by
    unfold zaM
    rw[znL hf hl,if_pos (decide_eq_true (by omega))]
   have:=q _ (s03.trans s4)
   rw[e] at this
   exact this
 ·rintro σ H2 ⟨x,y,rfl,s2,hf⟩
  nofun
  rw[<-lx,List.take_of_length_le (Nat.le_refl _)] at hf
  have e:zaM ls ns=none:=hf
  have:=q _ s2
  rw[e] at this
  exact this
inductive Q7a (K:Fg)(C:Nat->Addr)(vs:List V)(H:Hp)(Q:VK)(E:XK):Prop
 | mk (r ka ia sa:Addr) (ks:List Int) (cr:Int->Cr) (fas:List Fa) (s:Rs) (kfp:List Addr) (w:Str) (la na:Addr) (ls:List (List Int)) (ns:List Int) (f:Fm) (st:List Fm):vs=[.ref r,.str w,.ref la,.ref na]->RunX (C 9) (C 8) (C 0) H r ka ia sa ks cr fas s kfp->s.st=f::st->s.en=none->zdp K H la ls->SqL K H na (ns.map V.int)->ns.length=8->(∀ l∈ls,l.length=9/\Sm l)->(∀ H',OffA [r] H H'->RunX (C 9) (C 8) (C 0) H' r ka ia sa ks cr fas {s with en:=(zaM ls ns).map (brk w f)} kfp->Q (.bl (zaM ls ns).isNone) H')->Q7a K C vs H Q E
variable (Q7d:Fn P w K mg b8 "first_unmet" ["lines","numbers"] 3 (Q7c K))
include B Z Q7d in
theorem zkk (F:Fun K "meets" "Run.meets" zeZ f fd)(M:Meth K (C 9) "meets" f):Mth CX0 P w K mg b8 (C 9) "meets" ["self","word","lines","numbers"] 4 (Q7a K C):=by
 refine⟨f,fd,M,F.ok (k:=3) zeA (λvs H Q E h=>?_) (λcdv A outer s H vs Q E hr h=>?_),F.binds λ_ _ _ _ _ _ us hl=>(by obtain⟨_,_,_,_,rfl⟩:=len4 hl;rfl)⟩
 ·first
  | (obtain⟨_,_,_,_,_,_,_,_,_,_,_,_,_,_,_,_,rfl,_⟩:=h;rfl)
 obtain⟨r,ka,ia,sa,ks,cr,fas,s',kfp,w,la,na,ls,ns,f,st,rfl,A',hst,hen,hL,hN,n8,h9,q⟩:=h
 refine⟨_,(zaf (zas (i:=4) zeA.nd (zap Q7d hr rfl (zab (pv 2) (zab (pv 3) zaa))))
   (zaf (za4 (zax zky (pv 4) zcQ (zat _)) (zaf (zas (i:=5) zeA.nd (zav (k_ix K) (zay K (pv 0) rfl) (zcR zbJ zad)))
   (zag (zbG (pv 0) (zdu (zam zbi (zab (pv 1) (zba (zay K (pv 5) rfl) (zba (zay K (pv 5) rfl) (zab (pv 4) zaa)))))) rfl))) zaA)
   (zag (zan (zbe zgV (pv 4) zcQ (zat _)))))),?_⟩
 walk_at "q"
 nofun
 refine znZ hL hN n8 h9 λH1 s1=>?_
 have A1:=A'.same s1
 nofun
 cases hb:zaM ls ns with
 | none=>
  rw[hb] at q
  have q:=q H1 s1.offA (by
   have e:({s' with en:=(none:Option Nat).map (brk w f)} : Rs)=s':=by cases s';cases hen;rfl
   rw[e];exact A1)
  with_reducible refine zcB (λQ2 q2=>?_) ?_
  ·nofun
   refine⟨rfl,?_⟩
   show ∃ k,V.bl (!decide (V.non=V.non))=.bl k/\_
   rw[ziR]
   nofun
   exact q2
  ·nofun
   refine⟨rfl,?_⟩
   show Q (.bl (decide (V.non=V.non))) H1
   rw[ziR]
   exact q
 | some i=>
  rw[hb] at q
  have ei:∀ j:Int,decide (V.int j=V.non)=false:=λj=>decide_eq_false (by intro z;cases z)
  obtain⟨dr,ev,hr',_⟩:=A1.ins
  have fr:=A1.fr
  rw[hst] at fr
  cases fas with
  | nil=>exact fr.elim
  | cons t fas=>
  obtain⟨p,ha,aa⟩:=t
  obtain⟨⟨dp,f1⟩,_⟩:=fr
  with_reducible refine zgh (λσ H'=>σ=[some (.ref r),some (.str w),some (.ref la),some (.ref na),some (.int (i:Int)),some (.ref p)]/\OffA [r] H1 H'/\RunX (C 9) (C 8) (C 0) H' r ka ia sa ks cr ((p,ha,aa)::fas) {s' with en:=some (brk w f i)} kfp) (λNX tail=>?_) ?_
  ·nofun
   refine⟨rfl,?_⟩
   show ∃ k,V.bl (!decide (V.int (i:Int)=V.non))=.bl k/\_
   rw[ei]
   nofun
   walk_at "q"
   nofun
   refine⟨r,(C 9),dr,_,_,rfl,hr',Z.c_Run,Z.n_Run_stack,zbQ,?_⟩
   nofun
   refine zbX (SqL.of A1.sta) (v:=.ref p) zfs ?_
   nofun
   refine⟨p,(C 8),dp,_,_,rfl,f1,Z.c_Frame,Z.n_Frame_number,zjZ _ _ _ _,?_⟩
   nofun
   refine⟨p,(C 8),dp,_,_,rfl,f1,Z.c_Frame,Z.n_Frame_place,zcI _ _ _ _,?_⟩
   nofun
   refine⟨(by walk_at "sm"),λT hT=>?_⟩
   have t2:=zah hT (.tup (brk w f i))
   nofun
   refine⟨r,(C 9),dr,_,rfl,t2 _ _ hr',Z.c_Run,Z.n_Run_ending,by show 5<1000;decide,?_⟩
   rw[zcX]
   refine tail _ _ ⟨rfl,t2.offA.trans (zbI (by simp)),?_⟩
   have:=(A1.same t2).setR (k':=s'.k) (en':=some (brk w f i)) (t2 _ _ hr') ⟨T,rfl,zac⟩
   exact this
  ·rintro σ H2 ⟨rfl,o2,A2⟩
   nofun
   refine⟨rfl,?_⟩
   show Q (.bl (decide (V.int (i:Int)=V.non))) H2
   rw[ei]
   exact q H2 (s1.offA.trans o2) A2
inductive Q77 (K:Fg)(C:Nat->Addr)(vs:List V)(H:Hp)(Q:VK)(E:XK):Prop
 | mk (r ka ia sa:Addr) (ks:List Int) (cr:Int->Cr) (fas:List Fa) (s:Rs) (kfp:List Addr) (g:Fm) (st:List Fm) (l0 l1:Int):vs=[.ref r,.int l0,.int l1]->RunX (C 9) (C 8) (C 0) H r ka ia sa ks cr fas s kfp->s.st=g::st->WfF ks cr g->zis cr g->(∀ H',zaK (zau r ia sa fas) H (zau r ia sa fas) H'->RunX (C 9) (C 8) (C 0) H' r ka ia sa ks cr fas {s with st:=zjY cr g l0 l1::st} kfp->Q .non H')->Q77 K C vs H Q E
include B Z Q79 in
theorem zk6 (F:Fun K "take" "Run.take" zfN f fd)(M:Meth K (C 9) "take" f):Mth CX0 P w K mg b8 (C 9) "take" ["self","left_0","left_1"] 2 (Q77 K C):=by
 refine⟨f,fd,M,F.ok (k:=1) zfd (λvs H Q E h=>?_) (λcdv A outer s H vs Q E hr h=>?_),F.binds λ_ _ _ _ _ _ us hl=>(by obtain⟨_,_,_,rfl⟩:=len3 hl;rfl)⟩
 ·first
  | (obtain⟨_,_,_,_,_,_,_,_,_,_,_,_,_,rfl,_⟩:=h;rfl)
 obtain⟨r,ka,ia,sa,ks,cr,fas,s',kfp,g,st,l0,l1,rfl,A',hst,wf,hc,q⟩:=h
 refine⟨_,(zaf (zas (i:=3) zfd.nd (zav (k_ix K) (zay K (pv 0) rfl) (zcR zbJ zad)))
   (zaf (zas (i:=4) zfd.nd (zav (k_ix K) (zav (k_ix K) (zay K (zaS Q79 Z.c_Run hr za5 (pv 0) (zab (pv 3) zaa)) rfl) (zay K (pv 3) rfl)) zad))
   (zaf (zld (pv 1) (zlc (zay K (pv 3) rfl) (zav (k_ix K) (pv 4) zad) zgD))
   (zaf (zld (pv 2) (zlc (zay K (pv 3) rfl) (zav (k_ix K) (pv 4) zad) zgD))
   (zag (zbG (pv 3) (zaQ (zaX K) (zay K (pv 3) rfl) zad) rfl)))))),?_⟩
 have rt:=A'.kn.rt g.n wf.m
 obtain⟨dr,ev,hr',_⟩:=A'.ins
 have fr:=A'.fr
 rw[hst] at fr
 cases fas with
 | nil=>exact fr.elim
 | cons t fas=>
 obtain⟨p,ha,aa⟩:=t
 obtain⟨⟨dp,f1⟩,f2,f3,f4⟩:=fr
 have hlt:=hc.lt
 obtain⟨m,g0,g1,t0,t1,hd⟩:=hc
 have hok:=rt.parts.2.2.2.2.2 _ (zmg hd)
 obtain⟨_,_,b0,b1,_⟩:=zit hok
 have e4:=wf.h4
 nofun
 walk_at "q"
 nofun
 refine⟨r,(C 9),dr,_,_,rfl,hr',Z.c_Run,Z.n_Run_stack,zbQ,?_⟩
 nofun
 refine zbX (SqL.of A'.sta) (v:=.ref p) zfs ?_
 nofun
 walk_at "q"
 nofun
 refine⟨r,dr,_,rfl,hr',zcf,?_⟩
 nofun
 refine⟨r,ka,ia,sa,ks,cr,(p,ha,aa)::fas,s',kfp,p,dp,ha,aa,g,rfl,A',f1,wf.m,λo gg hC=>?_⟩
 obtain⟨dx,y1,y2,b3,b4,dvs,nvs,ho,_,_,h3,hD,_⟩:=hC.out (K:=K) rt.nine.d9
 have ld:=hD.1
 have hx:=List.getElem?_eq_getElem (l:=dvs) (i:=g.p.toNat) (by omega)
 obtain⟨T,ys,hT,hT2,px⟩:=zbk (hD.2 _ _ _ hd hx)
 obtain⟨x0,ys,rfl,e0,px⟩:=zal px
 obtain⟨x1,ys,rfl,e1,px⟩:=zal px
 obtain⟨x2,ys,rfl,e2,px⟩:=zal px
 obtain⟨x3,ys,rfl,e3,px⟩:=zal px
 obtain⟨tk,rfl,htk⟩:=zfn e3
 nofun
 refine⟨o,(C 0),dx,_,_,rfl,ho,Z.c_Craft,Z.n_Craft_deeds,zbP _ _ _ _,?_⟩
 nofun
 refine⟨p,(C 8),dp,_,_,rfl,f1,Z.c_Frame,Z.n_Frame_place,zcI _ _ _ _,?_⟩
 nofun
 refine zbX (SqL.of h3) (v:=.ref T) (zlx wf.p0 (by rw[hx,hT])) ?_
 nofun
 refine zaL (SqT.of hT2) (v:=.ref tk) (zaB (j:=3) rfl) ?_
 nofun
 walk_at "q"
 nofun
 refine⟨p,(C 8),dp,_,_,rfl,f1,Z.c_Frame,Z.n_Frame_hands,zca _ _ _ _,?_⟩
 nofun
 refine zaL (SqT.of htk) (v:=.int t0) zbs ?_
 nofun
 refine zln f2 (j:=t0.toNat) (zns b0.1 (by rw[zlm];omega)) ?_
 rw[ziZ]
 have A1:=A'.setH (xs:=g.hands.set t0.toNat l0) hst
 obtain⟨⟨dp1,g1'⟩,g2',g3',_⟩:=A1.fr
 have tk1:=(zc8 (o:=.lst ((g.hands.set t0.toNat l0).map V.int)) f2) _ _ htk
 have m1:zaK (zau r ia sa ((p,ha,aa)::fas)) H (zau r ia sa ((p,ha,aa)::fas)) (upd H ha (.lst ((g.hands.set t0.toNat l0).map V.int))):=zaK.upd zqJ
 generalize upd H ha (.lst ((g.hands.set t0.toNat l0).map V.int))=H1 at *
 nofun
 walk_at "q"
 nofun
 refine⟨p,(C 8),dp1,_,_,rfl,g1',Z.c_Frame,Z.n_Frame_hands,zca _ _ _ _,?_⟩
 nofun
 refine zaL (SqT.of tk1) (v:=.int t1) (zaB (j:=1) rfl) ?_
 nofun
 refine zln g2' (j:=t1.toNat) (zns b1.1 (by rw[zlm,List.length_set];omega)) ?_
 rw[ziZ]
 have A2:=A1.setH (xs:=(g.hands.set t0.toNat l0).set t1.toNat l1) rfl
 obtain⟨⟨dp2,k1⟩,k2,k3,_⟩:=A2.fr
 have m2:zaK (zau r ia sa ((p,ha,aa)::fas)) H1 (zau r ia sa ((p,ha,aa)::fas)) (upd H1 ha (.lst (((g.hands.set t0.toNat l0).set t1.toNat l1).map V.int))):=zaK.upd zqJ
 generalize upd H1 ha (.lst (((g.hands.set t0.toNat l0).set t1.toNat l1).map V.int))=H2 at *
 nofun
 refine⟨p,(C 8),dp2,_,_,rfl,k1,Z.c_Frame,Z.n_Frame_place,zcI _ _ _ _,?_⟩
 nofun
 refine⟨p,(C 8),dp2,_,rfl,k1,Z.c_Frame,Z.n_Frame_place,by show 4<1000;decide,?_⟩
 rw[zpH]
 have A3:=A2.setP (q:=g.p+1) rfl k1
 refine q _ (m1.trans (m2.trans (zaK.upd zsl))) ?_
 unfold zjY zkS
 rw[hd]
 exact A3
inductive Q75 (K:Fg)(C:Nat->Addr)(vs:List V)(H:Hp)(Q:VK)(E:XK):Prop
 | mk (r ka ia sa:Addr) (ks:List Int) (cr:Int->Cr) (fas:List Fa) (s:Rs) (kfp:List Addr) (f:Fm) (st:List Fm):vs=[.ref r]->RunX (C 9) (C 8) (C 0) H r ka ia sa ks cr fas s kfp->s.st=f::st->s.en=none->Wf ks cr (f::st)->(∀ H' fas',zaK (zau r ia sa fas) H (zau r ia sa fas') H'->RunX (C 9) (C 8) (C 0) H' r ka ia sa ks cr fas' (zj1 cr s f st) kfp->Q .non H')->Q75 K C vs H Q E
variable (Q7b:Mth CX0 P w K mg b8 (C 9) "meets" ["self","word","lines","numbers"] 4 (Q7a K C))(Q62:Mth CX0 P w K mg b8 (C 8) "numbers" ["self"] 1 (Q61 K C))
include B Z Q79 Q7b Q62 in
theorem zkl (G_Run_take:Mth CX0 P w K mg b8 (C 9) "take" ["self","left_0","left_1"] 2 (Q77 K C))(F:Fun K "leave" "Run.leave" zeY f fd)(M:Meth K (C 9) "leave" f):Mth CX0 P w K mg b8 (C 9) "leave" ["self"] 5 (Q75 K C):=by
 refine⟨f,fd,M,F.ok (k:=4) zgl (λvs H Q E h=>?_) (λcdv A outer s H vs Q E hr h=>?_),F.binds λ_ _ _ _ _ _ us hl=>(by obtain⟨_,rfl⟩:=len1 hl;rfl)⟩
 ·first
  | (obtain⟨_,_,_,_,_,_,_,_,_,_,_,rfl,_⟩:=h;rfl)
 obtain⟨r,ka,ia,sa,ks,cr,fas,s',kfp,f,st,rfl,A',hst,hen,wfs,q⟩:=h
 refine⟨_,(zaf (zas (i:=1) zgl.nd (zav (k_ix K) (zay K (pv 0) rfl) (zcR zbJ zad)))
   (zaf (za4 (zgf (zcp (zaS Q7b Z.c_Run hr za5 (pv 0) (zam zbi (zba (zay K (zaS Q79 Z.c_Run hr za5 (pv 0) (zab (pv 1) zaa)) rfl) (zaE (zci Q62 Z.c_Frame hr za5 (pv 1)) zaa)))))) (zag zmE) zaA)
   (zaf (za1 (zpi PySem.F.plainAttrs_list PySem.F.slot_list_pop PySem.F.type_list_pop zpj (zay K (pv 0) rfl)))
   (zag (za4 (zqv K (zay K (pv 0) rfl)) (zag (za1 (zaS G_Run_take Z.c_Run hr za5 (pv 0) (zaH (zav (k_ix K) (zay K (pv 1) rfl) zad) (zaH (zav (k_ix K) (zay K (pv 1) rfl) zad) zaa))))) (zag (zbG (pv 0) (zdu (zam zbi (zaH (zav (k_ix K) (zay K (pv 1) rfl) zad) (zaH (zav (k_ix K) (zay K (pv 1) rfl) zad) zaa)))) rfl))))))),?_⟩
 have wf:=wfs.1 f List.mem_cons_self
 have rt:=A'.kn.rt f.n wf.m
 obtain⟨dr,ev,hr',_⟩:=A'.ins
 have fr:=A'.fr
 rw[hst] at fr
 cases fas with
 | nil=>exact fr.elim
 | cons t fas=>
 obtain⟨p,ha,aa⟩:=t
 obtain⟨⟨dp,f1⟩,f2,f3,f4⟩:=fr
 nofun
 walk_at "q"
 nofun
 refine⟨r,(C 9),dr,_,_,rfl,hr',Z.c_Run,Z.n_Run_stack,zbQ,?_⟩
 nofun
 refine zbX (SqL.of A'.sta) (v:=.ref p) zfs ?_
 nofun
 walk_at "q"
 nofun
 refine⟨r,dr,_,rfl,hr',zcf,?_⟩
 nofun
 refine⟨r,dr,_,rfl,hr',zcf,?_⟩
 nofun
 refine⟨r,ka,ia,sa,ks,cr,(p,ha,aa)::fas,s',kfp,p,dp,ha,aa,f,rfl,A',f1,wf.m,λo g hC=>?_⟩
 obtain⟨dx,y1,y2,b3,b4,dvs,nvs,ho,_,hL,_⟩:=hC.out (K:=K) rt.nine.d9
 nofun
 refine⟨o,(C 0),dx,_,_,rfl,ho,Z.c_Craft,Z.n_Craft_leaves,zb9 _ _ _ _,?_⟩
 nofun
 refine⟨p,dp,_,rfl,f1,zmo,?_⟩
 nofun
 refine⟨p,dp,ha,aa,f,rfl,f1,f2,f3,wf.h4,wf.a2,λna H1 s1 hna=>?_⟩
 nofun
 refine⟨r,ka,ia,sa,ks,cr,(p,ha,aa)::fas,s',kfp,"leaves",y2,na,_,zcH f,f,st,rfl,A'.same s1,hst,hen,hL.same s1,SqL.of hna,zdF wf,rt.sm.2.1,λH2 o2 A2=>?_⟩
 have m2:zaK (zau r ia sa ((p,ha,aa)::fas)) H (zau r ia sa ((p,ha,aa)::fas)) H2:=(zaK.same s1).trans (zaK.offR o2 A2)
 unfold zj1 at q
 cases hb:zaM (cr f.n).leaves (zcH f) with
 | some i=>
  rw[hb] at q A2
  dsimp only[Option.isNone]
  nofun
  exact q H2 _ m2 A2
 | none=>
 rw[hb] at q A2
 have A2:RunX (C 9) (C 8) (C 0) H2 r ka ia sa ks cr ((p,ha,aa)::fas) s' kfp:=by
  rw[<-Rs.quiet hen];exact A2
 dsimp only[Option.isNone]
 nofun
 obtain⟨dr2,ev2,hr2,_⟩:=A2.ins
 nofun
 walk_at "q"
 nofun
 refine⟨r,(C 9),dr2,_,_,rfl,hr2,Z.c_Run,Z.n_Run_stack,zbQ,?_⟩
 nofun
 refine⟨tyL A2.sta,?_⟩
 nofun
 refine zsb A2.sta zqI ?_
 rw[zqH]
 have A3:=A2.pop hst
 have fr2:=A2.fr
 rw[hst] at fr2
 obtain⟨⟨dp2,k1⟩,k2,k3,_⟩:=fr2
 have ns:sa≠p/\sa≠ha:=by
  have:=A2.ndr.2.2.2.2.2.1
  rw[zbb] at this
  simp only[List.mem_cons,not_or] at this
  exact⟨this.1,this.2.1⟩
 have k1:(upd H2 sa (.lst (fas.reverse.map λt=>V.ref t.1))) p=some (.ins (C 8) dp2 (ffl f.n f.p ha aa)):=by rw[zai ns.1.symm];exact k1
 have k2:(upd H2 sa (.lst (fas.reverse.map λt=>V.ref t.1))) ha=some (.lst (f.hands.map V.int)):=by rw[zai ns.2.symm];exact k2
 have m3:zaK (zau r ia sa ((p,ha,aa)::fas)) H (zau r ia sa fas) (upd H2 sa (.lst (fas.reverse.map λt=>V.ref t.1))):=m2.trans ((zaK.upd zqK).trans (zaK.less zoX))
 generalize upd H2 sa (.lst (fas.reverse.map λt=>V.ref t.1))=H3 at *
 obtain⟨dr3,ev3,hr3,_⟩:=A3.ins
 have e4:=wf.h4
 nofun
 refine⟨r,(C 9),dr3,_,_,rfl,hr3,Z.c_Run,Z.n_Run_stack,zbQ,?_⟩
 refine znu (SqL.of A3.sta) ?_
 cases st with
 | nil=>
  cases fas with
  | cons t fas=>exact A3.fr.elim
  | nil=>
  rw[show (!(([]:List Fa).reverse.map λt=>V.ref t.1).isEmpty)=false from rfl]
  nofun
  refine⟨p,(C 8),dp2,_,_,rfl,k1,Z.c_Frame,Z.n_Frame_hands,zca _ _ _ _,?_⟩
  nofun
  refine zbX (SqL.of k2) (zfX (k:=0) (by decide) (by omega)) ?_
  nofun
  refine⟨p,(C 8),dp2,_,_,rfl,k1,Z.c_Frame,Z.n_Frame_hands,zca _ _ _ _,?_⟩
  nofun
  refine zbX (SqL.of k2) (zfX (k:=1) (by decide) (by omega)) ?_
  nofun
  refine⟨(by walk_at "sm"),λT hT=>?_⟩
  have t4:=zah hT (.tup (zmn f))
  nofun
  refine⟨r,(C 9),dr3,_,rfl,t4 _ _ hr3,Z.c_Run,Z.n_Run_ending,by show 5<1000;decide,?_⟩
  rw[zcX]
  exact q _ [] (m3.trans ((zaK.same t4).trans (zaK.upd ziu))) ((A3.same t4).setR (k':=s'.k) (en':=some (zmn f)) (t4 _ _ hr3) ⟨T,rfl,zac⟩)
 | cons g st=>
  cases fas with
  | nil=>exact A3.fr.elim
  | cons t fas=>
  have et:(!((t::fas).reverse.map λt=>V.ref t.1).isEmpty)=true:=by simp
  rw[et]
  nofun
  refine⟨r,dr3,_,rfl,hr3,zcf,?_⟩
  nofun
  refine⟨p,(C 8),dp2,_,_,rfl,k1,Z.c_Frame,Z.n_Frame_hands,zca _ _ _ _,?_⟩
  nofun
  refine zbX (SqL.of k2) (zfX (k:=0) (by decide) (by omega)) ?_
  nofun
  refine⟨p,(C 8),dp2,_,_,rfl,k1,Z.c_Frame,Z.n_Frame_hands,zca _ _ _ _,?_⟩
  nofun
  refine zbX (SqL.of k2) (zfX (k:=1) (by decide) (by omega)) ?_
  nofun
  refine⟨r,ka,ia,sa,ks,cr,t::fas,_,kfp,g,st,_,_,rfl,A3,rfl,wfs.1 g (by simp),wfs.2 g (by simp),λH4 m4 A4=>?_⟩
  nofun
  exact q H4 _ (m3.trans m4) A4
inductive Q73 (K:Fg)(C:Nat->Addr)(vs:List V)(H:Hp)(Q:VK)(E:XK):Prop
 | mk (r ka ia sa:Addr) (ks:List Int) (cr:Int->Cr) (fas:List Fa) (s:Rs) (kfp:List Addr) (f:Fm) (st:List Fm):vs=[.ref r]->RunX (C 9) (C 8) (C 0) H r ka ia sa ks cr fas s kfp->s.st=f::st->s.en=none->WfF ks cr f->f.p<((cr f.n).deeds.length:Int)->(cr f.n).Rt->(∀ H',OffA [r] H H'->RunX (C 9) (C 8) (C 0) H' r ka ia sa ks cr fas {s with en:=zdX cr f} kfp->Q .non H')->Q73 K C vs H Q E
include B Z Q79 Q7b Q62 in
theorem zgb (F:Fun K "meet_notes" "Run.meet_notes" zcw f fd)(M:Meth K (C 9) "meet_notes" f):Mth CX0 P w K mg b8 (C 9) "meet_notes" ["self"] 5 (Q73 K C):=by
 refine⟨f,fd,M,F.ok (k:=4) zdG (λvs H Q E h=>?_) (λcdv A outer s H vs Q E hr h=>?_),F.binds λ_ _ _ _ _ _ us hl=>(by obtain⟨_,rfl⟩:=len1 hl;rfl)⟩
 ·first
  | (obtain⟨_,_,_,_,_,_,_,_,_,_,_,rfl,_⟩:=h;rfl)
 obtain⟨r,ka,ia,sa,ks,cr,fas,s',kfp,f,st,rfl,A',hst,hen,wf,hp,rt,q⟩:=h
 refine⟨_,(zaf (zas (i:=1) zdG.nd (zav (k_ix K) (zay K (pv 0) rfl) (zcR zbJ zad)))
   (zag (za1 (zaS Q7b Z.c_Run hr za5 (pv 0) (zam zbi (zaH (zav (k_ix K) (zay K (zaS Q79 Z.c_Run hr za5 (pv 0) (zab (pv 1) zaa)) rfl) (zay K (pv 1) rfl)) (zaE (zci Q62 Z.c_Frame hr za5 (pv 1)) zaa))))))),?_⟩
 obtain⟨dr,ev,hr',_⟩:=A'.ins
 have fr:=A'.fr
 rw[hst] at fr
 cases fas with
 | nil=>exact fr.elim
 | cons t fas=>
 obtain⟨p,ha,aa⟩:=t
 obtain⟨⟨dp,f1⟩,f2,f3,_⟩:=fr
 walk_at "q"
 nofun
 refine⟨r,(C 9),dr,_,_,rfl,hr',Z.c_Run,Z.n_Run_stack,zbQ,?_⟩
 nofun
 refine zbX (SqL.of A'.sta) (v:=.ref p) zfs ?_
 nofun
 refine⟨r,dr,_,rfl,hr',zcf,?_⟩
 nofun
 refine⟨r,dr,_,rfl,hr',zcf,?_⟩
 nofun
 refine⟨r,ka,ia,sa,ks,cr,(p,ha,aa)::fas,s',kfp,p,dp,ha,aa,f,rfl,A',f1,wf.m,λo g hC=>?_⟩
 obtain⟨dx,y1,y2,b3,b4,dvs,nvs,ho,_,_,h3,hD,h4,hN⟩:=hC.out (K:=K) rt.nine.d9
 have hp0:=wf.p0
 have ln:f.p.toNat<(cr f.n).notes.length:=by rw[rt.parts.2.2.2.1];omega
 have ln':f.p.toNat<nvs.length:=by rw[<-hN.1];exact ln
 obtain⟨la,hx,hL⟩:=hN.2 f.p.toNat _ _ (List.getElem?_eq_getElem ln) (List.getElem?_eq_getElem ln')
 nofun
 refine⟨o,(C 0),dx,_,_,rfl,ho,Z.c_Craft,Z.n_Craft_notes,zdc _ _ _ _,?_⟩
 nofun
 refine⟨p,(C 8),dp,_,_,rfl,f1,Z.c_Frame,Z.n_Frame_place,zcI _ _ _ _,?_⟩
 nofun
 refine zbX (SqL.of h4) (v:=.ref la) (zlx hp0 (by rw[List.getElem?_eq_getElem ln',hx])) ?_
 nofun
 refine⟨p,dp,_,rfl,f1,zmo,?_⟩
 nofun
 refine⟨p,dp,ha,aa,f,rfl,f1,f2,f3,wf.h4,wf.a2,λna H1 s1 hna=>?_⟩
 refine⟨r,ka,ia,sa,ks,cr,(p,ha,aa)::fas,s',kfp,"notes",la,na,_,zcH f,f,st,rfl,A'.same s1,hst,hen,hL.same s1,SqL.of hna,zdF wf,rt.sm.2.2 _ (List.getElem_mem ln),λH2 o2 A2=>?_⟩
 refine q H2 (s1.offA.trans o2) ?_
 unfold zdX
 rw[show (cr f.n).notes.getD f.p.toNat []=(cr f.n).notes[f.p.toNat] by rw[List.getD_eq_getElem?_getD,List.getElem?_eq_getElem ln];rfl]
 exact A2
inductive Q6f (K:Fg)(C:Nat->Addr)(vs:List V)(H:Hp)(Q:VK)(E:XK):Prop
 | mk (r ka ia sa:Addr) (ks:List Int) (cr:Int->Cr) (fas:List Fa) (s:Rs) (kfp:List Addr) (f:Fm) (st:List Fm) (j:Int):vs=[.ref r,.int j]->RunX (C 9) (C 8) (C 0) H r ka ia sa ks cr fas s kfp->s.st=f::st->s.en=none->Wf ks cr ({f with p:=j}::st)->(∀ H' fas',zaK (zau r ia sa fas) H (zau r ia sa fas') H'->RunX (C 9) (C 8) (C 0) H' r ka ia sa ks cr fas' (zdD cr s {f with p:=j} st) kfp->Q .non H')->Q6f K C vs H Q E
include B Z in
theorem zib (Q72:Mth CX0 P w K mg b8 (C 9) "is_behind_last_deed" ["self"] 2 (Q71 K C))(Q76:Mth CX0 P w K mg b8 (C 9) "leave" ["self"] 5 (Q75 K C))(Q74:Mth CX0 P w K mg b8 (C 9) "meet_notes" ["self"] 5 (Q73 K C))(F:Fun K "come_to" "Run.come_to" zdT f fd)(M:Meth K (C 9) "come_to" f):Mth CX0 P w K mg b8 (C 9) "come_to" ["self","place"] 6 (Q6f K C):=by
 refine⟨f,fd,M,F.ok (k:=5) zeS (λvs H Q E h=>?_) (λcdv A outer s H vs Q E hr h=>?_),F.binds λ_ _ _ _ _ _ us hl=>(by obtain⟨_,_,rfl⟩:=len2 hl;rfl)⟩
 ·first
  | (obtain⟨_,_,_,_,_,_,_,_,_,_,_,_,rfl,_⟩:=h;rfl)
 obtain⟨r,ka,ia,sa,ks,cr,fas,s',kfp,f,st,j,rfl,A',hst,hen,wfs,q⟩:=h
 refine⟨_,(zaf (zas (i:=2) zeS.nd (zav (k_ix K) (zay K (pv 0) rfl) (zcR zbJ zad)))
   (zaf (zbG (pv 2) (pv 1) rfl)
   (zaf (ziD PassesOwn.never (PW.pt (zmC (zax zgV (zay K (pv 0) rfl) zcQ (zat _)) (zkx (zcp (zci Q72 Z.c_Run hr za5 (pv 0)))))) (zag (za1 (zci Q76 Z.c_Run hr za5 (pv 0)))))
   (zag (za4 (zax zgV (zay K (pv 0) rfl) zcQ (zat _)) (zag (za1 (zci Q74 Z.c_Run hr za5 (pv 0)))) zaA))))),?_⟩
 obtain⟨dr,ev,hr',_⟩:=A'.ins
 have fr:=A'.fr
 rw[hst] at fr
 cases fas with
 | nil=>exact fr.elim
 | cons t fas=>
 obtain⟨p,ha,aa⟩:=t
 obtain⟨⟨dp,f1⟩,f2,f3,f4⟩:=fr
 nofun
 walk_at "q"
 nofun
 refine⟨r,(C 9),dr,_,_,rfl,hr',Z.c_Run,Z.n_Run_stack,zbQ,?_⟩
 nofun
 refine zbX (SqL.of A'.sta) (v:=.ref p) zfs ?_
 nofun
 walk_at "q"
 nofun
 refine⟨p,(C 8),dp,_,rfl,f1,Z.c_Frame,Z.n_Frame_place,by show 4<1000;decide,?_⟩
 rw[zpH]
 have A1:=A'.setP (q:=j) hst f1
 have m1:zaK (zau r ia sa ((p,ha,aa)::fas)) H (zau r ia sa ((p,ha,aa)::fas)) (upd H p (.ins (C 8) dp (ffl f.n j ha aa))):=zaK.upd zsl
 generalize upd H p (.ins (C 8) dp (ffl f.n j ha aa))=H1 at *
 nofun
 with_reducible refine zgh (λσ H2=>σ=[some (.ref r),some (.int j),some (.ref p)]/\∃ fas2 s2,zd5 ks cr s' {f with p:=j} st s2/\zaK (zau r ia sa ((p,ha,aa)::fas)) H (zau r ia sa fas2) H2/\RunX (C 9) (C 8) (C 0) H2 r ka ia sa ks cr fas2 s2 kfp/\(s2.en=none->∃ g r,s2.st=g::r/\Wf ks cr (g::r)/\¬ g.p=((cr g.n).deeds.length:Int))) (λNX tail=>?_) ?_
 ·refine⟨λm σ H2=>σ=[some (.ref r),some (.int j),some (.ref p)]/\∃ fas2 s2,m=meaR s2/\zd5 ks cr s' {f with p:=j} st s2/\zaK (zau r ia sa ((p,ha,aa)::fas)) H (zau r ia sa fas2) H2/\RunX (C 9) (C 8) (C 0) H2 r ka ia sa ks cr fas2 s2 kfp,⟨_,rfl,_,({s' with st:={f with p:=j}::st} : Rs),rfl,⟨rfl,rfl,.inl ⟨hen,_,_,rfl,wfs,rfl⟩⟩,m1,A1⟩,?_⟩
  rintro m σ H2 ⟨rfl,fas2,s2,rfl,cm,m2,A2⟩
  obtain⟨dr2,ev2,hr2,en2⟩:=A2.ins
  have en2:=en2.none_iff
  nofun
  refine⟨r,(C 9),dr2,_,_,rfl,hr2,Z.c_Run,Z.n_Run_ending,zex,?_⟩
  nofun
  refine⟨rfl,?_⟩
  rw[en2]
  nofun
  cases he:s2.en with
  | some x=>
   dsimp only[Option.isNone]
   nofun
   exact tail _ _ ⟨rfl,_,_,cm,m2,A2,λz=>by rw[he] at z;cases z⟩
  | none=>
  obtain⟨g,r2,hs2,w2⟩:=cm.top he
  dsimp only[Option.isNone]
  nofun
  refine⟨r,dr2,_,rfl,hr2,zcf,?_⟩
  nofun
  refine⟨r,ka,ia,sa,ks,cr,fas2,s2,kfp,g,r2,rfl,A2,hs2,w2.1 g List.mem_cons_self,A2.kn.rt g.n (w2.1 g List.mem_cons_self).m,?_⟩
  by_cases hp:g.p=((cr g.n).deeds.length:Int)
  ·rw[decide_eq_true hp]
   nofun
   refine⟨λσ H3=>σ=[some (.ref r),some (.int j),some (.ref p)]/\∃ fas3 s3,meaR s3<meaR s2/\zd5 ks cr s' {f with p:=j} st s3/\zaK (zau r ia sa ((p,ha,aa)::fas)) H (zau r ia sa fas3) H3/\RunX (C 9) (C 8) (C 0) H3 r ka ia sa ks cr fas3 s3 kfp,λσ' H' ⟨e,fas3,s3,lt,z⟩=>⟨_,lt,e,fas3,s3,rfl,z⟩,?_⟩
   nofun
   refine⟨r,dr2,_,rfl,hr2,zcf,?_⟩
   nofun
   refine⟨r,ka,ia,sa,ks,cr,fas2,s2,kfp,g,r2,rfl,A2,hs2,he,w2,λH3 fas3 m3 A3=>?_⟩
   nofun
   obtain⟨c3,l3⟩:=cm.leave he hs2 hp
   exact⟨rfl,fas3,_,l3,c3,m2.trans m3,A3⟩
  ·rw[decide_eq_false hp]
   nofun
   exact tail _ _ ⟨rfl,_,_,cm,m2,A2,λ_=>⟨g,r2,hs2,w2,hp⟩⟩
 ·rintro σ H2 ⟨rfl,fas2,s2,cm,m2,A2,on⟩
  obtain⟨dr2,ev2,hr2,en2⟩:=A2.ins
  have en2:=en2.none_iff
  nofun
  refine⟨r,(C 9),dr2,_,_,rfl,hr2,Z.c_Run,Z.n_Run_ending,zex,?_⟩
  nofun
  refine⟨rfl,?_⟩
  rw[en2]
  nofun
  cases he:s2.en with
  | some x=>
   dsimp only[Option.isNone]
   nofun
   refine q H2 fas2 m2 ?_
   rw[<-cm.ended (by rw[he];intro z;cases z)]
   exact A2
  | none=>
  obtain⟨g,r2,hs2,w2,hp⟩:=on he
  dsimp only[Option.isNone]
  nofun
  refine⟨r,dr2,_,rfl,hr2,zcf,?_⟩
  nofun
  have wg:=w2.1 g List.mem_cons_self
  refine⟨r,ka,ia,sa,ks,cr,fas2,s2,kfp,g,r2,rfl,A2,hs2,he,wg,by have:=wg.pn;omega,A2.kn.rt g.n wg.m,λH3 o3 A3=>?_⟩
  nofun
  refine q H3 fas2 (m2.trans (zaK.offR o3 A3)) ?_
  rw[<-cm.stay he hs2 hp]
  exact A3
inductive Q6d (K:Fg)(C:Nat->Addr)(vs:List V)(H:Hp)(Q:VK)(E:XK):Prop
 | mk (r ka ia sa:Addr) (ks:List Int) (cr:Int->Cr) (fas:List Fa) (s:Rs) (kfp:List Addr) (g:Addr) (n a0 a1:Int):vs=[.ref r,.int n,.ref g]->RunX (C 9) (C 8) (C 0) H r ka ia sa ks cr fas s kfp->(SqL K H g [.int a0,.int a1]\/SqT K H g [.int a0,.int a1])->s.en=none->Wf ks cr (zdE n a0 a1::s.st)->s.st.length<20->(∀ H' fas',zaK (zau r ia sa fas) H (zau r ia sa fas') H'->RunX (C 9) (C 8) (C 0) H' r ka ia sa ks cr fas' (zdD cr s (zdE n a0 a1) s.st) kfp->Q .non H')->Q6d K C vs H Q E
variable (Q70:Mth CX0 P w K mg b8 (C 9) "come_to" ["self","place"] 6 (Q6f K C))
include B Z Q70 in
theorem zkm (M_Frame:Mkr P w K mg b8 "Frame" (C 8) ["self","number","asked"] 1 (Q60 K C))(F:Fun K "begin" "Run.begin" zeX f fd)(M:Meth K (C 9) "begin" f):Mth CX0 P w K mg b8 (C 9) "begin" ["self","number","given"] 7 (Q6d K C):=by
 refine⟨f,fd,M,F.ok (k:=6) zkb (λvs H Q E h=>?_) (λcdv A outer s H vs Q E hr h=>?_),F.binds λ_ _ _ _ _ _ us hl=>(by obtain⟨_,_,_,rfl⟩:=len3 hl;rfl)⟩
 ·first
  | (obtain⟨_,_,_,_,_,_,_,_,_,_,_,_,_,rfl,_⟩:=h;rfl)
 obtain⟨r,ka,ia,sa,ks,cr,fas,s',kfp,g,n,a0,a1,rfl,A',hg,hen,wfs,l20,q⟩:=h
 refine⟨_,(zaf (za1 (zl0 PySem.F.plainAttrs_list PySem.F.slot_list_append PySem.F.type_list_append zjx (zay K (pv 0) rfl) (zaE (zoD M_Frame hr rfl (zab (pv 1) (zab (pv 2) zaa))) zaa)))
   (zag (za1 (zaS Q70 Z.c_Run hr za5 (pv 0) (zam zad zaa))))),?_⟩
 obtain⟨dr,ev,hr',_⟩:=A'.ins
 have fl:=A'.fr.len
 nofun
 walk_at "q"
 nofun
 refine⟨r,(C 9),dr,_,_,rfl,hr',Z.c_Run,Z.n_Run_stack,zbQ,?_⟩
 nofun
 refine⟨tyL A'.sta,?_⟩
 nofun
 intro y dy hy hdy ndy
 have sm:Same H (upd (upd H dy (.own y)) y (.ins (C 8) dy [])):=λb o e=>by
  rw[zai (zao e hy),zai (zao e hdy)];exact e
 refine⟨y,dy,g,n,a0,a1,rfl,zac,zga sm.sq hg,λha aa H1 ha0 aa0 nha o1 hp1 hh1 haa1=>⟨rfl,?_⟩⟩
 have s1:Same H H1:=λb o e=>o1 b o (λz=>by rw[zms.mp z,hy] at e;cases e) (sm b o e)
 have ny:y≠ha/\y≠aa:=⟨λz=>(by rw[<-z,zac] at ha0;cases ha0),λz=>(by rw[<-z,zac] at aa0;cases aa0)⟩
 have A2:=A'.push (f:=zdE n a0 a1) s1 hy (sm.free ha0) (sm.free aa0) ny.1 ny.2 nha A'.kn.has hp1 hh1 haa1
 have m2:zaK (zau r ia sa fas) H (zau r ia sa ((y,ha,aa)::fas)) (upd H1 sa (.lst ((fas.reverse.map λt=>V.ref t.1)++[.ref y]))):=zaK.push s1 hy (sm.free ha0) (sm.free aa0)
 nofun
 refine i_app (s1 _ _ A'.sta) (zcq (by rw[zlm,List.length_reverse];omega)) ?_
 generalize upd H1 sa (.lst ((fas.reverse.map λt=>V.ref t.1)++[.ref y]))=H2 at *
 obtain⟨dr2,ev2,hr2,_⟩:=A2.ins
 nofun
 refine⟨r,dr2,_,rfl,hr2,zcf,?_⟩
 nofun
 refine⟨r,ka,ia,sa,ks,cr,(y,ha,aa)::fas,_,kfp,zdE n a0 a1,s'.st,0,rfl,A2,rfl,hen,wfs,λH3 fas3 m3 A3=>?_⟩
 nofun
 exact q H3 fas3 (m2.trans m3) A3
inductive Q7e (K:Fg)(vs:List V)(H:Hp)(Q:VK)(E:XK):Prop
 | mk (g:Addr) (a0 a1:Int):vs=[.ref g]->(SqL K H g [.int a0,.int a1]\/SqT K H g [.int a0,.int a1])->(∀ na H',Same H H'->H' na=some (.lst ((zeO a0 a1).map V.int))->Q (.ref na) H')->Q7e K vs H Q E
include B Z in
theorem zgy (F:Fun K "asked_numbers" "asked_numbers" zcP f fd)(m:mg "asked_numbers"=some (.ref f)):Fn P w K mg b8 "asked_numbers" ["asked"] 1 (Q7e K):=by
 refine Fn.of (k:=0) F zgv m (λ_ _ _ _ _ _ us hl=>(by obtain⟨_,rfl⟩:=len1 hl;rfl)) (λvs H Q E h=>?_) (λcdv A outer s H vs Q E hr h=>?_)
 ·first
  | (obtain⟨_,_,_,rfl,_⟩:=h;rfl)
 obtain⟨g,a0,a1,rfl,hg,q⟩:=h
 refine⟨_,(zag (zan (zaR (zam zad (zam zad (zam zad (zam zad (zaH (zav (k_ix K) (pv 0) zad) (zaH (zav (k_ix K) (pv 0) zad) (zam zad (zam zad zaa))))))))))),?_⟩
 nofun
 refine zkV hg ?_
 nofun
 refine zkW hg ?_
 nofun
 exact⟨(by walk_at "sm"),λp hp=>q _ _ (zah hp _) zac⟩
inductive Q63 (K:Fg)(C:Nat->Addr)(vs:List V)(H:Hp)(Q:VK)(E:XK):Prop
 | mk (p dx ha la va g ia0:Addr) (n a0 a1:Int) (ks:List Int) (cr:Int->Cr) (ws:List Int) (fp:List Addr) (ins:List Int):vs=[.ref p,.ref ha,.int n,.ref g,.ref ia0]->H p=some (.ins (C 9) dx [])->HAt (C 7) (C 0) H ha la va ks cr ws fp->(SqL K H g [.int a0,.int a1]\/SqT K H g [.int a0,.int a1])->SqL K H ia0 (ins.map V.int)->n.natAbs<zbm->(n∉ks->∀ H',OffA [p] H H'->E (.ref (C 3)) none H')->(n∈ks->zaM (cr n).needs (zeO a0 a1)≠none->∀ H',OffA [p] H H'->E (.ref (C 6)) none H')->(n∈ks->zaM (cr n).needs (zeO a0 a1)=none->∀ H' ka ia sa fas kfp ns,zaK [p] H (zau p ia sa fas) H'->RunX (C 9) (C 8) (C 0) H' p ka ia sa ns cr fas (zdD cr ⟨[],ins,0,none⟩ (zdE n a0 a1) []) kfp->ns.Perm ks->(∀ b∈ka::kfp,H b=none)->Q .non H')->Q63 K C vs H Q E
theorem zlM{S:List Addr}{o:HO}(h:H b=none):OffA S H (upd H b o):=(zah h o).offA
variable (Q6e:Mth CX0 P w K mg b8 (C 9) "begin" ["self","number","given"] 7 (Q6d K C))(Q7f:Fn P w K mg b8 "asked_numbers" ["asked"] 1 (Q7e K))
include B Z Q7d Q6e Q7f in
theorem zsr (Q47:Mth CX0 P w K mg b8 (C 7) "crafts" ["self"] 5 (Q46 K C))(F:Fun K "__init__" "Run.__init__" zdk f fd)(M:Mk K (C 9) f):Mkx P w K mg b8 "Run" (C 9) ["self","hall","number","given","inputs"] 8 (Q63 K C):=by
 refine⟨f,fd,M,F.okx (k:=7) zhB (λvs H Q E h=>?_) (λcdv A outer s H vs Q E hr h=>?_),F.binds λ_ _ _ _ _ _ us hl=>(by obtain⟨_,_,_,_,_,rfl⟩:=len5 hl;rfl),Z.m_Run⟩
 ·first
  | (obtain⟨_,_,_,_,_,_,_,_,_,_,_,_,_,_,_,rfl,_⟩:=h;rfl)
 obtain⟨p,dx,ha,la,va,g,ia0,n,a0,a1,ks,cr,ws,fp,ins,rfl,hp,hA,hg,hin,hn,q1,q2,q3⟩:=h
 refine⟨_,(zaf (zbG (pv 0) (zci Q47 Z.c_Hall hr za5 (pv 1)) rfl)
   (zaf (zbG (pv 0) (zcS (zlo K) rfl B.list L2.zdw (zab (pv 4) zaa)) rfl)
   (zaf (zbG (pv 0) (zaR zaa) rfl)
   (zaf (zbG (pv 0) zad rfl)
   (zaf (zbG (pv 0) zcQ rfl)
   (zaf (za4 (zgT (zem (hr_u hr) (pv 2) (zay K (pv 0) rfl))) (zag (zeH Z.e_NoCraft rfl Z.m_NoCraft rfl zfU (za0 (zly (pv 2) (by decide +kernel)) zaa))) zaA)
   (zaf (za4 (zax zky (zap Q7d hr rfl (zba (zay K (zel (hr_u hr) (zay K (pv 0) rfl) (pv 2) (λ_ _=>rfl)) rfl) (zaE (zap Q7f hr rfl (zab (pv 3) zaa)) zaa))) zcQ (zat _)) (zag (zeH Z.e_Unfit rfl Z.m_Unfit rfl zfU (za0 (zly (pv 2) (by decide +kernel)) zaa))) zaA)
   (zag (za1 (zaS Q6e Z.c_Run hr za5 (pv 0) (zab (pv 2) (zab (pv 3) zaa)))))))))))),?_⟩
 obtain⟨dh,hh⟩:=hA.ins
 nofun
 walk_at "q"
 nofun
 refine⟨ha,dh,_,rfl,hh,zcj,?_⟩
 nofun
 refine⟨ha,la,va,ks,cr,ws,fp,rfl,hA,λca H1 kvs ns F s1 ca0 hca pm so hk f0 fn fd=>?_⟩
 nofun
 have p1:=s1 _ _ hp
 refine⟨p,(C 9),dx,[],rfl,p1,Z.c_Run,Z.n_Run_known,by show 0<1000;decide,?_⟩
 have sq:∀ {H H':Hp}{fs:List (Str × V)},H p=some (.ins (C 9) dx fs)->OffA [p] H H'->Sq H H':=λ{H H' fs} e o b u eu su=>o b u (λz=>by rw[zms.mp z,e] at eu;cases eu;cases su) eu
 have o1:OffA [p] H1 (upd H1 p (.ins (C 9) dx (putF "known" (.ref ca) []))):=zbI (by simp)
 have p2:(upd H1 p (.ins (C 9) dx (putF "known" (.ref ca) []))) p=some (.ins (C 9) dx (putF "known" (.ref ca) [])):=zac
 generalize upd H1 p (.ins (C 9) dx (putF "known" (.ref ca) []))=H2 at *
 nofun
 walk_at "q"
 nofun
 refine zgI (.inl ((sq p1 o1).lst (s1.seq hin))) λia ia0'=>?_
 have nia:ia≠p:=(zao p2 ia0').symm
 nofun
 refine⟨p,(C 9),dx,_,rfl,by rw[zai nia.symm];exact p2,Z.c_Run,Z.n_Run_inputs_left,Nat.lt_of_lt_of_le (za2 (n:=1) (by decide)) (by decide),?_⟩
 have o3:OffA [p] H1 (upd (upd H2 ia (.lst (ins.map V.int))) p (.ins (C 9) dx (putF "inputs_left" (.ref ia) (putF "known" (.ref ca) [])))):=o1.trans ((zlM ia0').trans (zbI (by simp)))
 have p3:(upd (upd H2 ia (.lst (ins.map V.int))) p (.ins (C 9) dx (putF "inputs_left" (.ref ia) (putF "known" (.ref ca) [])))) p=some (.ins (C 9) dx (putF "inputs_left" (.ref ia) (putF "known" (.ref ca) []))):=zac
 have i3:(upd (upd H2 ia (.lst (ins.map V.int))) p (.ins (C 9) dx (putF "inputs_left" (.ref ia) (putF "known" (.ref ca) [])))) ia=some (.lst (ins.map V.int)):=by rw[zai nia,zac]
 generalize upd (upd H2 ia (.lst (ins.map V.int))) p (.ins (C 9) dx (putF "inputs_left" (.ref ia) (putF "known" (.ref ca) [])))=H3 at *
 nofun
 walk_at "q"
 nofun
 refine⟨(by walk_at "sm"),λsa sa0=>?_⟩
 have nsa:sa≠p:=(zao p3 sa0).symm
 have nis:ia≠sa:=zao i3 sa0
 nofun
 refine⟨p,(C 9),dx,_,rfl,by rw[zai nsa.symm];exact p3,Z.c_Run,Z.n_Run_stack,Nat.lt_of_lt_of_le (za2 (n:=2) (za2 (n:=1) (by decide))) (by decide),?_⟩
 nofun
 walk_at "q"
 nofun
 refine⟨p,(C 9),dx,_,rfl,zac,Z.c_Run,Z.n_Run_steps_done,Nat.lt_of_lt_of_le (za2 (n:=3) (za2 (n:=2) (za2 (n:=1) (by decide)))) (by decide),?_⟩
 nofun
 walk_at "q"
 nofun
 refine⟨p,(C 9),dx,_,rfl,zac,Z.c_Run,Z.n_Run_ending,Nat.lt_of_lt_of_le (za2 (n:=4) (za2 (n:=3) (za2 (n:=2) (za2 (n:=1) (by decide))))) (by decide),?_⟩
 rw[zqD]
 generalize hH6:upd (upd (upd (upd H3 sa (.lst [])) p (.ins (C 9) dx (putF "stack" (.ref sa) (putF "inputs_left" (.ref ia) (putF "known" (.ref ca) []))))) p (.ins (C 9) dx (putF "steps_done" (.int 0) (putF "stack" (.ref sa) (putF "inputs_left" (.ref ia) (putF "known" (.ref ca) [])))))) p (.ins (C 9) dx (rfls ca ia sa 0 .non))=H6
 have o6:OffA [p] H1 H6:=by
  rw[<-hH6]
  exact o3.trans ((zlM sa0).trans ((zbI (by simp)).trans ((zbI (by simp)).trans (zbI (by simp)))))
 have p6:H6 p=some (.ins (C 9) dx (rfls ca ia sa 0 .non)):=by rw[<-hH6,zac]
 have i6:H6 ia=some (.lst (ins.map V.int)):=by rw[<-hH6,zai nia,zai nia,zai nia,zai nis];exact i3
 have s6:H6 sa=some (.lst []):=by rw[<-hH6,zai nsa,zai nsa,zai nsa,zac]
 clear hH6
 have ia1:H1 ia=none:=by
  cases e:H1 ia with
  | none=>rfl
  | some o=>rw[o1 ia o (by simp[nia]) e] at ia0';cases ia0'
 have sa1:H1 sa=none:=by
  cases e:H1 sa with
  | none=>rfl
  | some o=>rw[o3 sa o (by simp[nsa]) e] at sa0;cases sa0
 have nF:∀ m∈ns,∀ b∈F m,b≠p/\∃ o,H1 b=some o:=λm hm b hb=>by
  obtain⟨v,_,p',_,hC⟩:=hk.2.2 m hm
  exact⟨λz=>(by have:=f0 m hm b hb;rw[z,hp] at this;cases this),hC.has b hb⟩
 have tk:Tups H1 H6:=λb xs e=>o6 b _ (λz=>by rw[zms.mp z,p1] at e;cases e) e
 have kn:KnownAt (C 0) H6 ca ns cr (ns.flatMap F):=⟨⟨kvs,o6 _ _ (by simp[zao hp ca0 |>.symm]) hca,hk.1,hk.2.1,λm hm=>by
  obtain⟨v,e,p',rfl,hC⟩:=hk.2.2 m hm
  exact⟨_,e,p',F m,rfl,hC.frame tk λb hb o ho=>o6 b o (by simp[(nF m hm b hb).1]) ho,λb hb=>List.mem_flatMap.mpr ⟨m,hm,hb⟩⟩⟩,λm hm=>hA.rt m (pm.mem_iff.mp hm),λb hb=>by
   obtain⟨m,hm,hb⟩:=List.mem_flatMap.mp hb
   obtain⟨nb,o,ho⟩:=nF m hm b hb
   exact⟨o,o6 b o (by simp[nb]) ho⟩⟩
 have A6:RunX (C 9) (C 8) (C 0) H6 p ca ia sa ns cr [] ⟨[],ins,0,none⟩ (ns.flatMap F):=by
  refine⟨⟨dx,.non,p6,rfl⟩,kn,i6,s6,trivial,?_,λb hb=>?_⟩
  ·simp only[zau,fasL,List.flatMap_nil,List.nodup_cons,List.mem_cons,List.not_mem_nil,or_false,not_or,not_false_eq_true,List.nodup_nil,and_true]
   exact⟨⟨nia.symm,nsa.symm⟩,nis⟩
  ·intro z
   obtain⟨m,hm,z⟩:=List.mem_flatMap.mp z
   obtain⟨nb,o,ho⟩:=nF m hm b z
   simp only[zau,fasL,List.flatMap_nil,List.mem_cons,List.not_mem_nil,or_false] at hb
   rcases hb with rfl | rfl | rfl
   ·exact nb rfl
   ·rw[ia1] at ho;cases ho
   ·rw[sa1] at ho;cases ho
 have o06:OffA [p] H H6:=s1.offA.trans o6
 have m06:zaK [p] H (zau p ia sa []) H6:=⟨o06,λb hb=>by
  simp only[zau,fasL,List.flatMap_nil,List.mem_cons,List.not_mem_nil,or_false] at hb
  rcases hb with rfl | rfl | rfl
  ·exact .inl (by simp)
  ·exact .inr (s1.free ia1)
  ·exact .inr (s1.free sa1),zlJ o06 λb hb=>by rw[zms.mp hb];exact⟨_,p6⟩⟩
 nofun
 walk_at "q"
 nofun
 refine⟨p,(C 9),dx,_,_,rfl,p6,Z.c_Run,Z.n_Run_known,zfr,?_⟩
 by_cases hm:n∈ks
 ·have hm':n∈ns:=pm.mem_iff.mpr hm
  obtain⟨kvs',o,g1,e1,e2,e3⟩:=kn.craft hm'
  refine⟨ca,some (.ref o),rfl,by rw[<-e2];exact DGet.k (k:=.inl n) e1,?_⟩
  dsimp only[Option.isSome]
  nofun
  have rtm:=kn.rt n hm'
  obtain⟨dc,y1,y2,b3,b4,dvs,nvs,ho,hL,_⟩:=e3.out (K:=K) rtm.nine.d9
  have hg6:=zga ((s1.sq).trans (sq p1 o6)) hg
  nofun
  walk_at "q"
  nofun
  refine⟨p,(C 9),dx,_,_,rfl,p6,Z.c_Run,Z.n_Run_known,zfr,?_⟩
  nofun
  refine⟨ca,.ref o,rfl,by rw[<-e2];exact DGet.k (k:=.inl n) e1,?_⟩
  nofun
  refine⟨o,(C 0),dc,_,_,rfl,ho,Z.c_Craft,Z.n_Craft_needs,zcn _ _ _ _,?_⟩
  nofun
  refine⟨g,a0,a1,rfl,hg6,λna H7 s7 hna=>?_⟩
  nofun
  refine znZ (hL.same s7) (SqL.of hna) rfl rtm.sm.1 λH8 s8=>?_
  have s68:=s7.trans s8
  nofun
  cases hb:zaM (cr n).needs (zeO a0 a1) with
  | some i=>
   refine⟨rfl,?_⟩
   show ∃ k,V.bl (!decide (V.int (i:Int)=V.non))=.bl k/\_
   rw[show decide (V.int (i:Int)=V.non)=false from decide_eq_false (by intro z;cases z)]
   nofun
   refine⟨hn,λz=>?_⟩
   nofun
   exact⟨(by walk_at "sm"),q2 hm (by rw[hb];intro z;cases z) _ (o06.trans s68.offA)⟩
  | none=>
   refine⟨rfl,?_⟩
   show ∃ k,V.bl (!decide (V.non=V.non))=.bl k/\_
   rw[ziR]
   nofun
   refine⟨p,dx,_,rfl,s68 _ _ p6,zcf,?_⟩
   nofun
   refine⟨p,ca,ia,sa,ns,cr,[],_,_,g,n,a0,a1,rfl,A6.same s68,zga s68.sq hg6,rfl,⟨λk hk=>?_,λk hk=>by cases hk⟩,by show 0<20;decide,λH9 fas9 m9 A9=>?_⟩
   ·rw[zms.mp hk]
    exact⟨hm',by show (0:Int)<=0;omega,by show (0:Int)<=_;omega,rfl,rfl⟩
   ·nofun
    refine q3 hm hb H9 ca ia sa fas9 _ ns (m06.trans ((zaK.same s68).trans m9)) A9 pm λb hb=>?_
    rcases List.mem_cons.mp hb with rfl | hb
    ·exact ca0
    ·obtain⟨m,hm,hb⟩:=List.mem_flatMap.mp hb
     exact f0 m hm b hb
 ·obtain⟨kvs',e1,e2⟩:=kn.no (λz=>hm (pm.mem_iff.mp z))
  refine⟨ca,none,rfl,by rw[<-e2];exact DGet.k (k:=.inl n) e1,?_⟩
  dsimp only[Option.isSome]
  nofun
  refine⟨hn,λz=>?_⟩
  nofun
  exact⟨(by walk_at "sm"),q1 hm _ o06⟩
inductive Q68 (K:Fg)(C:Nat->Addr)(vs:List V)(H:Hp)(Q:VK)(E:XK):Prop
 | mk (r ka ia sa:Addr) (ks:List Int) (cr:Int->Cr) (fas:List Fa) (s:Rs) (kfp:List Addr) (f:Fm) (st:List Fm) (hd x:Int):vs=[.ref r,.int hd,.int x]->RunX (C 9) (C 8) (C 0) H r ka ia sa ks cr fas s kfp->s.st=f::st->s.en=none->(0<=hd/\hd<=3)->Wf ks cr (f::st)->f.p<((cr f.n).deeds.length:Int)->(∀ H' fas',zaK (zau r ia sa fas) H (zau r ia sa fas') H'->RunX (C 9) (C 8) (C 0) H' r ka ia sa ks cr fas' (putR cr s f st hd x) kfp->Q .non H')->Q68 K C vs H Q E
include B Z Q70 in
theorem zmu (F:Fun K "put" "Run.put" zgQ f fd)(M:Meth K (C 9) "put" f):Mth CX0 P w K mg b8 (C 9) "put" ["self","hand","number"] 7 (Q68 K C):=by
 refine⟨f,fd,M,F.ok (k:=6) ziv (λvs H Q E h=>?_) (λcdv A outer s H vs Q E hr h=>?_),F.binds λ_ _ _ _ _ _ us hl=>(by obtain⟨_,_,_,rfl⟩:=len3 hl;rfl)⟩
 ·first
  | (obtain⟨_,_,_,_,_,_,_,_,_,_,_,_,_,rfl,_⟩:=h;rfl)
 obtain⟨r,ka,ia,sa,ks,cr,fas,s',kfp,f,st,hd,x,rfl,A',hst,hen,hh,wfs,hp,q⟩:=h
 refine⟨_,(zaf (zas (i:=3) ziv.nd (zav (k_ix K) (zay K (pv 0) rfl) (zcR zbJ zad)))
   (zaf (zld (pv 2) (zlc (zay K (pv 3) rfl) (pv 1) zgD))
   (zag (za1 (zaS Q70 Z.c_Run hr za5 (pv 0) (zb7 (zaQ (zaX K) (zay K (pv 3) rfl) zad) zaa)))))),?_⟩
 have wf:=wfs.1 f List.mem_cons_self
 have e4:=wf.h4
 obtain⟨dr,ev,hr',_⟩:=A'.ins
 have fr:=A'.fr
 rw[hst] at fr
 cases fas with
 | nil=>exact fr.elim
 | cons t fas=>
 obtain⟨p,ha,aa⟩:=t
 obtain⟨⟨dp,f1⟩,f2,f3,f4⟩:=fr
 nofun
 walk_at "q"
 nofun
 refine⟨r,(C 9),dr,_,_,rfl,hr',Z.c_Run,Z.n_Run_stack,zbQ,?_⟩
 nofun
 refine zbX (SqL.of A'.sta) (v:=.ref p) zfs ?_
 nofun
 walk_at "q"
 nofun
 refine⟨p,(C 8),dp,_,_,rfl,f1,Z.c_Frame,Z.n_Frame_hands,zca _ _ _ _,?_⟩
 nofun
 refine zln f2 (j:=hd.toNat) (zns hh.1 (by rw[zlm];omega)) ?_
 rw[ziZ]
 have A1:=A'.setH (xs:=f.hands.set hd.toNat x) hst
 obtain⟨⟨dp1,g1'⟩,_⟩:=A1.fr
 obtain⟨dr1,ev1,hr1,_⟩:=A1.ins
 have m1:zaK (zau r ia sa ((p,ha,aa)::fas)) H (zau r ia sa ((p,ha,aa)::fas)) (upd H ha (.lst ((f.hands.set hd.toNat x).map V.int))):=zaK.upd zqJ
 generalize upd H ha (.lst ((f.hands.set hd.toNat x).map V.int))=H1 at *
 nofun
 refine⟨r,dr1,_,rfl,hr1,zcf,?_⟩
 nofun
 refine⟨p,(C 8),dp1,_,_,rfl,g1',Z.c_Frame,Z.n_Frame_place,zcI _ _ _ _,?_⟩
 nofun
 refine⟨r,ka,ia,sa,ks,cr,(p,ha,aa)::fas,_,kfp,{f with hands:=f.hands.set hd.toNat x},st,f.p+1,rfl,A1,rfl,hen,wfs.top ⟨wf.m,by have:=wf.p0;show 0<=f.p+1;omega,by show f.p+1<=((cr f.n).deeds.length:Int);omega,by show (f.hands.set hd.toNat x).length=4;rw[List.length_set];exact e4,wf.a2⟩,λH2 fas2 m2 A2=>?_⟩
 nofun
 exact q H2 fas2 (m1.trans m2) A2
inductive Q6a (K:Fg)(C:Nat->Addr)(vs:List V)(H:Hp)(Q:VK)(E:XK):Prop
 | mk (r ka ia sa:Addr) (ks:List Int) (cr:Int->Cr) (fas:List Fa) (s:Rs) (kfp:List Addr) (f:Fm) (st:List Fm) (hd lo hi:Int):vs=[.ref r,.int hd,.int lo,.int hi]->RunX (C 9) (C 8) (C 0) H r ka ia sa ks cr fas s kfp->s.st=f::st->s.en=none->(0<=hd/\hd<=3)->Wf ks cr (f::st)->f.p<((cr f.n).deeds.length:Int)->(∀ H' fas',zaK (zau r ia sa fas) H (zau r ia sa fas') H'->RunX (C 9) (C 8) (C 0) H' r ka ia sa ks cr fas' (zfW cr ks s f st (.draw hd lo hi)) kfp->Q .non H')->Q6a K C vs H Q E
variable (Q69:Mth CX0 P w K mg b8 (C 9) "put" ["self","hand","number"] 7 (Q68 K C))
include B Z Q69 in
theorem zk7 (F:Fun K "draw" "Run.draw" zfK f fd)(M:Meth K (C 9) "draw" f):Mth CX0 P w K mg b8 (C 9) "draw" ["self","hand","low","high"] 8 (Q6a K C):=by
 refine⟨f,fd,M,F.ok (k:=7) zhC (λvs H Q E h=>?_) (λcdv A outer s H vs Q E hr h=>?_),F.binds λ_ _ _ _ _ _ us hl=>(by obtain⟨_,_,_,_,rfl⟩:=len4 hl;rfl)⟩
 ·first
  | (obtain⟨_,_,_,_,_,_,_,_,_,_,_,_,_,_,rfl,_⟩:=h;rfl)
 obtain⟨r,ka,ia,sa,ks,cr,fas,s',kfp,f,st,hd,lo,hi,rfl,A',hst,hen,hh,wfs,hp,q⟩:=h
 refine⟨_,(zaf (za4 (zgf (zqv K (zay K (pv 0) rfl))) (zaf (zbG (pv 0) (zdu (zam zbi zaa)) rfl)
   (zag zmE)) zaA)
   (zaf (zas (i:=4) zhC.nd (zl0 PySem.F.plainAttrs_list PySem.F.slot_list_pop PySem.F.type_list_pop zoi (zay K (pv 0) rfl) (zam zad zaa)))
   (zag (za4 (zoa zlQ zlQ (pv 2) (pv 4) (pv 3)) (zag (za1 (zaS Q69 Z.c_Run hr za5 (pv 0) (zab (pv 1) (zab (pv 4) zaa))))) (zag (zbG (pv 0) (zdu (zam zbi zaa)) rfl)))))),?_⟩
 obtain⟨dr,ev,hr',_⟩:=A'.ins
 have inp:=A'.inp
 unfold zfW at q
 nofun
 walk_at "q"
 nofun
 refine⟨r,(C 9),dr,_,_,rfl,hr',Z.c_Run,Z.n_Run_inputs_left,zj0,?_⟩
 refine znu (SqL.of inp) ?_
 cases hin:s'.ins with
 | nil=>
  rw[hin] at q inp
  dsimp only at q
  rw[show (!(([]:List Int).map V.int).isEmpty)=false from rfl]
  nofun
  walk_at "q"
  nofun
  refine⟨(by walk_at "sm"),λT hT=>?_⟩
  have t4:=zah hT (.tup [V.str "dry"])
  nofun
  refine⟨r,(C 9),dr,_,rfl,t4 _ _ hr',Z.c_Run,Z.n_Run_ending,by show 5<1000;decide,?_⟩
  rw[zcX]
  nofun
  have z:=(A'.same t4).setR (k':=s'.k) (en':=some [V.str "dry"]) (t4 _ _ hr') ⟨T,rfl,zac⟩
  rw[hin] at z
  exact q _ fas ((zaK.same t4).trans (zaK.upd ziu)) z
 | cons x rs=>
 rw[hin] at q inp
 dsimp only at q
 rw[zmc] at inp
 rw[show (!((x::rs).map V.int).isEmpty)=true from rfl]
 nofun
 walk_at "q"
 nofun
 refine⟨r,(C 9),dr,_,_,rfl,hr',Z.c_Run,Z.n_Run_inputs_left,zj0,?_⟩
 nofun
 refine⟨tyL inp,?_⟩
 nofun
 refine zsc inp ?_
 have A1:=A'.setIn (xs:=rs)
 have m1:zaK (zau r ia sa fas) H (zau r ia sa fas) (upd H ia (.lst (rs.map V.int))):=zaK.upd zsm
 generalize upd H ia (.lst (rs.map V.int))=H1 at *
 obtain⟨dr1,ev1,hr1,_⟩:=A1.ins
 have bad:¬ (lo<=x/\x<=hi)->∀ T,H1 T=none->Q .non (upd (upd H1 T (.tup [V.str "stray"])) r (.ins (C 9) dr1 (rfls ka ia sa s'.k (.ref T)))):=λnb T hT=>by
  rw[if_neg nb] at q
  have t4:=zah hT (.tup [V.str "stray"])
  exact q _ fas (m1.trans ((zaK.same t4).trans (zaK.upd ziu))) ((A1.same t4).setR (k':=s'.k) (en':=some [V.str "stray"]) (t4 _ _ hr1) ⟨T,rfl,zac⟩)
 nofun
 by_cases h1:lo<=x
 ·rw[decide_eq_true h1]
  nofun
  by_cases h2:x<=hi
  ·rw[decide_eq_true h2]
   rw[if_pos ⟨h1,h2⟩] at q
   nofun
   refine⟨r,dr1,_,rfl,hr1,zcf,?_⟩
   nofun
   refine⟨r,ka,ia,sa,ks,cr,fas,_,kfp,f,st,hd,x,rfl,A1,hst,hen,hh,wfs,hp,λH2 fas2 m2 A2=>?_⟩
   nofun
   exact q H2 fas2 (m1.trans m2) A2
  ·rw[decide_eq_false h2]
   nofun
   refine⟨(by walk_at "sm"),λT hT=>?_⟩
   nofun
   refine⟨r,(C 9),dr1,_,rfl,zah hT _ _ _ hr1,Z.c_Run,Z.n_Run_ending,by show 5<1000;decide,?_⟩
   rw[zcX]
   exact bad (λz=>h2 z.2) T hT
 ·rw[decide_eq_false h1]
  nofun
  refine⟨(by walk_at "sm"),λT hT=>?_⟩
  nofun
  refine⟨r,(C 9),dr1,_,rfl,zah hT _ _ _ hr1,Z.c_Run,Z.n_Run_ending,by show 5<1000;decide,?_⟩
  rw[zcX]
  exact bad (λz=>h1 z.1) T hT
inductive Q6b (K:Fg)(C:Nat->Addr)(vs:List V)(H:Hp)(Q:VK)(E:XK):Prop
 | mk (r ka ia sa:Addr) (ks:List Int) (cr:Int->Cr) (fas:List Fa) (s:Rs) (kfp:List Addr) (f:Fm) (st:List Fm) (la:Addr) (l:List Int):vs=[.ref r,.ref la]->RunX (C 9) (C 8) (C 0) H r ka ia sa ks cr fas s kfp->s.st=f::st->s.en=none->H la=some (.lst (l.map V.int))->l.length=9->Sm l->Wf ks cr (f::st)->f.p<((cr f.n).deeds.length:Int)->(∀ H' fas',zaK (zau r ia sa fas) H (zau r ia sa fas') H'->RunX (C 9) (C 8) (C 0) H' r ka ia sa ks cr fas' (match zaM [l] (zcH f) with
  | some i=>{s with en:=some (brk "hold" f i)}
  | none=>zdD cr s {f with p:=f.p+1} st) kfp->Q .non H')->Q6b K C vs H Q E
include B Z Q7b Q62 Q70 in
theorem zk8 (F:Fun K "hold" "Run.hold" zfL f fd)(M:Meth K (C 9) "hold" f):Mth CX0 P w K mg b8 (C 9) "hold" ["self","line"] 7 (Q6b K C):=by
 refine⟨f,fd,M,F.ok (k:=6) zhD (λvs H Q E h=>?_) (λcdv A outer s H vs Q E hr h=>?_),F.binds λ_ _ _ _ _ _ us hl=>(by obtain⟨_,_,rfl⟩:=len2 hl;rfl)⟩
 ·first
  | (obtain⟨_,_,_,_,_,_,_,_,_,_,_,_,_,rfl,_⟩:=h;rfl)
 obtain⟨r,ka,ia,sa,ks,cr,fas,s',kfp,f,st,la,l,rfl,A',hst,hen,hla,l9,lsm,wfs,hp,q⟩:=h
 refine⟨_,(zaf (zas (i:=2) zhD.nd (zav (k_ix K) (zay K (pv 0) rfl) (zcR zbJ zad)))
   (zag (za4 (zcp (zaS Q7b Z.c_Run hr za5 (pv 0) (zam zbi (zb6 (zaR (zab (pv 1) zaa)) (zaE (zci Q62 Z.c_Frame hr za5 (pv 2)) zaa))))) (zag (za1 (zaS Q70 Z.c_Run hr za5 (pv 0) (zb7 (zaQ (zaX K) (zay K (pv 2) rfl) zad) zaa)))) zaA))),?_⟩
 have wf:=wfs.1 f List.mem_cons_self
 obtain⟨dr,ev,hr',_⟩:=A'.ins
 have fr:=A'.fr
 rw[hst] at fr
 cases fas with
 | nil=>exact fr.elim
 | cons t fas=>
 obtain⟨p,ha,aa⟩:=t
 obtain⟨⟨dp,f1⟩,f2,f3,f4⟩:=fr
 nofun
 walk_at "q"
 nofun
 refine⟨r,(C 9),dr,_,_,rfl,hr',Z.c_Run,Z.n_Run_stack,zbQ,?_⟩
 nofun
 refine zbX (SqL.of A'.sta) (v:=.ref p) zfs ?_
 nofun
 refine⟨r,dr,_,rfl,hr',zcf,?_⟩
 nofun
 refine⟨(by walk_at "sm"),λb hb=>?_⟩
 have t1:=zah hb (.lst [V.ref la])
 have hb1:(upd H b (.lst [V.ref la])) b=some (.lst [V.ref la]):=zac
 generalize upd H b (.lst [V.ref la])=H1 at *
 nofun
 refine⟨p,dp,_,rfl,t1 _ _ f1,zmo,?_⟩
 nofun
 refine⟨p,dp,ha,aa,f,rfl,t1 _ _ f1,t1 _ _ f2,t1 _ _ f3,wf.h4,wf.a2,λna H2 s2 hna=>?_⟩
 have s02:=t1.trans s2
 nofun
 refine⟨r,ka,ia,sa,ks,cr,(p,ha,aa)::fas,s',kfp,"hold",b,na,[l],zcH f,f,st,rfl,A'.same s02,hst,hen,⟨_,s2 _ _ hb1,?_⟩,SqL.of hna,zdF wf,λz hz=>by rw[zms.mp hz];exact⟨l9,lsm⟩,λH3 o3 A3=>?_⟩
 ·show Reps K H2 [nums l] [.ref la]
  unfold Reps
  exact⟨_,_,rfl,zbd.mpr ⟨la,rfl,SqL.of (s02 _ _ hla)⟩,by unfold Reps;rfl⟩
 have m3:zaK (zau r ia sa ((p,ha,aa)::fas)) H (zau r ia sa ((p,ha,aa)::fas)) H3:=(zaK.same s02).trans (zaK.offR o3 A3)
 cases hb:zaM [l] (zcH f) with
 | some i=>
  rw[hb] at q A3
  dsimp only[Option.isNone]
  nofun
  exact q H3 _ m3 A3
 | none=>
 rw[hb] at q A3
 have A3:RunX (C 9) (C 8) (C 0) H3 r ka ia sa ks cr ((p,ha,aa)::fas) s' kfp:=by
  rw[<-Rs.quiet hen];exact A3
 dsimp only[Option.isNone]
 nofun
 obtain⟨dr3,ev3,hr3,_⟩:=A3.ins
 have fr3:=A3.fr
 rw[hst] at fr3
 obtain⟨⟨dp3,k1⟩,_⟩:=fr3
 refine⟨r,dr3,_,rfl,hr3,zcf,?_⟩
 nofun
 refine⟨p,(C 8),dp3,_,_,rfl,k1,Z.c_Frame,Z.n_Frame_place,zcI _ _ _ _,?_⟩
 nofun
 refine⟨r,ka,ia,sa,ks,cr,(p,ha,aa)::fas,s',kfp,f,st,f.p+1,rfl,A3,hst,hen,wfs.top ⟨wf.m,by have:=wf.p0;show 0<=f.p+1;omega,by show f.p+1<=((cr f.n).deeds.length:Int);omega,wf.h4,wf.a2⟩,λH4 fas4 m4 A4=>?_⟩
 nofun
 exact q H4 fas4 (m3.trans m4) A4
inductive Q6c (K:Fg)(C:Nat->Addr)(vs:List V)(H:Hp)(Q:VK)(E:XK):Prop
 | mk (r ka ia sa:Addr) (ks:List Int) (cr:Int->Cr) (fas:List Fa) (s:Rs) (kfp:List Addr) (f:Fm) (st:List Fm) (g:Addr) (m a0 a1:Int):vs=[.ref r,.int m,.ref g]->RunX (C 9) (C 8) (C 0) H r ka ia sa ks cr fas s kfp->s.st=f::st->s.en=none->(SqL K H g [.int a0,.int a1]\/SqT K H g [.int a0,.int a1])->Wf ks cr (f::st)->zis cr f->st.length<100->(∀ H' fas',zaK (zau r ia sa fas) H (zau r ia sa fas') H'->RunX (C 9) (C 8) (C 0) H' r ka ia sa ks cr fas' (zqL cr ks s f st m a0 a1) kfp->Q .non H')->Q6c K C vs H Q E
include B Z Q7b Q6e Q7f in
theorem zk9 (F:Fun K "call" "Run.call" zfM f fd)(M:Meth K (C 9) "call" f):Mth CX0 P w K mg b8 (C 9) "call" ["self","number","given"] 8 (Q6c K C):=by
 refine⟨f,fd,M,F.ok (k:=7) zk0 (λvs H Q E h=>?_) (λcdv A outer s H vs Q E hr h=>?_),F.binds λ_ _ _ _ _ _ us hl=>(by obtain⟨_,_,_,rfl⟩:=len3 hl;rfl)⟩
 ·first
  | (obtain⟨_,_,_,_,_,_,_,_,_,_,_,_,_,_,_,rfl,_⟩:=h;rfl)
 obtain⟨r,ka,ia,sa,ks,cr,fas,s',kfp,f,st,g,m,a0,a1,rfl,A',hst,hen,hg,wfs,hc,l100,q⟩:=h
 refine⟨_,(zag (za4 (zgT (zem (hr_u hr) (pv 1) (zay K (pv 0) rfl))) (zag (zbG (pv 0) (zdu (zam zbi zaa)) rfl)) (zag (za4 (zax zrc (zaw (zdV K) rfl B.len L2.boot_len (zba (zay K (pv 0) rfl) zaa)) (za9 rfl B.c_MOST_FRAMES) (zat _)) (zag (zbG (pv 0) (zdu (zam zbi zaa)) rfl)) (zag (za4 (zcp (zaS Q7b Z.c_Run hr za5 (pv 0) (zam zbi (zba (zay K (zel (hr_u hr) (zay K (pv 0) rfl) (pv 1) (λ_ _=>rfl)) rfl) (zaE (zap Q7f hr rfl (zab (pv 2) zaa)) zaa))))) (zag (za1 (zaS Q6e Z.c_Run hr za5 (pv 0) (zab (pv 1) (zab (pv 2) zaa))))) zaA)))))),?_⟩
 obtain⟨dr,ev,hr',_⟩:=A'.ins
 have fl:=A'.fr.len
 rw[hst,List.length_cons] at fl
 unfold zqL at q
 have sete:∀ (x:List V) T,H T=none->(∀ H' fas',zaK (zau r ia sa fas) H (zau r ia sa fas') H'->RunX (C 9) (C 8) (C 0) H' r ka ia sa ks cr fas' {s' with en:=some x} kfp->Q .non H')->Q .non (upd (upd H T (.tup x)) r (.ins (C 9) dr (rfls ka ia sa s'.k (.ref T)))):=λx T hT q=>by
  have t4:=zah hT (.tup x)
  exact q _ fas ((zaK.same t4).trans (zaK.upd ziu)) ((A'.same t4).setR (k':=s'.k) (en':=some x) (t4 _ _ hr') ⟨T,rfl,zac⟩)
 nofun
 refine⟨r,(C 9),dr,_,_,rfl,hr',Z.c_Run,Z.n_Run_known,zfr,?_⟩
 by_cases hm:m∈ks
 ·rw[if_neg (λz=>z hm)] at q
  obtain⟨kvs,o,g1,e1,e2,e3⟩:=A'.kn.craft hm
  refine⟨ka,some (.ref o),rfl,by rw[<-e2];exact DGet.k (k:=.inl m) e1,?_⟩
  dsimp only[Option.isSome]
  nofun
  refine⟨r,(C 9),dr,_,_,rfl,hr',Z.c_Run,Z.n_Run_stack,zbQ,?_⟩
  nofun
  refine zer (.inl (SqL.of A'.sta)) ?_
  nofun
  rw[zlm,List.length_reverse,<-fl]
  by_cases h20:20<=(f::st).length
  ·rw[if_pos h20] at q
   rw[List.length_cons] at h20
   rw[decide_eq_true (show (20:Int)<=((st.length+1:Nat):Int) by omega)]
   nofun
   refine⟨(by walk_at "sm"),λT hT=>?_⟩
   nofun
   refine⟨r,(C 9),dr,_,rfl,zah hT _ _ _ hr',Z.c_Run,Z.n_Run_ending,by show 5<1000;decide,?_⟩
   rw[zcX]
   exact sete _ T hT q
  ·rw[if_neg h20] at q
   rw[List.length_cons] at h20
   rw[decide_eq_false (show ¬ (20:Int)<=((st.length+1:Nat):Int) by omega)]
   have rtm:=A'.kn.rt m hm
   obtain⟨dx,y1,y2,b3,b4,dvs,nvs,ho,hL,_⟩:=e3.out (K:=K) rtm.nine.d9
   nofun
   refine⟨r,dr,_,rfl,hr',zcf,?_⟩
   nofun
   refine⟨r,(C 9),dr,_,_,rfl,hr',Z.c_Run,Z.n_Run_known,zfr,?_⟩
   nofun
   refine⟨ka,.ref o,rfl,by rw[<-e2];exact DGet.k (k:=.inl m) e1,?_⟩
   nofun
   refine⟨o,(C 0),dx,_,_,rfl,ho,Z.c_Craft,Z.n_Craft_needs,zcn _ _ _ _,?_⟩
   nofun
   refine⟨g,a0,a1,rfl,hg,λna H1 s1 hna=>?_⟩
   nofun
   refine⟨r,ka,ia,sa,ks,cr,fas,s',kfp,"needs",y1,na,_,zeO a0 a1,f,st,rfl,A'.same s1,hst,hen,hL.same s1,SqL.of hna,rfl,rtm.sm.1,λH2 o2 A2=>?_⟩
   have m2:zaK (zau r ia sa fas) H (zau r ia sa fas) H2:=(zaK.same s1).trans (zaK.offR o2 A2)
   cases hb:zaM (cr m).needs (zeO a0 a1) with
   | some i=>
    rw[hb] at q A2
    dsimp only[Option.isNone]
    nofun
    exact q H2 _ m2 A2
   | none=>
    rw[hb] at q A2
    have A2:RunX (C 9) (C 8) (C 0) H2 r ka ia sa ks cr fas s' kfp:=by
     rw[<-Rs.quiet hen];exact A2
    obtain⟨dr2,ev2,hr2,_⟩:=A2.ins
    dsimp only[Option.isNone]
    nofun
    refine⟨r,dr2,_,rfl,hr2,zcf,?_⟩
    nofun
    have hg2:SqL K H2 g [.int a0,.int a1]\/SqT K H2 g [.int a0,.int a1]:=by
     refine zga (λb o e so=>?_) hg
     refine o2 b o (λz=>?_) (s1 b o e)
     rw[zms.mp z,hr'] at e
     cases e
     cases so
    refine⟨r,ka,ia,sa,ks,cr,fas,s',kfp,g,m,a0,a1,rfl,A2,hg2,hen,⟨λk hk=>?_,λk hk=>?_⟩,by rw[hst,List.length_cons];omega,λH3 fas3 m3 A3=>?_⟩
    ·rcases List.mem_cons.mp hk with rfl | hk
     ·exact⟨hm,by show (0:Int)<=0;omega,by show (0:Int)<=_;omega,rfl,rfl⟩
     ·rw[hst] at hk;exact wfs.1 k hk
    ·rw[List.tail_cons,hst] at hk
     rcases List.mem_cons.mp hk with rfl | hk
     ·exact hc
     ·exact wfs.2 k hk
    ·nofun
     rw[hst] at A3
     exact q H3 fas3 (m2.trans m3) A3
 ·rw[if_pos hm] at q
  obtain⟨kvs,e1,e2⟩:=A'.kn.no hm
  refine⟨ka,none,rfl,by rw[<-e2];exact DGet.k (k:=.inl m) e1,?_⟩
  dsimp only[Option.isSome]
  nofun
  refine⟨(by walk_at "sm"),λT hT=>?_⟩
  nofun
  refine⟨r,(C 9),dr,_,rfl,zah hT _ _ _ hr',Z.c_Run,Z.n_Run_ending,by show 5<1000;decide,?_⟩
  rw[zcX]
  exact sete _ T hT q
theorem zlN(h9:l.length=9)(sm:Sm l)(h1:H la=some (.lst (l.map V.int)))(h2:H na=some (.lst (ns.map V.int)))(h3:ns.length=8)(q:∀ H',Same H H'->Q (.int (zdz l ns)) H'):zgN K [.ref la,.ref na] H Q E:=by
 cases l with
 | nil=>simp at h9
 | cons c fs=>
 refine⟨la,na,c,fs,ns,rfl,SqL.of h1,SqL.of h2,by simpa using h9,h3,znK sm,λH' s=>?_⟩
 rw[<-ze6]
 exact q H' s
theorem zpb(h9:l.length=9)(sm:Sm l)(h1:H la=some (.lst (l.map V.int)))(h2:H na=some (.lst (ns.map V.int)))(h3:ns.length=8)(q:∀ H',Same H H'->Q (.bl (decide (0<=zdz l ns))) H'):zgO K [.ref la,.ref na] H Q E:=by
 cases l with
 | nil=>simp at h9
 | cons c fs=>
 refine⟨la,na,c,fs,ns,rfl,SqL.of h1,SqL.of h2,by simpa using h9,h3,znK sm,λH' s=>?_⟩
 rw[<-ze6]
 exact q H' s
inductive Q67 (K:Fg)(C:Nat->Addr)(vs:List V)(H:Hp)(Q:VK)(E:XK):Prop
 | mk (r ka ia sa:Addr) (ks:List Int) (cr:Int->Cr) (fas:List Fa) (s:Rs) (kfp:List Addr):vs=[.ref r]->RunX (C 9) (C 8) (C 0) H r ka ia sa ks cr fas s kfp->WfR ks cr s->s.en=none->s.st.length<=20->(∀ H' fas',zaK (zau r ia sa fas) H (zau r ia sa fas') H'->RunX (C 9) (C 8) (C 0) H' r ka ia sa ks cr fas' (zhS cr ks s) kfp->Q .non H')->Q67 K C vs H Q E
include B Z Q0 Q79 Q1 Q62 Q70 Q69 in
theorem zla (G_Run_draw:Mth CX0 P w K mg b8 (C 9) "draw" ["self","hand","low","high"] 8 (Q6a K C))(G_Run_hold:Mth CX0 P w K mg b8 (C 9) "hold" ["self","line"] 7 (Q6b K C))(G_Run_call:Mth CX0 P w K mg b8 (C 9) "call" ["self","number","given"] 8 (Q6c K C))(F:Fun K "step" "Run.step" zfJ f fd)(M:Meth K (C 9) "step" f):Mth CX0 P w K mg b8 (C 9) "step" ["self"] 9 (Q67 K C):=by
 refine⟨f,fd,M,F.ok (k:=8) zcY (λvs H Q E h=>?_) (λcdv A outer s H vs Q E hr h=>?_),F.binds λ_ _ _ _ _ _ us hl=>(by obtain⟨_,rfl⟩:=len1 hl;rfl)⟩
 ·first
  | (obtain⟨_,_,_,_,_,_,_,_,_,rfl,_⟩:=h;rfl)
 obtain⟨r,ka,ia,sa,ks,cr,fas,s',kfp,rfl,A',hW,hen,l20,q⟩:=h
 refine⟨_,(zaf (zbG (pv 0) (zaQ (zaX K) (zay K (pv 0) rfl) zad) rfl)
   (zaf (zas (i:=1) zcY.nd (zav (k_ix K) (zay K (pv 0) rfl) (zcR zbJ zad)))
   (zaf (zas (i:=2) zcY.nd (zav (k_ix K) (zay K (zaS Q79 Z.c_Run hr za5 (pv 0) (zab (pv 1) zaa)) rfl) (zay K (pv 1) rfl)))
   (zaf (zas (i:=3) zcY.nd (zav (k_ix K) (pv 2) zad))
   (zag (za4 (zax (k_eq K hr) (pv 3) zbi (zat _)) (zag (za1 (zaS Q69 Z.c_Run hr za5 (pv 0) (zaH (zav (k_ix K) (pv 2) zad) (zaE (zap Q0 hr rfl (zaH (zav (k_ix K) (pv 2) zad) (zaE (zci Q62 Z.c_Frame hr za5 (pv 1)) zaa))) zaa))))) (zag (za4 (zax (k_eq K hr) (pv 3) zbi (zat _)) (zag (za1 (zaS Q69 Z.c_Run hr za5 (pv 0) (zaH (zav (k_ix K) (pv 2) zad) (zb7 (zaQ ziE (zap Q0 hr rfl (zaH (zav (k_ix K) (pv 2) zad) (zaE (zci Q62 Z.c_Frame hr za5 (pv 1)) zaa))) (zav (k_ix K) (pv 2) zad)) zaa))))) (zag (za4 (zax (k_eq K hr) (pv 3) zbi (zat _)) (zag (za1 (zaS G_Run_draw Z.c_Run hr za5 (pv 0) (zaH (zav (k_ix K) (pv 2) zad) (zaH (zav (k_ix K) (pv 2) zad) (zaH (zav (k_ix K) (pv 2) zad) zaa)))))) (zag (za4 (zax (k_eq K hr) (pv 3) zbi (zat _)) (zag (za1 (zaS Q70 Z.c_Run hr za5 (pv 0) (pa_if (ziC (zcp (zap Q1 hr rfl (zaH (zav (k_ix K) (pv 2) zad) (zaE (zci Q62 Z.c_Frame hr za5 (pv 1)) zaa)))) (zav (k_ix K) (pv 2) zad) (zaQ (zaX K) (zay K (pv 1) rfl) zad)) zaa)))) (zag (za4 (zax (k_eq K hr) (pv 3) zbi (zat _)) (zag (za1 (zaS G_Run_hold Z.c_Run hr za5 (pv 0) (zaH (zav (k_ix K) (pv 2) zad) zaa)))) (zaf (zas (i:=4) zcY.nd (zav (k_ix K) (pv 2) zad))
   (zag (za1 (zaS G_Run_call Z.c_Run hr za5 (pv 0) (zaH (zav (k_ix K) (pv 2) zad) (zb6 (zaR (zaH (zav (k_ix K) (zay K (pv 1) rfl) (zav (k_ix K) (pv 4) zad)) (zaH (zav (k_ix K) (zay K (pv 1) rfl) (zav (k_ix K) (pv 4) zad)) zaa))) zaa)))))))))))))))))))),?_⟩
 obtain⟨f,st,hst,hp⟩:=hW.on hen
 have wfs:=hW.w
 rw[hst] at wfs l20
 rw[List.length_cons] at l20
 have wf:=wfs.1 f List.mem_cons_self
 have rt:=A'.kn.rt f.n wf.m
 obtain⟨dr,ev,hr',hev⟩:=A'.ins
 have fr:=A'.fr
 rw[hst] at fr
 cases fas with
 | nil=>exact fr.elim
 | cons t fas=>
 obtain⟨p,ha,aa⟩:=t
 obtain⟨⟨dp,f1⟩,f2,f3,f4⟩:=fr
 have hp0:=wf.p0
 have hlt:f.p.toNat<(cr f.n).deeds.length:=by omega
 have hd:zfq (cr f.n) f.p=some (cr f.n).deeds[f.p.toNat]:=List.getElem?_eq_getElem hlt
 have hok:=rt.parts.2.2.2.2.2 _ (List.getElem_mem hlt)
 have h9:=rt.nine.d9 _ (List.getElem_mem hlt)
 rw[zoY hst hd] at q
 nofun
 walk_at "q"
 nofun
 refine⟨r,(C 9),dr,_,_,rfl,hr',Z.c_Run,Z.n_Run_steps_done,zlI,?_⟩
 nofun
 refine⟨r,(C 9),dr,_,rfl,hr',Z.c_Run,Z.n_Run_steps_done,by show 5<1000;decide,?_⟩
 rw[zoV]
 have A1:=A'.setR (k':=s'.k+1) (en':=s'.en) hr' hev
 have m1:zaK (zau r ia sa ((p,ha,aa)::fas)) H (zau r ia sa ((p,ha,aa)::fas)) (upd H r (.ins (C 9) dr (rfls ka ia sa (s'.k+1) ev))):=zaK.upd ziu
 generalize upd H r (.ins (C 9) dr (rfls ka ia sa (s'.k+1) ev))=H1 at *
 have hst1:({s' with k:=s'.k+1,en:=s'.en} : Rs).st=f::st:=hst
 have hen1:({s' with k:=s'.k+1,en:=s'.en} : Rs).en=none:=hen
 have q:=λH' fas' m A=>q H' fas' (m1.trans m) A
 generalize ({s' with k:=s'.k+1,en:=s'.en} : Rs)=s1 at *
 clear f1 f2 f3 f4 hr' hev
 obtain⟨dr,ev,hr',hev⟩:=A1.ins
 have fr:=A1.fr
 rw[hst1] at fr
 obtain⟨⟨dp,f1⟩,f2,f3,f4⟩:=fr
 nofun
 walk_at "q"
 nofun
 refine⟨r,(C 9),dr,_,_,rfl,hr',Z.c_Run,Z.n_Run_stack,zbQ,?_⟩
 nofun
 refine zbX (SqL.of A1.sta) (v:=.ref p) zfs ?_
 nofun
 walk_at "q"
 nofun
 refine⟨r,dr,_,rfl,hr',zcf,?_⟩
 nofun
 refine⟨r,ka,ia,sa,ks,cr,(p,ha,aa)::fas,s1,kfp,p,dp,ha,aa,f,rfl,A1,f1,wf.m,λo gg hC=>?_⟩
 obtain⟨dx,y1,y2,b3,b4,dvs,nvs,ho,_,_,h3,hD,_⟩:=hC.out (K:=K) rt.nine.d9
 have ld:=hD.1
 have hx:=List.getElem?_eq_getElem (l:=dvs) (i:=f.p.toNat) (by omega)
 have hdr:=hD.2 _ _ _ hd hx
 have hat:=hd
 generalize (cr f.n).deeds[f.p.toNat]=d at *
 generalize dvs[f.p.toNat]=x at *
 nofun
 refine⟨o,(C 0),dx,_,_,rfl,ho,Z.c_Craft,Z.n_Craft_deeds,zbP _ _ _ _,?_⟩
 nofun
 refine⟨p,(C 8),dp,_,_,rfl,f1,Z.c_Frame,Z.n_Frame_place,zcI _ _ _ _,?_⟩
 nofun
 refine zbX (SqL.of h3) (v:=x) (zlx hp0 hx) ?_
 cases d with
 | set hh l=>
  obtain⟨T,ys,rfl,hT,px⟩:=zbk hdr
  obtain⟨x0,ys,rfl,e0,px⟩:=zal px
  obtain⟨x1,ys,rfl,e1,px⟩:=zal px
  obtain⟨x2,ys,rfl,e2,px⟩:=zal px
  cases zbL px
  cases zbO e0
  cases zbq e1
  obtain⟨la,rfl,hla⟩:=zcs e2
  simp only[zbK,zb8,btw,Bool.and_eq_true,decide_eq_true_eq] at hok
  nofun
  walk_at "q"
  nofun
  refine zaL (SqT.of hT) (v:=.str "set") zbs ?_
  nofun
  rw[decide_eq_true rfl]
  nofun
  refine⟨r,dr,_,rfl,hr',zcf,?_⟩
  nofun
  refine zaL (SqT.of hT) (v:=.int hh) (zaB (j:=1) rfl) ?_
  nofun
  refine zaL (SqT.of hT) (v:=.ref la) (zaB (j:=2) rfl) ?_
  nofun
  refine⟨p,dp,_,rfl,f1,zmo,?_⟩
  nofun
  refine⟨p,dp,ha,aa,f,rfl,f1,f2,f3,wf.h4,wf.a2,λna H2 s2 hna=>?_⟩
  nofun
  refine zlN (H:=H2) h9 (zjX hok.2) (s2 _ _ hla) hna (zdF wf) λH3 s3=>?_
  have s23:=s2.trans s3
  nofun
  refine⟨r,ka,ia,sa,ks,cr,(p,ha,aa)::fas,s1,kfp,f,st,hh,_,rfl,A1.same s23,hst1,hen1,hok.1,wfs,hp,λH4 fas4 m4 A4=>?_⟩
  nofun
  exact q H4 fas4 ((zaK.same s23).trans m4) A4
 | part hh l b=>
  obtain⟨T,ys,rfl,hT,px⟩:=zbk hdr
  obtain⟨x0,ys,rfl,e0,px⟩:=zal px
  obtain⟨x1,ys,rfl,e1,px⟩:=zal px
  obtain⟨x2,ys,rfl,e2,px⟩:=zal px
  obtain⟨x3,ys,rfl,e3,px⟩:=zal px
  cases zbL px
  cases zbO e0
  cases zbq e1
  cases zbq e3
  obtain⟨la,rfl,hla⟩:=zcs e2
  simp only[zbK,zb8,btw,Bool.and_eq_true,decide_eq_true_eq] at hok
  obtain⟨hok1,hok2,hok3⟩:=hok
  nofun
  walk_at "q"
  nofun
  refine zaL (SqT.of hT) (v:=.str "part") zbs ?_
  nofun
  rw[zqM]
  nofun
  rw[decide_eq_true rfl]
  nofun
  refine⟨r,dr,_,rfl,hr',zcf,?_⟩
  nofun
  refine zaL (SqT.of hT) (v:=.int hh) (zaB (j:=1) rfl) ?_
  nofun
  refine zaL (SqT.of hT) (v:=.ref la) (zaB (j:=2) rfl) ?_
  nofun
  refine⟨p,dp,_,rfl,f1,zmo,?_⟩
  nofun
  refine⟨p,dp,ha,aa,f,rfl,f1,f2,f3,wf.h4,wf.a2,λna H2 s2 hna=>?_⟩
  nofun
  refine zlN (H:=H2) h9 (zjX hok2) (s2 _ _ hla) hna (zdF wf) λH3 s3=>?_
  have s23:=s2.trans s3
  nofun
  refine zaL (SqT.of (s23 _ _ hT)) (v:=.int b) (zaB (j:=3) rfl) ?_
  nofun
  refine⟨r,ka,ia,sa,ks,cr,(p,ha,aa)::fas,s1,kfp,f,st,hh,_,rfl,A1.same s23,hst1,hen1,hok1,wfs,hp,λH4 fas4 m4 A4=>?_⟩
  nofun
  exact q H4 fas4 ((zaK.same s23).trans m4) A4
 | draw hh lo hi=>
  obtain⟨T,ys,rfl,hT,px⟩:=zbk hdr
  obtain⟨x0,ys,rfl,e0,px⟩:=zal px
  obtain⟨x1,ys,rfl,e1,px⟩:=zal px
  obtain⟨x2,ys,rfl,e2,px⟩:=zal px
  obtain⟨x3,ys,rfl,e3,px⟩:=zal px
  cases zbL px
  cases zbO e0
  cases zbq e1
  cases zbq e2
  cases zbq e3
  simp only[zbK,zb8,btw,Bool.and_eq_true,decide_eq_true_eq] at hok
  nofun
  walk_at "q"
  nofun
  refine zaL (SqT.of hT) (v:=.str "draw") zbs ?_
  nofun
  rw[znN.1]
  nofun
  rw[znN.2]
  nofun
  rw[decide_eq_true rfl]
  nofun
  refine⟨r,dr,_,rfl,hr',zcf,?_⟩
  nofun
  refine zaL (SqT.of hT) (v:=.int hh) (zaB (j:=1) rfl) ?_
  nofun
  refine zaL (SqT.of hT) (v:=.int lo) (zaB (j:=2) rfl) ?_
  nofun
  refine zaL (SqT.of hT) (v:=.int hi) (zaB (j:=3) rfl) ?_
  nofun
  refine⟨r,ka,ia,sa,ks,cr,(p,ha,aa)::fas,s1,kfp,f,st,hh,lo,hi,rfl,A1,hst1,hen1,hok.1,wfs,hp,λH4 fas4 m4 A4=>?_⟩
  nofun
  exact q H4 fas4 m4 A4
 | turn l j=>
  obtain⟨T,ys,rfl,hT,px⟩:=zbk hdr
  obtain⟨x0,ys,rfl,e0,px⟩:=zal px
  obtain⟨x1,ys,rfl,e1,px⟩:=zal px
  obtain⟨x2,ys,rfl,e2,px⟩:=zal px
  cases zbL px
  cases zbO e0
  cases zbq e2
  obtain⟨la,rfl,hla⟩:=zcs e1
  simp only[zbK,btw,Bool.and_eq_true,decide_eq_true_eq] at hok
  nofun
  walk_at "q"
  nofun
  refine zaL (SqT.of hT) (v:=.str "turn") zbs ?_
  nofun
  rw[zkX.1]
  nofun
  rw[zkX.2.1]
  nofun
  rw[zkX.2.2]
  nofun
  rw[decide_eq_true rfl]
  nofun
  refine⟨r,dr,_,rfl,hr',zcf,?_⟩
  nofun
  refine zaL (SqT.of hT) (v:=.ref la) (zaB (j:=1) rfl) ?_
  nofun
  refine⟨p,dp,_,rfl,f1,zmo,?_⟩
  nofun
  refine⟨p,dp,ha,aa,f,rfl,f1,f2,f3,wf.h4,wf.a2,λna H2 s2 hna=>?_⟩
  nofun
  refine zpb (H:=H2) h9 (zjX hok.1) (s2 _ _ hla) hna (zdF wf) λH3 s3=>?_
  have s23:=s2.trans s3
  have wj:∀ k,0<=k->k<=((cr f.n).deeds.length:Int)->Wf ks cr ({f with p:=k}::st):=λk z1 z2=>wfs.top ⟨wf.m,z1,z2,wf.h4,wf.a2⟩
  unfold zfW at q
  by_cases hb:0<=zdz l (zcH f)
  ·rw[decide_eq_true hb]
   simp only[if_pos hb] at q
   nofun
   refine zaL (SqT.of (s23 _ _ hT)) (v:=.int j) (zaB (j:=2) rfl) ?_
   nofun
   refine⟨r,ka,ia,sa,ks,cr,(p,ha,aa)::fas,s1,kfp,f,st,j,rfl,A1.same s23,hst1,hen1,wj j hok.2.1 hok.2.2,λH4 fas4 m4 A4=>?_⟩
   nofun
   exact q H4 fas4 ((zaK.same s23).trans m4) A4
  ·rw[decide_eq_false hb]
   simp only[if_neg hb] at q
   nofun
   refine⟨p,(C 8),dp,_,_,rfl,s23 _ _ f1,Z.c_Frame,Z.n_Frame_place,zcI _ _ _ _,?_⟩
   nofun
   refine⟨r,ka,ia,sa,ks,cr,(p,ha,aa)::fas,s1,kfp,f,st,f.p+1,rfl,A1.same s23,hst1,hen1,wj (f.p+1) (by omega) (by omega),λH4 fas4 m4 A4=>?_⟩
   nofun
   exact q H4 fas4 ((zaK.same s23).trans m4) A4
 | hold l=>
  obtain⟨T,ys,rfl,hT,px⟩:=zbk hdr
  obtain⟨x0,ys,rfl,e0,px⟩:=zal px
  obtain⟨x1,ys,rfl,e1,px⟩:=zal px
  cases zbL px
  cases zbO e0
  obtain⟨la,rfl,hla⟩:=zcs e1
  simp only[zbK] at hok
  nofun
  walk_at "q"
  nofun
  refine zaL (SqT.of hT) (v:=.str "hold") zbs ?_
  nofun
  rw[zi0.1]
  nofun
  rw[zi0.2.1]
  nofun
  rw[zi0.2.2.1]
  nofun
  rw[zi0.2.2.2]
  nofun
  rw[decide_eq_true rfl]
  nofun
  refine⟨r,dr,_,rfl,hr',zcf,?_⟩
  nofun
  refine zaL (SqT.of hT) (v:=.ref la) (zaB (j:=1) rfl) ?_
  nofun
  refine⟨r,ka,ia,sa,ks,cr,(p,ha,aa)::fas,s1,kfp,f,st,la,l,rfl,A1,hst1,hen1,hla,h9,zjX hok,wfs,hp,λH4 fas4 m4 A4=>?_⟩
  nofun
  exact q H4 fas4 m4 A4
 | call m g0 g1 t0 t1=>
  obtain⟨T,ys,rfl,hT,px⟩:=zbk hdr
  obtain⟨x0,ys,rfl,e0,px⟩:=zal px
  obtain⟨x1,ys,rfl,e1,px⟩:=zal px
  obtain⟨x2,ys,rfl,e2,px⟩:=zal px
  obtain⟨x3,ys,rfl,e3,px⟩:=zal px
  cases zbO e0
  cases zbq e1
  obtain⟨gv,rfl,hgv⟩:=zfn e2
  obtain⟨b0,b1,_⟩:=zit hok
  have e4:=wf.h4
  rw[zmp] at q
  nofun
  walk_at "q"
  nofun
  refine zaL (SqT.of hT) (v:=.str "call") zbs ?_
  nofun
  rw[zhw.1]
  nofun
  rw[zhw.2.1]
  nofun
  rw[zhw.2.2.1]
  nofun
  rw[zhw.2.2.2.1]
  nofun
  rw[zhw.2.2.2.2]
  nofun
  walk_at "q"
  nofun
  refine zaL (SqT.of hT) (v:=.ref gv) (zaB (j:=2) rfl) ?_
  nofun
  refine⟨r,dr,_,rfl,hr',zcf,?_⟩
  nofun
  refine zaL (SqT.of hT) (v:=.int m) (zaB (j:=1) rfl) ?_
  nofun
  refine⟨p,(C 8),dp,_,_,rfl,f1,Z.c_Frame,Z.n_Frame_hands,zca _ _ _ _,?_⟩
  nofun
  refine zaL (SqT.of hgv) (v:=.int g0) zbs ?_
  nofun
  refine zbX (SqL.of f2) (zfX b0.1 (by omega)) ?_
  nofun
  refine⟨p,(C 8),dp,_,_,rfl,f1,Z.c_Frame,Z.n_Frame_hands,zca _ _ _ _,?_⟩
  nofun
  refine zaL (SqT.of hgv) (v:=.int g1) (zaB (j:=1) rfl) ?_
  nofun
  refine zbX (SqL.of f2) (zfX b1.1 (by omega)) ?_
  nofun
  refine⟨(by walk_at "sm"),λg hg=>?_⟩
  have t2:=zah hg (.lst [V.int (f.hands.getD g0.toNat 0),.int (f.hands.getD g1.toNat 0)])
  nofun
  refine⟨r,ka,ia,sa,ks,cr,(p,ha,aa)::fas,s1,kfp,f,st,g,m,_,_,rfl,A1.same t2,hst1,hen1,.inl (SqL.of zac),wfs,⟨m,g0,g1,t0,t1,hat⟩,by omega,λH4 fas4 m4 A4=>?_⟩
  nofun
  exact q H4 fas4 ((zaK.same t2).trans m4) A4
inductive Q64 (K:Fg)(C:Nat->Addr)(vs:List V)(H:Hp)(Q:VK)(E:XK):Prop
 | mk (r ka ia sa:Addr) (ks:List Int) (cr:Int->Cr) (fas:List Fa) (s:Rs) (kfp:List Addr) (fuel:Int):vs=[.ref r,.int fuel]->RunX (C 9) (C 8) (C 0) H r ka ia sa ks cr fas s kfp->WfR ks cr s->s.st.length<=20->(∀ v H' fas',zaK (zau r ia sa fas) H (zau r ia sa fas') H'->RunX (C 9) (C 8) (C 0) H' r ka ia sa ks cr fas' (goR cr ks fuel.toNat s) kfp->zsn H' (goR cr ks fuel.toNat s).en v->WfR ks cr (goR cr ks fuel.toNat s)->(goR cr ks fuel.toNat s).st.length<=20->Q v H')->Q64 K C vs H Q E
include B Z in
theorem zn0 (G_Run_step:Mth CX0 P w K mg b8 (C 9) "step" ["self"] 9 (Q67 K C))(F:Fun K "go" "Run.go" ziA f fd)(M:Meth K (C 9) "go" f):Mth CX0 P w K mg b8 (C 9) "go" ["self","fuel"] 10 (Q64 K C):=by
 refine⟨f,fd,M,F.ok (k:=9) zj9 (λvs H Q E h=>?_) (λcdv A outer s H vs Q E hr h=>?_),F.binds λ_ _ _ _ _ _ us hl=>(by obtain⟨_,_,rfl⟩:=len2 hl;rfl)⟩
 ·first
  | (obtain⟨_,_,_,_,_,_,_,_,_,_,rfl,_⟩:=h;rfl)
 obtain⟨r,ka,ia,sa,ks,cr,fas,s',kfp,fuel,rfl,A',hW,l20,q⟩:=h
 refine⟨_,(zaf (ziD PassesOwn.never (PW.pt (zmC (zax zpS (pv 1) zad (zat _)) (zkx (zax zgV (zay K (pv 0) rfl) zcQ (zat _))))) (zaf (za1 (zci G_Run_step Z.c_Run hr za5 (pv 0)))
   (zag (zas (i:=1) zj9.nd (zaQ zjo (pv 1) zad)))))
   (zaf (za4 (zax zgV (zay K (pv 0) rfl) zcQ (zat _)) (zag (zan (zdu (zam zbi zaa)))) zaA)
   (zag (zan (zay K (pv 0) rfl))))),?_⟩
 with_reducible refine zgh (λσ H2=>∃ fu fas2,A5 (σ=[some (.ref r),some (.int fu)]) (WfR ks cr (goR cr ks fuel.toNat s')) ((goR cr ks fuel.toNat s').st.length<=20) (zaK (zau r ia sa fas) H (zau r ia sa fas2) H2) (RunX (C 9) (C 8) (C 0) H2 r ka ia sa ks cr fas2 (goR cr ks fuel.toNat s') kfp)) (λNX tail=>?_) ?_
 ·refine⟨(λm σ H2=>E3 λfu fas2 s2=>A7 (σ=[some (.ref r),some (.int fu)]) (m=fu.toNat) (goR cr ks fu.toNat s2=goR cr ks fuel.toNat s') (WfR ks cr s2) (s2.st.length<=20) (zaK (zau r ia sa fas) H (zau r ia sa fas2) H2) (RunX (C 9) (C 8) (C 0) H2 r ka ia sa ks cr fas2 s2 kfp)),⟨_,fuel,fas,s',rfl,rfl,rfl,hW,l20,zaK.refl,A'⟩,?_⟩
  rintro m σ H2 ⟨fu,fas2,s2,rfl,rfl,eg,w2,l2,m2,A2⟩
  obtain⟨dr2,ev2,hr2,en2⟩:=A2.ins
  have en2:=en2.none_iff
  nofun
  by_cases hf:0<fu
  ·rw[decide_eq_true hf]
   nofun
   refine⟨r,(C 9),dr2,_,_,rfl,hr2,Z.c_Run,Z.n_Run_ending,zex,?_⟩
   nofun
   refine⟨rfl,?_⟩
   rw[en2]
   nofun
   have e1:fu.toNat=(fu - 1).toNat+1:=by omega
   cases he:s2.en with
   | some x=>
    dsimp only[Option.isNone]
    nofun
    rw[zqA (by rw[he];intro z;cases z)] at eg
    subst eg
    exact tail _ _ ⟨fu,fas2,rfl,w2,l2,m2,A2⟩
   | none=>
    dsimp only[Option.isNone]
    nofun
    refine⟨(λσ H3=>∃ fas3 s3,A6 (σ=[some (.ref r),some (.int (fu - 1))]) (goR cr ks (fu - 1).toNat s3=goR cr ks fuel.toNat s') (WfR ks cr s3) (s3.st.length<=20) (zaK (zau r ia sa fas) H (zau r ia sa fas3) H3) (RunX (C 9) (C 8) (C 0) H3 r ka ia sa ks cr fas3 s3 kfp)),λσ' H' ⟨fas3,s3,z1,z2,z3,z4,z5,z6⟩=>⟨(fu - 1).toNat,by omega,fu - 1,fas3,s3,z1,rfl,z2,z3,z4,z5,z6⟩,?_⟩
    nofun
    walk_at "q"
    nofun
    refine⟨r,dr2,_,rfl,hr2,zcf,?_⟩
    nofun
    refine⟨r,ka,ia,sa,ks,cr,fas2,s2,kfp,rfl,A2,w2,he,l2,λH3 fas3 m3 A3=>?_⟩
    nofun
    rw[e1] at eg
    have e2:goR cr ks ((fu - 1).toNat+1) s2=goR cr ks (fu - 1).toNat (zhS cr ks s2):=by
     show (if s2.en=none then _ else _)=_
     rw[if_pos he]
    rw[e2] at eg
    exact⟨fas3,_,rfl,eg,zoT A2.kn.rt w2 he,znM l2,m2.trans m3,A3⟩
  ·rw[decide_eq_false hf]
   nofun
   have e0:fu.toNat=0:=by omega
   rw[e0] at eg
   have eg:s2=goR cr ks fuel.toNat s':=eg
   subst eg
   exact tail _ _ ⟨fu,fas2,rfl,w2,l2,m2,A2⟩
 ·rintro σ H2 ⟨fu,fas2,rfl,w2,l2,m2,A2⟩
  obtain⟨dr2,ev2,hr2,en2⟩:=A2.ins
  have en2':=en2.none_iff
  have q:=λv H' m A t=>q v H' fas2 m A t w2 l2
  generalize goR cr ks fuel.toNat s'=s2 at *
  nofun
  walk_at "q"
  nofun
  refine⟨r,(C 9),dr2,_,_,rfl,hr2,Z.c_Run,Z.n_Run_ending,zex,?_⟩
  nofun
  refine⟨rfl,?_⟩
  rw[en2']
  nofun
  cases he:s2.en with
  | some x=>
   dsimp only[Option.isNone]
   rw[he] at en2 q
   obtain⟨T,rfl,hT⟩:=en2
   nofun
   refine⟨r,(C 9),dr2,_,_,rfl,hr2,Z.c_Run,Z.n_Run_ending,zex,?_⟩
   exact q _ H2 m2 A2 ⟨T,rfl,hT⟩
  | none=>
   dsimp only[Option.isNone]
   rw[he] at q
   nofun
   refine⟨(by walk_at "sm"),λT hT=>?_⟩
   have t3:=zah hT (.tup [V.str "cut"])
   exact q _ _ (m2.trans (zaK.same t3)) (A2.same t3) ⟨T,rfl,zac⟩
inductive Q65 (K:Fg)(C:Nat->Addr)(vs:List V)(H:Hp)(Q:VK)(E:XK):Prop
 | mk (r ka ia sa:Addr) (ks:List Int) (cr:Int->Cr) (fas:List Fa) (s:Rs) (kfp:List Addr):vs=[.ref r]->RunX (C 9) (C 8) (C 0) H r ka ia sa ks cr fas s kfp->Q (.int s.k) H->Q65 K C vs H Q E
include B Z in
theorem zkn (F:Fun K "steps" "Run.steps" zeW f fd)(M:Meth K (C 9) "steps" f):Mth CX0 P w K mg b8 (C 9) "steps" ["self"] 1 (Q65 K C):=by
 refine⟨f,fd,M,F.ok (k:=0) zka (λvs H Q E h=>?_) (λcdv A outer s H vs Q E hr h=>?_),F.binds λ_ _ _ _ _ _ us hl=>(by obtain⟨_,rfl⟩:=len1 hl;rfl)⟩
 ·first
  | (obtain⟨_,_,_,_,_,_,_,_,_,rfl,_⟩:=h;rfl)
 obtain⟨r,ka,ia,sa,ks,cr,fas,s',kfp,rfl,A',q⟩:=h
 refine⟨_,(zag (zan (zay K (pv 0) rfl))),?_⟩
 obtain⟨dr,ev,hr',_⟩:=A'.ins
 nofun
 refine⟨r,(C 9),dr,_,_,rfl,hr',Z.c_Run,Z.n_Run_steps_done,zlI,?_⟩
 exact q
inductive Q80 (K:Fg)(vs:List V)(H:Hp)(Q:VK)(E:XK):Prop
 | mk (a:Addr) (k:Int) (ns:List Int):vs=[.ref a,.int k]->SqL K H a (ns.map V.int)->0<=k->Q (.int (cell ns k)) H->Q80 K vs H Q E
theorem zgp{k:Int}(h:SqL K H a (ns.map V.int))(hk:0<=k)(q:Q (.int (cell ns k)) H):Q80 K [.ref a,.int k] H Q E:=⟨a,k,ns,rfl,h,hk,q⟩
include B Z in
theorem zko (F:Fun K "_law_cell_at" "_law_cell_at" ze0 f fd)(m:mg "_law_cell_at"=some (.ref f)):Fn P w K mg b8 "_law_cell_at" ["script","k"] 1 (Q80 K):=by
 refine Fn.of (k:=0) F zkc m (λ_ _ _ _ _ _ us hl=>(by obtain⟨_,_,rfl⟩:=len2 hl;rfl)) (λvs H Q E h=>?_) (λcdv A outer s H vs Q E hr h=>?_)
 ·first
  | (obtain⟨_,_,_,rfl,_⟩:=h;rfl)
 obtain⟨a,k,ns,rfl,hS,hk,q⟩:=h
 refine⟨_,(zaf (za4 (zax zmM (pv 1) (zaw (zdV K) rfl B.len L2.boot_len (zab (pv 0) zaa)) (zat _)) (zag (zan (zav (k_ix K) (pv 0) (pv 1)))) zaA)
   (zag (zan zad))),?_⟩
 ac_rfl
 refine zer (.inl hS) ?_
 ac_rfl
 rw[zlm]
 unfold cell at q
 refine ite2 (λe=>?_) (λe=>?_)
 ·have e':k<(ns.length:Int):=of_decide_eq_true e
  ac_rfl
  have hl:k.toNat<ns.length:=by omega
  refine zbX hS (v:=.int (ns.getD k.toNat 0)) ?_ q
  have z:atI (ns.map V.int) ((k.toNat:Nat):Int)=some (.int (ns.getD k.toNat 0)):=zaB (by simp[hl])
  rwa [show ((k.toNat:Nat):Int)=k by omega] at z
 ·have e':¬ k<(ns.length:Int):=of_decide_eq_false (Bool.eq_false_iff.mpr e)
  ac_rfl
  have hl:ns.getD k.toNat 0=0:=by simp[List.getD,List.getElem?_eq_none (show ns.length<=k.toNat by omega)]
  rw[hl] at q
  exact q
def zkp (K:Fg):Sp:=λvs H Q _=>∃ i:Int,vs=[.int i]/\0<=i/\∀ v H',Same H H'->New H H' (nums (zaC i)) v->Q v H'
include B Z in
theorem zn1 (F:Fun K "_law_bare" "_law_bare" zgA f fd)(m:mg "_law_bare"=some (.ref f)):Fn P w K mg b8 "_law_bare" ["i"] 1 (zkp K):=by
 refine Fn.of (k:=0) F znO m (λ_ _ _ _ _ _ us hl=>(by obtain⟨_,rfl⟩:=len1 hl;rfl)) (λvs H Q E h=>?_) (λcdv A outer s H vs Q E hr h=>?_)
 ·first
  | (obtain⟨_,rfl,_⟩:=h;rfl)
 obtain⟨i,rfl,h0,q⟩:=h
 refine⟨_,(zag (zan (za6 rfl (COk.m (sc0:=zae zgA) (N:=["i"]) (N':=["i","k"]) (ms:=[false,true])) (zei rfl B.range (zam zad zaa)) (λ_ _ _ _ _=>(zaD (i:=1) (ndS (N:=["i","k"])))) (λ_ _ _ _ _=>zaN) (λ_ _ _ _ _=>(zcS c_int rfl B.int L2.zoA (zr2 (zbe (k_eq K hr) (pv 1) (zaQ (zaX K) (pv 0) zad) (zat _)) zaa)))))),?_⟩
 ac_rfl
 refine zhb (by decide) (by decide) ?_
 refine zaW (n:=9) zfS ((zaC i).map D.int) (by simp[zaC]) (by decide) (λj x d H1 R hj hd s1 hx hR=>?_) (λv H1 s1 n1=>?_)
 ·subst hx
  rw[<-zoQ h0,List.map_map] at hd
  have hd':=zjH hd
  subst hd'
  ac_rfl
  refine zrN ?_
  exact hR _ _ (Same.refl _) New.int
 ·ac_rfl
  exact q _ _ s1 n1
def crMM (many more:Int):Cr:=⟨[zaC 4],[],[.set 0 [more,many,0,0,0,0,0,0,0],.hold [1,0,0,0,0,0,0,0,0]],[[zaC 0],[zaC 0]]⟩
theorem dspL{F:Addr->Hp->α->Prop}{k:Addr->α}(h:∀ p H',Same H H'->H' p=some (.lst xs)->F p H' (k p))(hl:xs.length<=sizeLine:=by exact (by walk_at "sm")):xs.length<=sizeLine/\∀ p,H p=none->F p (upd H p (.lst xs)) (k p):=⟨hl,λp hp=>h p _ (zah hp _) zac⟩
theorem dspT{F:Addr->Hp->α->Prop}{k:Addr->α}(h:∀ p H',Same H H'->H' p=some (.tup xs)->F p H' (k p))(hl:xs.length<=sizeLine:=by exact (by walk_at "sm")):xs.length<=sizeLine/\∀ p,H p=none->F p (upd H p (.tup xs)) (k p):=⟨hl,λp hp=>h p _ (zah hp _) zac⟩
inductive Q86 (K:Fg)(C:Nat->Addr)(vs:List V)(H:Hp)(Q:VK)(E:XK):Prop
 | mk (many more:Int):vs=[.int many,.int more]->(∀ p H',Same H H'->zd3 K (C 0) H' p (crMM many more).needs (crMM many more).leaves (crMM many more).deeds (crMM many more).notes->Q (.ref p) H')->Q86 K C vs H Q E
theorem bare9 (i:Int):(zaC i).length=9:=by simp[zaC]
theorem zn2{more:Int}: (crMM many more).Nine:=by constructor <;> simp[crMM,zhR,bare9]
theorem zdb(h1:H a=some (.lst [V.ref b]))(h2:H b=some (.lst (l.map V.int))):Rep K H (zaF [l]) (.ref a):=by
 unfold zaF Rep
 refine⟨a,_,rfl,SqL.of h1,?_⟩
 show Reps K H [nums l] _
 unfold Reps
 exact⟨_,_,rfl,zbd.mpr ⟨_,rfl,SqL.of h2⟩,by unfold Reps;rfl⟩
theorem zdH{h:Hp}(e:h b=some (.lst [])):Rep K h (zaF []) (.ref b):=by
 unfold zaF Rep
 exact⟨b,_,rfl,SqL.of e,by unfold Reps;rfl⟩
include B Z M_Craft in
theorem zjj (Q82:Fn P w K mg b8 "_law_bare" ["i"] 1 (zkp K))(F:Fun K "_law_craft_by" "_law_craft_by" zeg f fd)(m:mg "_law_craft_by"=some (.ref f)):Fn P w K mg b8 "_law_craft_by" ["many","more"] 4 (Q86 K C):=by
 refine Fn.of (k:=3) F zfC m (λ_ _ _ _ _ _ us hl=>(by obtain⟨_,_,rfl⟩:=len2 hl;rfl)) (λvs H Q E h=>?_) (λcdv A outer s H vs Q E hr h=>?_)
 ·first
  | (obtain⟨_,_,rfl,_⟩:=h;rfl)
 obtain⟨many,more,rfl,q⟩:=h
 refine⟨_,(zaf (zas (i:=2) zfC.nd (QE.run (zbC (zcr (zet (zaz (QE.mk zbi) (zaz (QE.mk zad) (zbp (zbC (zfV (QE.mk (pv 1)) (zfV (QE.mk (pv 0)) (zaz (QE.mk zad) (zaz (QE.mk zad) (zaz (QE.mk zad) (zaz (QE.mk zad) (zaz (QE.mk zad) (zaz (QE.mk zad) (zaz (QE.mk zad) zaG)))))))))) zaG)))) (zcr (zet (zaz (QE.mk zbi) (znr (q_op (zaX K) (zbC (zaz (QE.mk zad) zaG)) (q_op zc9 (zbC (zaz (QE.mk zad) zaG)) (QE.mk zad))) zaG))) zaG)))))
   (zag (zan (zoD M_Craft hr rfl (zb6 (zaR (zaE (zap Q82 hr rfl (zam zad zaa)) zaa)) (zb6 (zaR zaa) (zab (pv 2) (zb6 (QE.run (zbC (zbp (zbC (ziY (QE.mk (zap Q82 hr rfl (zam zad zaa))) zaG)) (zbp (zbC (ziY (QE.mk (zap Q82 hr rfl (zam zad zaa))) zaG)) zaG)))) zaa)))))))),?_⟩
 walk_at "q"
 nofun
 refine dspL λb1 H1 s1 g1=>?_
 nofun
 refine dspT λt1 H2 s2 g2=>?_
 nofun
 refine dspL λb2 H3 s3 g3=>?_
 nofun
 refine dspL λb3 H4 s4 g4=>?_
 nofun
 refine .inr ⟨b3,8,[V.int 0],rfl,rfl,g4,by decide,by decide,by walk_at "sm",λb4 hb4=>?_⟩
 have s5:=zah hb4 (.lst [V.int 0,.int 0,.int 0,.int 0,.int 0,.int 0,.int 0,.int 0])
 have g5:(upd H4 b4 (.lst [V.int 0,.int 0,.int 0,.int 0,.int 0,.int 0,.int 0,.int 0])) b4=some (.lst [V.int 0,.int 0,.int 0,.int 0,.int 0,.int 0,.int 0,.int 0]):=zac
 show zl5 K _ _ (upd H4 b4 (.lst [V.int 0,.int 0,.int 0,.int 0,.int 0,.int 0,.int 0,.int 0])) _
 generalize upd H4 b4 (.lst [V.int 0,.int 0,.int 0,.int 0,.int 0,.int 0,.int 0,.int 0])=H5 at *
 refine zbt (s5 _ _ (s4 _ _ g3)) g5 (by walk_at "sm") λb5 hb5=>?_
 have s6:=zah hb5 (.lst ([1,0,0,0,0,0,0,0,0].map V.int))
 have g6:(upd H5 b5 (.lst ([1,0,0,0,0,0,0,0,0].map V.int))) b5=some (.lst ([1,0,0,0,0,0,0,0,0].map V.int)):=zac
 show tNil _ (upd H5 b5 (.lst ([1,0,0,0,0,0,0,0,0].map V.int))) _
 generalize upd H5 b5 (.lst ([1,0,0,0,0,0,0,0,0].map V.int))=H6 at *
 nofun
 refine dspT λt2 H7 s7 g7=>?_
 nofun
 refine dspL λa3 H8 s8 g8=>?_
 have u7:=s7.trans s8
 have u3:=s3.trans (s4.trans (s5.trans (s6.trans u7)))
 have d1:zch H8 (toD (.set 0 [more,many,0,0,0,0,0,0,0])) (.ref t1):=zkN (u3 _ _ g2) (by simp) ⟨.inr (.inl ⟨_,rfl,rfl⟩),.inl ⟨_,rfl,rfl⟩,.inr (.inr (.inl ⟨b1,_,rfl,rfl,(s2.trans u3) _ _ g1⟩)),trivial⟩
 have d2:zch H8 (toD (.hold [1,0,0,0,0,0,0,0,0])) (.ref t2):=zkN (s8 _ _ g7) (by simp) ⟨.inr (.inl ⟨_,rfl,rfl⟩),.inr (.inr (.inl ⟨b5,_,rfl,rfl,u7 _ _ g6⟩)),trivial⟩
 have s08:=s1.trans (s2.trans u3)
 clear u3 u7 s1 s2 s3 s4 s5 s6 s7 s8 g1 g2 g3 g4 g5 g6 g7
 nofun
 refine⟨4,rfl,by decide,λv H9 s9 n9=>?_⟩
 obtain⟨c1,rfl,_,g9⟩:=New.iif.mp n9
 nofun
 refine dspL λa1 H10 s10 g10=>?_
 nofun
 refine dspL λa2 H11 s11 g11=>?_
 nofun
 refine⟨0,rfl,by decide,λv H12 s12 n12=>?_⟩
 obtain⟨c2,rfl,_,g12⟩:=New.iif.mp n12
 nofun
 refine dspL λe1 H13 s13 g13=>?_
 nofun
 refine⟨0,rfl,by decide,λv H14 s14 n14=>?_⟩
 obtain⟨c3,rfl,_,g14⟩:=New.iif.mp n14
 nofun
 refine dspL λe2 H15 s15 g15=>?_
 nofun
 refine dspL λa4 H16 s16 g16=>?_
 nofun
 intro p dp p0 dp0 ndp
 have u14:=s15.trans s16
 have u13:=s14.trans u14
 have u12:=s13.trans u13
 have u11:=s12.trans u12
 have u10:=s11.trans u11
 have u8:=s9.trans (s10.trans u10)
 refine zfE (c:=crMM many more) p0 dp0 (zdb (u10 _ _ g10) ((s10.trans u10) _ _ g9)) (zdH (u11 _ _ g11)) (SqL.of (u8 _ _ g8)) (SqL.of g16) ⟨rfl,λi d x q1 q2=>?_⟩ ⟨rfl,λi d x q1 q2=>?_⟩ zn2 λH17 f s17 hC hf fn=>⟨rfl,?_⟩
 ·match i,q1,q2 with
  | 0,q1,q2=>cases q1;cases q2;exact d1.sq u8.nod.sq
  | 1,q1,q2=>cases q1;cases q2;exact d2.sq u8.nod.sq
  | i+2,q1,q2=>simp[crMM] at q1
 ·match i,q1,q2 with
  | 0,q1,q2=>cases q1;cases q2;exact zdb (u13 _ _ g13) (u12 _ _ g12)
  | 1,q1,q2=>cases q1;cases q2;exact zdb (s16 _ _ g15) (u14 _ _ g14)
  | i+2,q1,q2=>simp[crMM] at q1
 nofun
 exact q _ _ (s08.trans (u8.trans s17)) (hC.t zn2.d9)
def zdI (K:Fg)(C:Nat->Addr):Value->Addr->Sp:=λc a vs H Q _=>∃ (D:Addr) (j:Nat),vs=[.ref a]/\c=.ref D/\[(C 2),(C 3),(C 5),(C 6),(C 4)][j]?=some D/\∀ H',Same H H'->Q (.int j) H'
include B Z in
theorem zmv (F:Fun K "_law_which" "_law_which" zgR f fd)(m:mg "_law_which"=some (.ref f)):FnH P w K mg b8 "_law_which" ["e"] 1 (zdI K C):=by
 refine FnH.of (k:=0) F zf3 m (λ_ _ _ _ _ _ us hl=>(by obtain⟨_,rfl⟩:=len1 hl;rfl)) (λc a vs H Q E h=>?_) (λcdv A outer s H vs Q E x0 o0 hr hd hn h=>?_)
 ·first
  | (obtain⟨rfl,_⟩:=h;rfl)
  | (obtain⟨_,rfl,_⟩:=h;rfl)
  | (obtain⟨_,_,rfl,_⟩:=h;rfl)
  | (obtain⟨_,_,_,rfl,_⟩:=h;rfl)
  | (obtain⟨_,_,_,_,rfl,_⟩:=h;rfl)
  | (obtain⟨_,_,_,_,_,rfl,_⟩:=h;rfl)
  | (obtain⟨_,_,_,_,_,_,rfl,_⟩:=h;rfl)
  | (obtain⟨_,_,_,_,_,_,_,rfl,_⟩:=h;rfl)
  | (obtain⟨_,_,_,_,_,_,_,_,rfl,_⟩:=h;rfl)
  | (obtain⟨_,_,_,_,_,_,_,_,_,rfl,_⟩:=h;rfl)
  | (obtain⟨_,_,_,_,_,_,_,_,_,_,rfl,_⟩:=h;rfl)
  | (obtain⟨_,_,_,_,_,_,_,_,_,_,_,rfl,_⟩:=h;rfl)
  | (obtain⟨_,_,_,_,_,_,_,_,_,_,_,_,rfl,_⟩:=h;rfl)
  | (obtain⟨_,_,_,_,_,_,_,_,_,_,_,_,_,rfl,_⟩:=h;rfl)
  | (obtain⟨_,_,_,_,_,_,_,_,_,_,_,_,_,_,rfl,_⟩:=h;rfl)
  | (obtain⟨_,_,_,_,_,_,_,_,_,_,_,_,_,_,_,rfl,_⟩:=h;rfl)
  | (obtain⟨_,_,_,_,_,_,_,_,_,_,_,_,_,_,_,_,rfl,_⟩:=h;rfl)
 obtain⟨D,j,rfl,hc,hj,q⟩:=h
 have key:∃ anc b0 b1 b2 b3 b4,Err K D anc/\ErrIs2 K D/\anc.contains (.type "ValueError")=true/\(Value.ref D::anc).contains (.ref (C 2))=b0/\(Value.ref D::anc).contains (.ref (C 3))=b1/\(Value.ref D::anc).contains (.ref (C 5))=b2/\(Value.ref D::anc).contains (.ref (C 6))=b3/\(Value.ref D::anc).contains (.ref (C 4))=b4/\[b0,b1,b2,b3,b4]=(List.range 5).map (· == j)/\j<5:=by
  have nd:=Z.nd
  have n2:[(C 6),(C 5),(C 4),(C 3),(C 2),(C 1)].Nodup:=List.pairwise_reverse.mpr (nd.imp λh=>h.symm)
  simp only[List.nodup_cons,List.mem_cons,List.not_mem_nil,or_false,not_or,not_false_eq_true,List.nodup_nil,and_true] at nd n2
  match j,hj with
  | 0,hj=>cases hj;exact⟨_,_,_,_,_,_,Z.e_BadSheet,Z.i_BadSheet,by simp[zbl],rfl,rfl,rfl,rfl,rfl,by simp[zbl,nd,n2,List.range,List.range.loop],by omega⟩
  | 1,hj=>cases hj;exact⟨_,_,_,_,_,_,Z.e_NoCraft,Z.i_NoCraft,by simp[zbl],rfl,rfl,rfl,rfl,rfl,by simp[zbl,nd,n2,List.range,List.range.loop],by omega⟩
  | 2,hj=>cases hj;exact⟨_,_,_,_,_,_,Z.e_NotShown,Z.i_NotShown,by simp[zbl],rfl,rfl,rfl,rfl,rfl,by simp[zbl,nd,n2,List.range,List.range.loop],by omega⟩
  | 3,hj=>cases hj;exact⟨_,_,_,_,_,_,Z.e_Unfit,Z.i_Unfit,by simp[zbl],rfl,rfl,rfl,rfl,rfl,by simp[zbl,nd,n2,List.range,List.range.loop],by omega⟩
  | 4,hj=>cases hj;exact⟨_,_,_,_,_,_,Z.e_Unmet,Z.i_Unmet,by simp[zbl],rfl,rfl,rfl,rfl,rfl,by simp[zbl,nd,n2,List.range,List.range.loop],by omega⟩
  | j+5,hj=>simp at hj
 obtain⟨anc,b0,b1,b2,b3,b4,eD,iD,hv,h0,h1,h2,h3,h4,hb,j5⟩:=key
 refine⟨_,(zaf (zas (i:=1) zf3.nd (zaR (zaE (zaw (zjS hd hn) rfl B.isinstance L2.zbj (zab (pv 0) (zab (zb1 rfl Z.m_BadSheet) zaa))) (zaE (zaw (zjS hd hn) rfl B.isinstance L2.zbj (zab (pv 0) (zab (zb1 rfl Z.m_NoCraft) zaa))) (zaE (zaw (zjS hd hn) rfl B.isinstance L2.zbj (zab (pv 0) (zab (zb1 rfl Z.m_NotShown) zaa))) zaa)))))
   (zaf (zas (i:=1) zf3.nd (zaQ (zaX K) (pv 1) (zaR (zaE (zaw (zjS hd hn) rfl B.isinstance L2.zbj (zab (pv 0) (zab (zb1 rfl Z.m_Unfit) zaa))) (zaE (zaw (zjS hd hn) rfl B.isinstance L2.zbj (zab (pv 0) (zab (zb1 rfl Z.m_Unmet) zaa))) zaa)))))
   (zaf (za4 (PW.pt (zgq (zgf (zcp (zaw (zsh hd hn) rfl B.isinstance L2.zbj (zab (pv 0) (zab (zmB (v:=.ty "ValueError") rfl B.ValueError L2.zhi rfl) zaa))))) (zfg (zax zrb (zl0 PySem.F.plainAttrs_list PySem.F.slot_list_count PySem.F.type_list_count znw (pv 1) (zam zcx zaa)) zad (zat _))))) (zag (zan (zcR zbJ zad))) zaA)
   (zag (zan (zl0 PySem.F.plainAttrs_list PySem.F.slot_list_index PySem.F.type_list_index znx (pv 1) (zam zcx zaa))))))),?_⟩
 walk_at "q"
 nofun
 refine⟨D,(C 2),anc,_,rfl,hc,eD,iD,Z.e_BadSheet,?_⟩
 rw[h0]
 nofun
 refine⟨D,(C 3),anc,_,rfl,hc,eD,iD,Z.e_NoCraft,?_⟩
 rw[h1]
 nofun
 refine⟨D,(C 5),anc,_,rfl,hc,eD,iD,Z.e_NotShown,?_⟩
 rw[h2]
 nofun
 refine⟨(by walk_at "sm"),λp hp=>?_⟩
 have s1:=zah hp (.lst [V.bl b0,.bl b1,.bl b2])
 nofun
 walk_at "q"
 nofun
 refine⟨D,(C 6),anc,_,rfl,hc,eD,iD,Z.e_Unfit,?_⟩
 rw[h3]
 nofun
 refine⟨D,(C 4),anc,_,rfl,hc,eD,iD,Z.e_Unmet,?_⟩
 rw[h4]
 nofun
 refine⟨(by walk_at "sm"),λp2 hp2=>?_⟩
 have s2:=zah hp2 (.lst [V.bl b3,.bl b4])
 nofun
 refine zbt (s2 _ _ zac) zac (by walk_at "sm") λp3 hp3=>?_
 have s3:=zah hp3 (.lst [V.bl b0,.bl b1,.bl b2,.bl b3,.bl b4])
 have e3:∀ m,[b0,b1,b2,b3,b4][m]?=if m<5 then some (m == j) else none:=by
  intro m
  rw[hb,zgm]
  split
  ·rename_i z;rw[List.getElem?_range z];rfl
  ·rename_i z;rw[List.getElem?_eq_none (by simpa using z)];rfl
 have ec:[b0,b1,b2,b3,b4].countP id=1:=by
  rw[hb]
  rcases (show j=0\/j=1\/j=2\/j=3\/j=4 by omega) with rfl | rfl | rfl | rfl | rfl <;> rfl
 nofun
 walk_at "q"
 nofun
 refine⟨D,anc,_,rfl,by decide +kernel,hc,eD,iD,?_⟩
 rw[hv]
 refine⟨true,rfl,?_⟩
 rw[if_neg (by simp)]
 nofun
 refine⟨tyL zac,?_⟩
 nofun
 refine⟨p3,[b0,b1,b2,b3,b4],rfl,rfl,zac,?_⟩
 rw[ec]
 nofun
 refine⟨rfl,?_⟩
 refine⟨false,rfl,?_⟩
 nofun
 refine⟨tyL zac,?_⟩
 nofun
 refine⟨p3,[b0,b1,b2,b3,b4],j,rfl,rfl,zac,?_,λm hm=>?_,by omega,q _ (s1.trans (s2.trans s3))⟩
 ·rw[e3,if_pos j5];simp
 ·rw[e3,if_pos (by omega)];simp;omega
inductive Q84 (K:Fg)(C:Nat->Addr)(vs:List V)(H:Hp)(Q:VK)(E:XK):Prop
 | mk (ha la va ra:Addr) (n:Int) (ks:List Int) (cr:Int->Cr) (ws:List Int) (fp:List Addr) (rs:List (Int × List Int)) (ys:List V):vs=[.ref ha,.int n,.ref ra]->HAt (C 7) (C 0) H ha la va ks cr ws fp->n.natAbs<zbm->SqL K H ra ys->Reps K H (rs.map zhU) ys->zf8 rs->n∈ks->((∃ m∈zaV (cr n).deeds,m∉ks)->∀ H',Same H H'->Q (.int 4) H')->((∀ m∈zaV (cr n).deeds,m∈ks)->zfY ((cr n).gs cr) rs=false/\∀ H',Same H H'->Q (.int 2) H')->Q84 K C vs H Q E
variable (Q49:Mth (CX1 P w) P w K mg b8 (C 7) "vouch" ["self","number","rows"] 8 (Q48 K C))(Q83:FnH P w K mg b8 "_law_which" ["e"] 1 (zdI K C))
include B Z Q49 Q83 in
theorem zkq (F:Fun K "_law_refused" "_law_refused" ze1 f fd)(m:mg "_law_refused"=some (.ref f)):Fn P w K mg b8 "_law_refused" ["hall","number","rows"] 9 (Q84 K C):=by
 refine Fn.of (k:=8) F zgn m (λ_ _ _ _ _ _ us hl=>(by obtain⟨_,_,_,rfl⟩:=len3 hl;rfl)) (λvs H Q E h=>?_) (λcdv A outer s H vs Q E hr h=>?_)
 ·first
  | (obtain⟨_,_,_,_,_,_,_,_,_,_,_,rfl,_⟩:=h;rfl)
 obtain⟨ha,la,va,ra,n,ks,cr,ws,fp,rs,ys,rfl,hA,hn,hra,hrs,hft,hm,q1,q2⟩:=h
 refine⟨_,(zaf (zpz rfl rfl rfl (zlw (zlv (znq Q49 Z.c_Hall hr (pv 0) (zab (pv 1) (zab (pv 2) zaa))))) (zr1 (i:=3) (tb:=λc a=>tRet (ziG (zdI K C c a) [] E0 (zc1 (tVar 3) tNil))) Z.e_HallError rfl Z.m_HallError zgn.nd rfl rfl (λ_ _ hd hn=>(zag (zan (zpF Q83 hr rfl hd hn (zab (pv 3) zaa))))) zpy))
   (zag (zan zad))),?_⟩
 obtain⟨dx,hh⟩:=hA.ins
 walk_at "q"
 refine zr7 ?_
 nofun
 refine⟨ha,dx,_,rfl,hh,zcj,?_⟩
 nofun
 refine⟨ha,la,va,ra,n,ks,cr,ws,fp,rs,ys,rfl,hA,hn,hra,hrs,hft,λz=>absurd hm z,λ_ z H' s' a=>?_,λ_ z _ H' s' a=>?_,λ_ z w=>by rw[(q2 z).1] at w;cases w⟩
 ·refine⟨(C 4),_,rfl,Z.e_Unmet,?_⟩
  rw[if_pos (by simp)]
  show tRet _ _ _ _
  nofun
  exact⟨(C 4),4,rfl,rfl,rfl,λH2 s2=>q1 z _ (s'.trans s2)⟩
 ·refine⟨(C 5),_,rfl,Z.e_NotShown,?_⟩
  rw[if_pos (by simp)]
  show tRet _ _ _ _
  nofun
  exact⟨(C 5),2,rfl,rfl,rfl,λH2 s2=>(q2 z).2 _ (s'.trans s2)⟩
def zgc:Cr:=⟨[],[],[],[]⟩
inductive Q88 (K:Fg)(C:Nat->Addr)(vs:List V)(H:Hp)(Q:VK)(E:XK):Prop
 | mk (ha la va:Addr) (n:Int) (ks:List Int) (cr:Int->Cr) (ws:List Int) (fp:List Addr):vs=[.ref ha,.int n]->HAt (C 7) (C 0) H ha la va ks cr ws fp->n.natAbs<zbm->n∈ks->(∀ H',Same H H'->Q (.int 0) H')->Q88 K C vs H Q E
variable (Q43:Mth (CX1 P w) P w K mg b8 (C 7) "lay" ["self","number","craft"] 8 (Q42 K C))
include B Z M_Craft Q83 Q43 in
theorem zjk (F:Fun K "_law_bad_laid" "_law_bad_laid" zeh f fd)(m:mg "_law_bad_laid"=some (.ref f)):Fn P w K mg b8 "_law_bad_laid" ["hall","number"] 9 (Q88 K C):=by
 refine Fn.of (k:=8) F zfD m (λ_ _ _ _ _ _ us hl=>(by obtain⟨_,_,rfl⟩:=len2 hl;rfl)) (λvs H Q E h=>?_) (λcdv A outer s H vs Q E hr h=>?_)
 ·first
  | (obtain⟨_,_,_,_,_,_,_,_,rfl,_⟩:=h;rfl)
 obtain⟨ha,la,va,n,ks,cr,ws,fp,rfl,hA,hn,hm,q⟩:=h
 refine⟨_,(QSs.run (za3 (zsj rfl rfl rfl (zoO (zoN (zsi Q43 Z.c_Hall hr (QE.mk (pv 0)) (zfV (QE.mk (pv 1)) (ziY (q_mk M_Craft hr rfl (zbp (zbC zaG) (zbp (zbC zaG) (zbp (zbC zaG) (zbp (zbC zaG) zaG))))) zaG))))) (zr1 (i:=2) (tb:=λc a=>tRet (ziG (zdI K C c a) [] E0 (zc1 (tVar 2) tNil))) Z.e_HallError rfl Z.m_HallError zfD.nd rfl rfl (λ_ _ hd hn=>(zag (zan (zpF Q83 hr rfl hd hn (zab (pv 2) zaa))))) zpy))
   (zhf (QS.mk (zan zad))))),?_⟩
 obtain⟨dx,hh⟩:=hA.ins
 walk_at "q"
 refine zr7 ?_
 nofun
 refine⟨ha,dx,_,rfl,hh,zcj,?_⟩
 nofun
 refine dspL λa1 H1 s1 g1=>?_
 nofun
 refine dspL λa2 H2 s2 g2=>?_
 nofun
 refine dspL λa3 H3 s3 g3=>?_
 nofun
 refine dspL λa4 H4 s4 g4=>?_
 nofun
 intro p dp p0 dp0 ndp
 have t3:=s3.trans s4
 have n9:zgc.Nine:=⟨by simp[zgc],by simp[zgc],by simp[zgc],by simp[zgc],by simp[zgc],by simp[zgc],by simp[zgc],by simp[zgc]⟩
 refine zfE (c:=zgc) p0 dp0 (zdH ((s2.trans t3) _ _ g1)) (zdH (t3 _ _ g2)) (SqL.of (s4 _ _ g3)) (SqL.of g4) ⟨rfl,λi d x q1 q2=>by simp[zgc] at q1⟩ ⟨rfl,λi d x q1 q2=>by simp[zgc] at q1⟩ n9 λH8 f s11 hC hf fn=>⟨rfl,?_⟩
 nofun
 have s0:=s1.trans (s2.trans (t3.trans s11))
 refine⟨ha,la,va,p,n,ks,cr,ws,fp,zgc,rfl,hA.same s0,hC.t n9.d9,n9,hn,.inl hm,λ_ H' s' a=>?_,λz=>by cases z⟩
 refine⟨(C 2),_,rfl,Z.e_BadSheet,?_⟩
 rw[if_pos (by simp)]
 show tRet _ _ _ _
 nofun
 exact⟨(C 2),0,rfl,rfl,rfl,λH2 s2=>q _ (s0.trans (s'.trans s2))⟩
theorem zpc:zaC 4=[0,0,0,0,0,1,0,0,0]:=by decide
theorem zqU:zaC 0=[0,1,0,0,0,0,0,0,0]:=by decide
theorem gsMM{more:Int}: (crMM many more).gs cr=[([0,0,0,0,0,1,0,0,0],[[0,0,0,0,0,1,0,0,0]]),([more,many,0,0,0,0,0,0,0],[[0,1,0,0,0,0,0,0,0]]),([1,0,0,0,0,0,0,0,0],[[0,1,0,0,0,0,0,0,0]])]:=by
 unfold Cr.gs zhr zlF crMM
 rw[zqU,zpc]
 simp[dueL,zfp,zcW]
 refine⟨by decide,?_⟩
 simp[zaY,zaP,ch1,zbV,zhj,addW,ziT,zaC,List.range,List.range.loop,List.replicate]
def crGo (gone:Int):Cr:=⟨[],[],[.call gone 0 1 2 3],[[]]⟩
theorem goR9: (crGo g).Nine:=by constructor <;> simp[crGo,zhR]
theorem goRt(l0:0<=g)(l1:g<100):(crGo g).right=true:=by
 show zd2 _ _ _ _=true
 unfold crGo zd2
 simp[zhl,zdm,ze7,zbK,ze8,btw]
 exact⟨⟨⟨rfl,rfl⟩,rfl,rfl⟩,l0,by omega⟩
inductive Q8a (K:Fg)(C:Nat->Addr)(vs:List V)(H:Hp)(Q:VK)(E:XK):Prop
 | mk (ha la va:Addr) (n o many more:Int) (cr:Int->Cr) (ws:List Int) (fp:List Addr):vs=[.ref ha,.int n,.int o]->HAt (C 7) (C 0) H ha la va [n] cr ws fp->cr n=crMM many more->(∀ m,m∈ws↔m=n)->0<=n->n<100->0<=o->o<100->o≠n->(∀ H' ks' cr' ws' fp',NoD H H'->HAt (C 7) (C 0) H' ha la va ks' cr' ws' fp'->n∈ks'->cr' n=crMM many more->Q (.bl true) H')->Q8a K C vs H Q E
variable (Q85:Fn P w K mg b8 "_law_refused" ["hall","number","rows"] 9 (Q84 K C))(Q51:Mth CX0 P w K mg b8 (C 7) "sworn" ["self","number"] 4 (Q50 K C))
include B Z M_Craft Q4d Q43 Q85 Q51 in
theorem zmw (Q89:Fn P w K mg b8 "_law_bad_laid" ["hall","number"] 9 (Q88 K C))(F:Fun K "_law_stays" "_law_stays" zgS f fd)(m:mg "_law_stays"=some (.ref f)):Fnx P w K mg b8 "_law_stays" ["hall","number","other"] 10 (Q8a K C):=by
 refine⟨f,fd,F.okx (k:=9) zeI (λvs H Q E h=>?_) (λcdv A outer s H vs Q E hr h=>?_),F.binds λ_ _ _ _ _ _ us hl=>(by obtain⟨_,_,_,rfl⟩:=len3 hl;rfl),F.kp,m⟩
 ·first
  | (obtain⟨_,_,_,_,_,_,_,_,_,_,rfl,_⟩:=h;rfl)
 obtain⟨ha,la,va,n,o,many,more,cr,ws,fp,rfl,hA,c1',hw,n0,n1,o0,o1,no,q⟩:=h
 refine⟨_,(QSs.run (za3 (QS.mk (za4 (PW.pt (zgq (zax (k_ne K hr) (zap Q89 hr rfl (zab (pv 0) (zab (pv 1) zaa))) zad (zat _)) (zfg (zax ze5 (zaS Q4d Z.c_Hall hr za5 (pv 0) (zab (pv 1) zaa)) zcx (zat _))))) (zag (zan zcx)) zaA))
   (za3 (QS.mk (za4 (PW.pt (zgq (zax (k_ne K hr) (zap Q85 hr rfl (zab (pv 0) (zab (pv 1) (zb6 (zaR zaa) zaa)))) zad (zat _)) (zfg (zax ze5 (zaS Q4d Z.c_Hall hr za5 (pv 0) (zab (pv 1) zaa)) zcx (zat _))))) (zag (zan zcx)) zaA))
   (za3 (QS.mk (zas (i:=3) zeI.nd (zaQ zek (zaQ (zaX K) (pv 2) zad) zad)))
   (za3 (QS.mk (za4 (zax (k_eq K hr) (pv 3) (pv 1) (zat _)) (zag (zas (i:=3) zeI.nd (zaQ zek (zaQ (zaX K) (pv 3) zad) zad))) zaA))
   (za3 (zqF (q_mth Q43 Z.c_Hall hr zhd (QE.mk (pv 0)) (zfV (QE.mk (pv 2)) (ziY (q_mk M_Craft hr rfl (zbp (zbC zaG) (zbp (zbC zaG) (zbp (zbC (zcr (zet (zaz (QE.mk zbi) (zfV (QE.mk (pv 3)) (zcr (zet (zaz (QE.mk zad) (zaz (QE.mk zad) zaG))) (zcr (zet (zaz (QE.mk zad) (zaz (QE.mk zad) zaG))) zaG))))) zaG)) (zbp (zbC (zbp (zbC zaG) zaG)) zaG))))) zaG))))
   (za3 (zpJ PassesOwn.leaving rfl (za8 K (QE.run (zbC (zbp (zbC zaG) (zbp (zbC (zcr (zet (zaz (QE.mk zad) (zbp (zbC zaG) zaG))) zaG)) zaG))))) (zaD (i:=4) zeI.nd) (zhf (QS.mk (za4 (PW.pt (zgq (zax (k_ne K hr) (zap Q85 hr rfl (zab (pv 0) (zab (pv 2) (zab (pv 4) zaa)))) zad (zat _)) (zfg (zax ze5 (zaS Q4d Z.c_Hall hr za5 (pv 0) (zab (pv 2) zaa)) zcx (zat _))))) (zag (zan zcx)) zaA))))
   (zhf (QS.mk (zan (zbF (zbe zpE (zaS Q4d Z.c_Hall hr za5 (pv 0) (zab (pv 1) zaa)) zcx (zat _)) (zb2 (zbe zpE (zaS Q51 Z.c_Hall hr za5 (pv 0) (zab (pv 2) zaa)) zcx (zat _)))))))))))))),?_⟩
 have nm:n∈[n]:=zms.mpr rfl
 have nn:zaV (cr n).deeds=[]:=by rw[c1'];rfl
 have nI:n.natAbs<zbm:=by unfold zbm;omega
 have oI:o.natAbs<zbm:=by unfold zbm;omega
 have hwn:n∈ws:=(hw n).mpr rfl
 walk_at "q"
 nofun
 refine⟨ha,la,va,n,[n],cr,ws,fp,rfl,hA,nI,nm,λH1 s1=>?_⟩
 have hA1:=hA.same s1
 obtain⟨dx1,hh1⟩:=hA1.ins
 nofun
 rw[decide_eq_true rfl]
 nofun
 refine⟨ha,dx1,_,rfl,hh1,zcj,?_⟩
 nofun
 refine⟨ha,la,va,n,[n],cr,ws,fp,rfl,hA1,?_⟩
 rw[decide_eq_true hwn]
 nofun
 refine zhh ?_
 rw[decide_eq_true rfl]
 nofun
 walk_at "q"
 nofun
 refine dspL λra H2 s2 g2=>?_
 nofun
 refine⟨ha,la,va,ra,n,[n],cr,ws,fp,[],[],rfl,hA1.same s2,nI,SqL.of g2,by unfold Reps;rfl,λ_ z=>(by cases z),nm,λ⟨m,mm,_⟩=>(by rw[nn] at mm;cases mm),λ_=>⟨by rw[c1',gsMM];rfl,λH3 s3=>?_⟩⟩
 have hA3:=hA1.same (s2.trans s3)
 obtain⟨dx3,hh3⟩:=hA3.ins
 nofun
 rw[decide_eq_true rfl]
 nofun
 refine⟨ha,dx3,_,rfl,hh3,zcj,?_⟩
 nofun
 refine⟨ha,la,va,n,[n],cr,ws,fp,rfl,hA3,?_⟩
 rw[decide_eq_true hwn]
 nofun
 refine zhh ?_
 rw[decide_eq_true rfl]
 have s03:=s1.trans (s2.trans s3)
 clear g2 s1 s2 s3 hh1 hA1
 nofun
 walk_at "q"
 nofun
 have v0:=Int.emod_nonneg (o+1) (show (100:Int)≠0 by decide)
 have v1:=Int.emod_lt_of_pos (o+1) (show (0:Int)<100 by decide)
 have v2:(o+1) % 100≠o:=by omega
 have v3:((o+1) % 100+1) % 100≠o:=by omega
 generalize (o+1) % 100=v at v0 v1 v2 v3 ⊢
 with_reducible refine zgh (λσ H'=>∃ g:Int,0<=g/\g<100/\g≠n/\g≠o/\σ=[some (.ref ha),some (.int n),some (.int o),some (.int g),none]/\H'=H3) (λNX hN=>?_) (λσ H' hM=>?_)
 ·nofun
  refine ite2 (λe=>?_) (λe=>?_)
  ·have e:v=n:=of_decide_eq_true e
   subst e
   have w0:=Int.emod_nonneg (v+1) (show (100:Int)≠0 by decide)
   have w1:=Int.emod_lt_of_pos (v+1) (show (0:Int)<100 by decide)
   have w2:(v+1) % 100≠v:=by omega
   nofun
   exact hN _ _ ⟨_,w0,w1,w2,v3,rfl,rfl⟩
  ·nofun
   exact hN _ _ ⟨_,v0,v1,λz=>e (decide_eq_true z),v2,rfl,rfl⟩
 obtain⟨g,g0,g1,gn,go,rfl,rfl⟩:=hM
 walk_at "q"
 nofun
 refine⟨ha,dx3,_,rfl,hh3,zcj,?_⟩
 nofun
 refine dspL λa1 H20 s1 g1'=>?_
 nofun
 refine dspL λa2 H21 s2 g2=>?_
 nofun
 refine dspT λb1 H22 s3 g3=>?_
 nofun
 refine dspT λb2 H23 s4 g4=>?_
 nofun
 refine dspT λt2 H24 s5 g5=>?_
 nofun
 refine dspL λa3 H25 s6 g6=>?_
 nofun
 refine dspL λc1 H26 s7 g7=>?_
 nofun
 refine dspL λa4 H27 s8 g8=>?_
 nofun
 intro p2 dp2 p20 dp20 ndp2
 have u6:=s7.trans s8
 have u5:=s6.trans u6
 have u4:=s5.trans u5
 have u2:=s3.trans (s4.trans u4)
 refine zfE (c:=crGo g) p20 dp20 (zdH ((s2.trans u2) _ _ g1')) (zdH (u2 _ _ g2)) (SqL.of (u6 _ _ g6)) (SqL.of g8) ⟨rfl,λi d x q1 q2=>?_⟩ ⟨rfl,λi d x q1 q2=>?_⟩ goR9 λH28 f s9 hC hf fn=>⟨rfl,?_⟩
 ·match i,q1,q2 with
  | 0,q1,q2=>cases q1;cases q2;exact zkN (u5 _ _ g5) (by simp) ⟨.inr (.inl ⟨_,rfl,rfl⟩),.inl ⟨_,rfl,rfl⟩,.inr (.inr (.inr ⟨b1,_,_,rfl,rfl,(s4.trans u4) _ _ g3⟩)),.inr (.inr (.inr ⟨b2,_,_,rfl,rfl,u4 _ _ g4⟩)),trivial⟩
  | i+1,q1,q2=>simp[crGo] at q1
 ·match i,q1,q2 with
  | 0,q1,q2=>cases q1;cases q2;exact zdH (s8 _ _ g7)
  | i+1,q1,q2=>simp[crGo] at q1
 nofun
 have t1:=s1.trans (s2.trans (u2.trans s9))
 have hr2:=goRt g0 g1
 refine⟨ha,la,va,p2,o,[n],cr,ws,fp,crGo g,rfl,hA3.same t1,hC.t goR9.d9,goR9,oI,.inr (by simp),λz=>(by rw[hr2] at z;cases z),λ_ H29 ks1 ws1 fp2 o2 hA2 _ _ hks hws _=>?_⟩
 cases hks (by simp[no])
 have n2:NoD H H29:=(s03.trans t1).nod.trans (o2.nod λb hb=>?_)
 rotate_left
 ·obtain⟨kl,hla,_⟩:=(hA3.same t1).laid
  obtain⟨kv,hva,_⟩:=(hA3.same t1).vou
  simp only[List.mem_cons,List.not_mem_nil,or_false] at hb
  rcases hb with rfl | rfl
  ·exact⟨_,hla⟩
  ·exact⟨_,hva⟩
 have hw2:∀ m,m∈ws1↔m=n:=λm=>by
  rw[hws,hw]
  exact⟨λz=>z.1,λz=>⟨z,by rw[z];exact no.symm,λw=>absurd (zms.mp w) no⟩⟩
 have d1:setC cr o (crGo g) n=crMM many more:=by
  unfold setC
  rw[if_neg no.symm];exact c1'
 have d2:setC cr o (crGo g) o=crGo g:=if_pos rfl
 have k1:n∈[n]++[o]:=by simp
 have k2:o∈[n]++[o]:=by simp
 have k3:g∉[n]++[o]:=by simp[gn,go]
 have cl:∀ m,∀ k∈zbw ([n]++[o]) (setC cr o (crGo g)) m,k∈[n,o,g]:=λm k hk=>by
  unfold zbw at hk
  split at hk
  ·rename_i z
   rcases zma.mp z with z | z
   ·rw[zms.mp z,d1] at hk;cases hk
   ·rw[zms.mp z,d2] at hk
    have:k∈[g]:=hk
    rw[zms.mp this];simp
  ·cases hk
 generalize setC cr o (crGo g)=cr2 at *
 generalize [n]++[o]=ks at *
 have cd:zaV (cr2 o).deeds=[g]:=by rw[d2];rfl
 have hwo:o∉ws1:=λz=>no ((hw2 o).mp z)
 have hwn2:n∈ws1:=(hw2 n).mpr rfl
 clear hws hks hA hA3 t1 u2 u4 u5 u6 s1 s2 s3 s4 s5 s6 s7 s8 s9 g1' g2 g3 g4 g5 g6 g7 g8 hC hf fn o2
 nofun
 walk_at "q"
 nofun
 refine dspL λa1 H30 s1 g1'=>?_
 nofun
 refine dspL λb1 H31 s2 g2=>?_
 nofun
 refine dspT λt2 H32 s3 g3=>?_
 nofun
 refine dspL λa2 H33 s4 g4=>?_
 nofun
 refine⟨(by walk_at "sm"),λfl hfl=>?_⟩
 have s5:=zah hfl (.lst [V.ref a1,.ref a2])
 have g5:(upd H33 fl (.lst [V.ref a1,.ref a2])) fl=some (.lst [V.ref a1,.ref a2]):=zac
 generalize upd H33 fl (.lst [V.ref a1,.ref a2])=H34 at *
 nofun
 refine⟨fl,rfl,⟨_,SqL.of g5⟩,?_⟩
 have s05:=s1.trans (s2.trans (s3.trans (s4.trans s5)))
 have u1:=s2.trans (s3.trans (s4.trans s5))
 refine ziP (xs:=[V.ref a1,.ref a2]) (λi σ H'=>∃ x,σ=[some (.ref ha),some (.int n),some (.int o),some (.int g),x]/\Same H34 H') ⟨none,rfl,Same.refl _⟩ (λi σ H' _ ⟨_,_,s'⟩=>SqL.of (s' _ _ g5)) ?_ ?_
 ·rintro i v σ H35 hv ⟨x,rfl,s6⟩
  obtain⟨ra,rs,ys,rfl,hra,hrs,hft⟩:∃ (ra:Addr) (rs:List (Int × List Int)) (ys:List V),v=.ref ra/\H34 ra=some (.lst ys)/\Reps K H34 (rs.map zhU) ys/\zf8 rs:=by
   match i,hv with
   | 0,hv=>exact⟨a1,[],[],(Option.some.inj hv).symm,u1 _ _ g1',by unfold Reps;rfl,λ_ z=>by cases z⟩
   | 1,hv=>
    refine⟨a2,[(1,[])],_,(Option.some.inj hv).symm,s5 _ _ g4,?_,λr hr=>?_⟩
    ·show Reps K H34 [.tup [.int 1,nums []]] [V.ref t2]
     unfold Reps
     refine⟨.ref t2,[],rfl,?_,by unfold Reps;rfl⟩
     unfold Rep
     refine⟨t2,_,rfl,SqT.of ((s4.trans s5) _ _ g3),?_⟩
     unfold Reps
     refine⟨_,_,rfl,by unfold Rep;rfl,?_⟩
     unfold Reps
     refine⟨_,_,rfl,zbd.mpr ⟨b1,rfl,SqL.of ((s3.trans (s4.trans s5)) _ _ g2)⟩,by unfold Reps;rfl⟩
    ·rw[zms.mp hr]
     exact⟨by simp,by unfold CB;decide,λw hw=>by cases hw⟩
   | i+2,hv=>simp at hv
  nofun
  refine⟨ha,la,va,ra,o,ks,cr2,ws1,fp2,rs,ys,rfl,hA2.same (s05.trans s6),oI,SqL.of (s6 _ _ hra),Reps.same s6 _ hrs,hft,k2,λ_ H36 s7=>?_,λz=>absurd (z g (by rw[cd];simp)) k3⟩
  have hA6:=hA2.same (s05.trans (s6.trans s7))
  obtain⟨dx6,hh6⟩:=hA6.ins
  nofun
  rw[decide_eq_true rfl]
  nofun
  refine⟨ha,dx6,_,rfl,hh6,zcj,?_⟩
  nofun
  refine⟨ha,la,va,o,ks,cr2,ws1,fp2,rfl,hA6,?_⟩
  rw[decide_eq_false hwo]
  nofun
  refine zhh ?_
  rw[decide_eq_true rfl]
  nofun
  exact⟨_,rfl,s6.trans s7⟩
 rintro σ H35 ⟨x,rfl,s6⟩
 have hA6:=hA2.same (s05.trans s6)
 obtain⟨dx6,hh6⟩:=hA6.ins
 nofun
 refine⟨ha,dx6,_,rfl,hh6,zcj,?_⟩
 nofun
 refine⟨ha,la,va,n,ks,cr2,ws1,fp2,rfl,hA6,?_⟩
 rw[decide_eq_true hwn2]
 nofun
 refine zsf ?_
 rw[decide_eq_true rfl]
 nofun
 refine⟨ha,dx6,_,rfl,hh6,zcj,?_⟩
 nofun
 refine⟨ha,la,va,o,ks,cr2,ws1,fp2,[n,o,g],rfl,hA6,by simp,cl,by simp,λH36 b s7 hb=>?_⟩
 have bf:b=false:=by
  cases b with
  | false=>rfl
  | true=>exact absurd (hb.mp rfl o ReachI.me) hwo
 subst bf
 nofun
 refine zsf ?_
 rw[decide_eq_true rfl]
 exact q _ _ _ _ _ (n2.trans (s05.trans (s6.trans s7)).nod) (hA6.same s7) k1 d1
inductive Q8b (K:Fg)(vs:List V)(H:Hp)(Q:VK)(E:XK):Prop
 | mk (a:Addr) (ns:List Int):vs=[.ref a]->SqL K H a (ns.map V.int)->ns.length<=63->(∀ H',Q (.bl true) H')->Q8b K vs H Q E
theorem shW{more w:Int}: zew [more,many,0,0,0,0,0,0,0] [[0,1,0,0,0,0,0,0,0]] 1 [w]=(decide (0<=w) && (decide (-1<more) && decide (many + -w=0))):=by
 simp[zew,rowB,zoP,zkM,negs,zbV,zhj,addW]
theorem soW{more:Int}(h:2<=many):zbx [more,many,0,0,0,0,0,0,0] [[0,1,0,0,0,0,0,0,0]]=none:=by
 cases e:zbx [more,many,0,0,0,0,0,0,0] [[0,1,0,0,0,0,0,0,0]] with
 | none=>rfl
 | some p=>
  obtain⟨w,ws⟩:=p
  obtain⟨hw,hm,hs⟩:=zmh e
  simp[zd8] at hm
  rcases hm with rfl | rfl <;> simp[zew,rowB,zoP,zkM,negs,zbV,zhj,addW] at hs
  all_goals
   have p:2 * 1<=many * w:=Int.mul_le_mul h hw.1 (by decide) (by omega)
   have:=hs.2.2
   omega
theorem so1:zbx [0,0,0,0,0,1,0,0,0] [[0,0,0,0,0,1,0,0,0]]=some (1,[1]):=by decide
theorem so3:zbx [1,0,0,0,0,0,0,0,0] [[0,1,0,0,0,0,0,0,0]]=some (1,[0]):=by decide
theorem zqV{more:Int}(h0:0<=many)(h1:many<=1000000000)(h2:0<=more)(h3:more<=1000000000):(crMM many more).right=true:=by
 show zd2 _ _ _ _=true
 unfold crMM zd2
 rw[zqU,zpc]
 simp[zhl,zdm,zev,zeN,ze7,zbK,ze8,btw]
 refine⟨rfl,?_⟩
 omega
theorem goMM{n more:Int}(h:cr n=crMM many more)(h0:0<=many)(h2:0<=more)(hg:0<=g):(goR cr ks 5 (zdD cr ⟨[],[],0,none⟩ (zdE n g (-1)) [])).en=some [.str "done",.int (many * g+more),.int (-1)]/\(goR cr ks 5 (zdD cr ⟨[],[],0,none⟩ (zdE n g (-1)) [])).k=2:=by
 have m:=Int.mul_nonneg h0 hg
 have n0:¬ g<0:=by omega
 have n1:¬ (more+many * g)<0:=by omega
 simp[goR,zdD,come,zdE,h,crMM,zqU,zpc,zdX,zaM,zhS,zfq,zfW,zcH,zdz,dot,zmn,putR,n0,n1]
 exact Int.add_comm _ _
theorem row1{t:Addr}(h1:H t=some (.tup [V.int 1,.ref b]))(h2:H b=some (.lst [V.int x])):Rep K H (.tup [.int 1,nums [x]]) (.ref t):=by
 unfold Rep
 refine⟨t,_,rfl,SqT.of h1,?_⟩
 unfold Reps
 refine⟨_,_,rfl,by unfold Rep;rfl,?_⟩
 unfold Reps
 exact⟨_,_,rfl,zbd.mpr ⟨b,rfl,SqL.of h2⟩,by unfold Reps;rfl⟩
theorem zn3{e f:D}{x y z:V}(h1:Rep K H d x)(h2:Rep K H e y)(h3:Rep K H f z):Reps K H [d,e,f] [x,y,z]:=by
 unfold Reps
 refine⟨_,_,rfl,h1,?_⟩
 unfold Reps
 refine⟨_,_,rfl,h2,?_⟩
 unfold Reps
 exact⟨_,_,rfl,h3,by unfold Reps;rfl⟩
theorem fit3{y z:Int}(h1:0<=x)(h1':x<2 ^ 40)(h2:0<=y)(h2':y<2 ^ 40)(h3:0<=z)(h3':z<2 ^ 40):zf8 [(1,[x]),(1,[y]),(1,[z])]:=λr hr=>by
 simp only[List.mem_cons,List.not_mem_nil,or_false] at hr
 rcases hr with rfl | rfl | rfl <;> refine⟨by simp,by unfold CB;exact⟨by show (-2 ^ 62:Int)<1;decide,by show (1:Int)<2 ^ 62;decide⟩,λw hw=>?_⟩ <;> (rw[zms.mp hw];unfold CB;omega)
theorem shX{more w:Int}(h:w≠many):zfY ((crMM many more).gs cr) [(1,[1]),(1,[w]),(1,[0])]=false:=by
 rw[gsMM]
 unfold zfY
 simp[shW]
 omega
theorem shY{more:Int}(h:2<=many):zfY ((crMM many more).gs cr) [(1,[many]),(1,[1]),(1,[0])]=false:=by
 rw[gsMM]
 unfold zfY
 simp[shW]
 omega
theorem shZ{more:Int}(h:2<=many)(h2:0<=more):zfY ((crMM many more).gs cr) [(1,[1]),(1,[many]),(1,[0])]=true:=by
 rw[gsMM]
 unfold zfY
 simp[shW]
 exact⟨by decide,by omega,by omega,by omega⟩
include B Z Q4d Q49 Q43 Q85 Q51 in
theorem zss (M_Hall:Mkr P w K mg b8 "Hall" (C 7) ["self"] 1 (Q41 K C))(M_Run:Mkx P w K mg b8 "Run" (C 9) ["self","hall","number","given","inputs"] 8 (Q63 K C))(Q81:Fn P w K mg b8 "_law_cell_at" ["script","k"] 1 (Q80 K))(Q87:Fn P w K mg b8 "_law_craft_by" ["many","more"] 4 (Q86 K C))(Q4b:Mth (CX1 P w) P w K mg b8 (C 7) "seek" ["self","number"] 8 (Q4a K C))(G_l_stays:Fnx P w K mg b8 "_law_stays" ["hall","number","other"] 10 (Q8a K C))(G_Run_go:Mth CX0 P w K mg b8 (C 9) "go" ["self","fuel"] 10 (Q64 K C))(Q66:Mth CX0 P w K mg b8 (C 9) "steps" ["self"] 1 (Q65 K C))(F:Fun K "law" "law" zku f fd):FnOk P w K mg b8 CX0 11 f fd ["script"] (Q8b K):=by
 refine F.ok (k:=10) zeB (λvs H Q E h=>?_) (λcdv A outer s H vs Q E hr h=>?_)
 ·obtain⟨a,ns,rfl,_⟩:=h
  rfl
 obtain⟨a,ns,rfl,hS,hl,q⟩:=h
 refine⟨_,(QSs.run (za3 (QS.mk (zas (i:=1) zeB.nd (zaQ (zaX K) zad (zaQ zek (zap Q81 hr rfl (zab (pv 0) (zam zad zaa))) zad))))
   (za3 (QS.mk (za4 (zax (k_eq K hr) (zaQ zek (zaQ ziE (zap Q81 hr rfl (zab (pv 0) (zam zad zaa))) zad) zad) zad (zat _)) (zag (zas (i:=1) zeB.nd (zaQ (zaX K) zad (zaQ zek (zaQ ziE (zap Q81 hr rfl (zab (pv 0) (zam zad zaa))) zad) (zaQ zjo (zaQ zmI zad zad) zad))))) zaA))
   (za3 (QS.mk (zas (i:=2) zeB.nd (zav (k_ix K) (zaR (zam zad (zam zad (zb7 (zaQ zek (zaQ ziE (zap Q81 hr rfl (zab (pv 0) (zam zad zaa))) zad) (zaQ (zaX K) (zaQ zmI zad zad) zad)) zaa)))) (zaQ zek (zap Q81 hr rfl (zab (pv 0) (zam zad zaa))) zad))))
   (za3 (QS.mk (zas (i:=3) zeB.nd (zaQ zek (zap Q81 hr rfl (zab (pv 0) (zam zad zaa))) zad)))
   (za3 (QS.mk (zas (i:=4) zeB.nd (zaQ zek (zaQ (zaX K) (zaQ (zaX K) (pv 3) zad) (zaQ zek (zap Q81 hr rfl (zab (pv 0) (zam zad zaa))) zad)) zad)))
   (za3 (QS.mk (zas (i:=5) zeB.nd (zr9 M_Hall hr rfl)))
   (za3 (QS.mk (za1 (zaS Q43 Z.c_Hall hr zjP (pv 5) (zab (pv 3) (zaE (zap Q87 hr rfl (zab (pv 1) (zab (pv 2) zaa))) zaa)))))
   (za3 (QS.mk (zas (i:=6) zeB.nd (QE.run (zbC (zcr (zet (zaz (QE.mk zad) (zbp (zbC (zaz (QE.mk zad) zaG)) zaG))) (zcr (zet (zaz (QE.mk zad) (zbp (zbC (zfV (QE.mk (pv 1)) zaG)) zaG))) (zcr (zet (zaz (QE.mk zad) (zbp (zbC (zaz (QE.mk zad) zaG)) zaG))) zaG)))))))
   (za3 (zpJ PassesOwn.never rfl (za8 K (QE.run (zbC (zbp (zbC (zcr (zet (zaz (QE.mk zad) (zbp (zbC (zaz (QE.mk zad) zaG)) zaG))) (zcr (zet (zaz (QE.mk zad) (zbp (zbC (znr (q_op zjo (QE.mk (pv 1)) (QE.mk zad)) zaG)) zaG))) (zcr (zet (zaz (QE.mk zad) (zbp (zbC (zaz (QE.mk zad) zaG)) zaG))) zaG)))) (zbp (zbC (zcr (zet (zaz (QE.mk zad) (zbp (zbC (zaz (QE.mk zad) zaG)) zaG))) (zcr (zet (zaz (QE.mk zad) (zbp (zbC (znr (q_op (zaX K) (QE.mk (pv 1)) (QE.mk zad)) zaG)) zaG))) (zcr (zet (zaz (QE.mk zad) (zbp (zbC (zaz (QE.mk zad) zaG)) zaG))) zaG)))) zaG))))) (zaD (i:=7) zeB.nd) (zhf (QS.mk (za4 (PW.pt (zgq (zax (k_ne K hr) (zap Q85 hr rfl (zab (pv 5) (zab (pv 3) (zab (pv 7) zaa)))) zad (zat _)) (zfg (zax ze5 (zaS Q4d Z.c_Hall hr za5 (pv 5) (zab (pv 3) zaa)) zcx (zat _))))) (zag (zan zcx)) zaA))))
   (za3 (QS.mk (za4 (zax (k_ne K hr) (zap Q85 hr rfl (zab (pv 5) (zab (pv 3) (zb6 (zaR (zaH (zav (k_ix K) (pv 6) zad) (zaH (zav (k_ix K) (pv 6) zad) (zaH (zav (k_ix K) (pv 6) zad) zaa)))) zaa)))) zad (zat _)) (zag (zan zcx)) zaA))
   (za3 (QS.mk (za1 (zaS Q49 Z.c_Hall hr zjP (pv 5) (zab (pv 3) (zab (pv 6) zaa)))))
   (za3 (QS.mk (za4 (PW.pt (zgq (zax ze5 (zaS Q4d Z.c_Hall hr za5 (pv 5) (zab (pv 3) zaa)) zcx (zat _)) (zfg (zax (k_ne K hr) (zaS Q4b Z.c_Hall hr zjP (pv 5) (zab (pv 3) zaa)) (QE.run (zbC (zcr (zet (zaz (QE.mk zad) (zbp (zbC (zaz (QE.mk zad) zaG)) zaG))) (zaz (QE.mk zcQ) (zcr (zet (zaz (QE.mk zad) (zbp (zbC (zaz (QE.mk zad) zaG)) zaG))) zaG))))) (zat _))))) (zag (zan zcx)) zaA))
   (za3 (QS.mk (za4 (PW.pt (zgq (zax ze5 (zaS Q4d Z.c_Hall hr za5 (pv 5) (zab (pv 3) zaa)) zcx (zat _)) (zgq (zax ze5 (zaS Q51 Z.c_Hall hr za5 (pv 5) (zab (pv 3) zaa)) zcx (zat _)) (zfg (zgf (zcp (zpx G_l_stays hr rfl zjP (zab (pv 5) (zab (pv 3) (zab (pv 4) zaa)))))))))) (zag (zan zcx)) zaA))
   (za3 (QS.mk (zas (i:=8) zeB.nd (zaQ zek (zap Q81 hr rfl (zab (pv 0) (zam zad zaa))) (zaQ zmI zad zad))))
   (za3 (QS.mk (zas (i:=9) zeB.nd (zr0 M_Run hr rfl zjP (zab (pv 5) (zab (pv 3) (zpA (zdu (zab (pv 8) (ziQ (zcR zbJ zad) zaa))) (zb6 (zaR zaa) zaa)))))))
   (zhf (QS.mk (zan (zbF (zbe (k_eq K hr) (zaS G_Run_go Z.c_Run hr za5 (pv 9) (zam zad zaa)) (zdu (zam zbi (zb7 (zaQ (zaX K) (zaQ zc9 (pv 1) (pv 8)) (pv 2)) (ziQ (zcR zbJ zad) zaa)))) (zat _)) (zb2 (zbe (k_eq K hr) (zci Q66 Z.c_Run hr za5 (pv 9)) zad (zat _))))))))))))))))))))))),?_⟩
 walk_at "q"
 nofun
 refine zgp hS (by decide) ?_
 nofun
 have u0:=Int.emod_nonneg (cell ns 0) (show (8:Int)≠0 by decide)
 have u1:=Int.emod_lt_of_pos (cell ns 0) (show (0:Int)<8 by decide)
 generalize cell ns 0 % 8=u at u0 u1 ⊢
 with_reducible refine zgh (λσ H'=>∃ many:Int,2<=many/\many<=1000000000/\σ=[some (.ref a),some (.int many),none,none,none,none,none,none,none,none]/\H'=H) (λNX hN=>?_) (λσ H' hM=>?_)
 ·nofun
  refine zgp hS (by decide) ?_
  nofun
  refine ite2 (λe=>?_) (λe=>?_)
  ·nofun
   refine zgp hS (by decide) ?_
   nofun
   have w0:=Int.emod_nonneg (cell ns 0 / 24) (show (1000000000 - 1:Int)≠0 by decide)
   have w1:=Int.emod_lt_of_pos (cell ns 0 / 24) (show (0:Int)<1000000000 - 1 by decide)
   exact hN _ _ ⟨_,by omega,by omega,rfl,rfl⟩
  ·nofun
   exact hN _ _ ⟨_,by omega,by omega,rfl,rfl⟩
 obtain⟨many,m0,m1,rfl,rfl⟩:=hM
 walk_at "q"
 nofun
 refine zgp hS (by decide) ?_
 nofun
 refine dspL λml H1 s1 g1=>?_
 nofun
 have hS1:=s1.seq hS
 refine zgp hS1 (by decide) ?_
 nofun
 obtain⟨more,r0,r1,er⟩:∃ more:Int,0<=more/\more<=1000000000/\atI [V.int 0,.int 1,.int (cell ns 1 / 3 % (1000000000+1))] (cell ns 1 % 3)=some (.int more):=by
  have w0:=Int.emod_nonneg (cell ns 1 / 3) (show (1000000000+1:Int)≠0 by decide)
  have w1:=Int.emod_lt_of_pos (cell ns 1 / 3) (show (0:Int)<1000000000+1 by decide)
  have z:cell ns 1 % 3=0\/cell ns 1 % 3=1\/cell ns 1 % 3=2:=by omega
  rcases z with z | z | z <;> rw[z]
  ·exact⟨0,by decide,by decide,rfl⟩
  ·exact⟨1,by decide,by decide,rfl⟩
  ·exact⟨_,w0,by omega,rfl⟩
 refine zbX (SqL.of g1) er ?_
 nofun
 walk_at "q"
 nofun
 refine zgp hS1 (by decide) ?_
 have n0:=Int.emod_nonneg (cell ns 2) (show (100:Int)≠0 by decide)
 have n1:=Int.emod_lt_of_pos (cell ns 2) (show (0:Int)<100 by decide)
 nofun
 generalize cell ns 2 % 100=n at n0 n1 ⊢
 walk_at "q"
 nofun
 refine zgp hS1 (by decide) ?_
 have u2:=Int.emod_nonneg (cell ns 3) (show (99:Int)≠0 by decide)
 have u3:=Int.emod_lt_of_pos (cell ns 3) (show (0:Int)<99 by decide)
 nofun
 generalize cell ns 3 % 99=v at u2 u3 ⊢
 have o0:=Int.emod_nonneg (n+1+v) (show (100:Int)≠0 by decide)
 have o1:=Int.emod_lt_of_pos (n+1+v) (show (0:Int)<100 by decide)
 have no:(n+1+v) % 100≠n:=by omega
 generalize (n+1+v) % 100=o at o0 o1 no ⊢
 walk_at "q"
 nofun
 intro ha dx ha0 dx0 ndx
 refine⟨ha,dx,rfl,zac,λla va H2 la0 va0 nlv o2 h1 h2 h3=>⟨rfl,?_⟩⟩
 have s2:Same H1 H2:=znJ ha0 dx0 o2
 have hA0:HAt (C 7) (C 0) H2 ha la va [] (λ_=>crMM many more) [] []:=HAt.start h1 h2 h3 nlv
 nofun
 walk_at "q"
 nofun
 refine⟨ha,dx,_,rfl,h1,zcj,?_⟩
 nofun
 refine⟨many,more,rfl,λp H3 s3 hT=>?_⟩
 nofun
 have hr1:=zqV (by omega) m1 r0 r1
 have nI:n.natAbs<zbm:=by unfold zbm;omega
 refine⟨ha,la,va,p,n,[],λ_=>crMM many more,[],[],crMM many more,rfl,hA0.same s3,hT,zn2,nI,.inr (by simp),λz=>(by rw[hr1] at z;cases z),λ_ H10 ks1 ws1 fp1 o4 hA _ _ hks hws _=>?_⟩
 cases hks (by simp)
 have w0:ws1=[]:=List.eq_nil_iff_forall_not_mem.mpr λm hm=>by
  have:=((hws m).mp hm).1
  cases this
 subst w0
 have d1:NoD H1 H10:=(s2.trans s3).nod.trans (o4.nod λb hb=>?_)
 rotate_left
 ·obtain⟨kl,hla,_⟩:=(hA0.same s3).laid
  obtain⟨kv,hva,_⟩:=(hA0.same s3).vou
  simp only[List.mem_cons,List.not_mem_nil,or_false] at hb
  rcases hb with rfl | rfl
  ·exact⟨_,hla⟩
  ·exact⟨_,hva⟩
 have hS2:=d1.sq.lst hS1
 have c1:setC (λ_=>crMM many more) n (crMM many more) n=crMM many more:=if_pos rfl
 generalize setC (λ_=>crMM many more) n (crMM many more)=cr at *
 have hA:HAt (C 7) (C 0) H10 ha la va [n] cr [] fp1:=hA
 have nn:zaV (cr n).deeds=[]:=by rw[c1];rfl
 have nm:n∈[n]:=zms.mpr rfl
 clear d1 hS hS1 g1 s1 s2 s3 hws hks hA0 o2 o4 hT h1 h2 h3 er
 nofun
 walk_at "q"
 nofun
 refine dspL λrb0 H11 s11 g11=>?_
 nofun
 refine dspT λrt0 H12 s12 g12=>?_
 nofun
 refine dspL λrb1 H13 s13 g13=>?_
 nofun
 refine dspT λrt1 H14 s14 g14=>?_
 nofun
 refine dspL λrb2 H15 s15 g15=>?_
 nofun
 refine dspT λrt2 H16 s16 g16=>?_
 nofun
 refine dspL λrl H17 s17 g17=>?_
 nofun
 walk_at "q"
 nofun
 refine dspL λxb0 H18 s18 g18=>?_
 nofun
 refine dspT λxt0 H19 s19 g19=>?_
 nofun
 refine dspL λxb1 H20 s20 g20=>?_
 nofun
 refine dspT λxt1 H21 s21 g21=>?_
 nofun
 refine dspL λxb2 H22 s22 g22=>?_
 nofun
 refine dspT λxt2 H23 s23 g23=>?_
 nofun
 refine dspL λxl H24 s24 g24=>?_
 nofun
 refine dspL λyb0 H25 s25 g25=>?_
 nofun
 refine dspT λyt0 H26 s26 g26=>?_
 nofun
 refine dspL λyb1 H27 s27 g27=>?_
 nofun
 refine dspT λyt1 H28 s28 g28=>?_
 nofun
 refine dspL λyb2 H29 s29 g29=>?_
 nofun
 refine dspT λyt2 H30 s30 g30=>?_
 nofun
 refine dspL λyl H31 s31 g31=>?_
 nofun
 refine⟨(by walk_at "sm"),λfl hfl=>?_⟩
 have s32:=zah hfl (.lst [V.ref xl,.ref yl])
 have g32:(upd H31 fl (.lst [V.ref xl,.ref yl])) fl=some (.lst [V.ref xl,.ref yl]):=zac
 generalize upd H31 fl (.lst [V.ref xl,.ref yl])=H32 at *
 nofun
 have u31:=s32
 have u30:=s31.trans u31
 have u29:=s30.trans u30
 have u28:=s29.trans u29
 have u27:=s28.trans u28
 have u26:=s27.trans u27
 have u25:=s26.trans u26
 have u24:=s25.trans u25
 have u23:=s24.trans u24
 have u22:=s23.trans u23
 have u21:=s22.trans u22
 have u20:=s21.trans u21
 have u19:=s20.trans u20
 have u18:=s19.trans u19
 have u17:=s18.trans u18
 have u16:=s17.trans u17
 have u15:=s16.trans u16
 have u14:=s15.trans u15
 have u13:=s14.trans u14
 have u12:=s13.trans u13
 have u11:=s12.trans u12
 have u10:=s11.trans u11
 have rR:Reps K H32 ([((1:Int),[(1:Int)]),(1,[many]),(1,[0])].map zhU) [V.ref rt0,.ref rt1,.ref rt2]:=zn3 (row1 (u12 _ _ g12) (u11 _ _ g11)) (row1 (u14 _ _ g14) (u13 _ _ g13)) (row1 (u16 _ _ g16) (u15 _ _ g15))
 have rX:Reps K H32 ([((1:Int),[(1:Int)]),(1,[many - 1]),(1,[0])].map zhU) [V.ref xt0,.ref xt1,.ref xt2]:=zn3 (row1 (u19 _ _ g19) (u18 _ _ g18)) (row1 (u21 _ _ g21) (u20 _ _ g20)) (row1 (u23 _ _ g23) (u22 _ _ g22))
 have rY:Reps K H32 ([((1:Int),[(1:Int)]),(1,[many+1]),(1,[0])].map zhU) [V.ref yt0,.ref yt1,.ref yt2]:=zn3 (row1 (u26 _ _ g26) (u25 _ _ g25)) (row1 (u28 _ _ g28) (u27 _ _ g27)) (row1 (u30 _ _ g30) (u29 _ _ g29))
 have hrl:=u17 _ _ g17
 have hxl:=u24 _ _ g24
 have hyl:=u31 _ _ g31
 have hA1:=hA.same u10
 have hS3:=u10.seq hS2
 clear u10 u11 u12 u13 u14 u15 u16 u17 u18 u19 u20 u21 u22 u23 u24 u25 u26 u27 u28 u29 u30 u31 s11 s12 s13 s14 s15 s16 s17 s18 s19 s20 s21 s22 s23 s24 s25 s26 s27 s28 s29 s30 s31 s32 g11 g12 g13 g14 g15 g16 g17 g18 g19 g20 g21 g22 g23 g24 g25 g26 g27 g28 g29 g30 g31 hA hS2
 refine⟨fl,rfl,⟨_,SqL.of g32⟩,?_⟩
 refine ziP (xs:=[V.ref xl,.ref yl]) (λi σ H'=>∃ x,σ=[some (.ref a),some (.int many),some (.int more),some (.int n),some (.int o),some (.ref ha),some (.ref rl),x,none,none]/\Same H32 H') ⟨none,rfl,Same.refl _⟩ (λi σ H' _ ⟨_,_,s'⟩=>SqL.of (s' _ _ g32)) ?_ ?_
 ·rintro i v σ H33 hv ⟨x,rfl,s6⟩
  obtain⟨ra,w,ys,rfl,hra,hrs,hft,hne⟩:∃ (ra:Addr) (w:Int) (ys:List V),v=.ref ra/\H32 ra=some (.lst ys)/\Reps K H32 ([((1:Int),[(1:Int)]),(1,[w]),(1,[0])].map zhU) ys/\zf8 [(1,[1]),(1,[w]),(1,[0])]/\w≠many:=by
   match i,hv with
   | 0,hv=>exact⟨xl,_,_,(Option.some.inj hv).symm,hxl,rX,fit3 (by decide) (by decide) (by omega) (by omega) (by decide) (by decide),by omega⟩
   | 1,hv=>exact⟨yl,_,_,(Option.some.inj hv).symm,hyl,rY,fit3 (by decide) (by decide) (by omega) (by omega) (by decide) (by decide),by omega⟩
   | i+2,hv=>simp at hv
  nofun
  refine⟨ha,la,va,ra,n,[n],cr,[],fp1,_,ys,rfl,hA1.same s6,nI,SqL.of (s6 _ _ hra),Reps.same s6 _ hrs,hft,nm,λ⟨m,mm,_⟩=>(by rw[nn] at mm;cases mm),λ_=>⟨by rw[c1];exact shX hne,λH34 s7=>?_⟩⟩
  have hA6:=hA1.same (s6.trans s7)
  obtain⟨dx6,hh6⟩:=hA6.ins
  nofun
  rw[decide_eq_true rfl]
  nofun
  refine⟨ha,dx6,_,rfl,hh6,zcj,?_⟩
  nofun
  refine⟨ha,la,va,n,[n],cr,[],fp1,rfl,hA6,?_⟩
  rw[decide_eq_false List.not_mem_nil]
  nofun
  refine zhh ?_
  rw[decide_eq_true rfl]
  nofun
  exact⟨_,rfl,s6.trans s7⟩
 rintro σ H40 ⟨x,rfl,s40⟩
 have rR4:=Reps.same s40 _ rR
 have hrl4:=s40 _ _ hrl
 have hA4:=hA1.same s40
 have hS4:=s40.seq hS3
 clear rR rX rY hrl hxl hyl hA1 hS3 g32 s40
 nofun
 walk_at "q"
 nofun
 refine zbX (SqL.of hrl4) (v:=.ref rt1) (zaB (j:=1) rfl) ?_
 nofun
 refine zbX (SqL.of hrl4) (v:=.ref rt0) zbs ?_
 nofun
 refine zbX (SqL.of hrl4) (v:=.ref rt2) (zaB (j:=2) rfl) ?_
 nofun
 refine dspL λzl H41 s41 g41=>?_
 nofun
 have rZ:Reps K H41 ([((1:Int),[(many:Int)]),(1,[1]),(1,[0])].map zhU) [V.ref rt1,.ref rt0,.ref rt2]:=by
  have z:=Reps.same s41 _ rR4
  simp only[zmc,List.map_nil,Reps] at z ⊢
  obtain⟨_,_,e1,z1,_,_,e2,z2,_,_,e3,z3,e4⟩:=z
  cases e1
  cases e2
  cases e3
  exact⟨_,_,rfl,z2,_,_,rfl,z1,_,_,rfl,z3,rfl⟩
 refine⟨ha,la,va,zl,n,[n],cr,[],fp1,_,_,rfl,hA4.same s41,nI,SqL.of g41,rZ,fit3 (by omega) (by omega) (by decide) (by decide) (by decide) (by decide),nm,λ⟨m,mm,_⟩=>(by rw[nn] at mm;cases mm),λ_=>⟨by rw[c1];exact shY m0,λH42 s42=>?_⟩⟩
 have t42:=s41.trans s42
 have rR5:=Reps.same t42 _ rR4
 have hrl5:=t42 _ _ hrl4
 have hA5:=hA4.same t42
 have hS5:=t42.seq hS4
 clear rR4 hrl4 hA4 hS4 t42 s41 s42 g41 rZ
 nofun
 rw[decide_eq_true rfl]
 nofun
 walk_at "q"
 nofun
 obtain⟨dx5,hh5⟩:=hA5.ins
 refine⟨ha,dx5,_,rfl,hh5,zcj,?_⟩
 nofun
 refine⟨ha,la,va,rl,n,[n],cr,[],fp1,_,_,rfl,hA5,nI,SqL.of hrl5,rR5,fit3 (by decide) (by decide) (by omega) (by omega) (by decide) (by decide),λz=>absurd nm z,λ_ ⟨m,mm,_⟩=>(by rw[nn] at mm;cases mm),λ_ _ z=>(by rw[c1,shZ m0 r0] at z;cases z),λ_ _ _ H43 ws3 o6 hA6 hws3=>?_⟩
 have hS6:=(o6.nod λb hb=>(by
  obtain⟨kv,hva,_⟩:=hA5.vou
  rw[zms.mp hb];exact⟨_,hva⟩)).sq.lst hS5
 have hw3:n∈ws3:=(hws3 n).mpr (.inr rfl)
 clear rR5 hrl5 hA5 hh5 hS5 o6
 nofun
 walk_at "q"
 nofun
 obtain⟨dx6,hh6⟩:=hA6.ins
 refine⟨ha,dx6,_,rfl,hh6,zcj,?_⟩
 nofun
 refine⟨ha,la,va,n,[n],cr,ws3,fp1,rfl,hA6,?_⟩
 rw[decide_eq_true hw3]
 nofun
 refine zhh ?_
 rw[decide_eq_true rfl]
 nofun
 refine⟨ha,dx6,_,rfl,hh6,zcj,?_⟩
 nofun
 refine⟨ha,la,va,n,[n],cr,ws3,fp1,rfl,hA6,nI,λz=>absurd nm z,λ_ ⟨m,mm,_⟩=>(by rw[nn] at mm;cases mm),λ_ _ v H50 ws4 o7 hA7 hws4 n7=>?_⟩
 have hS7:=(o7.nod λb hb=>(by
  obtain⟨kv,hva,_⟩:=hA6.vou
  rw[zms.mp hb];exact⟨_,hva⟩)).sq.lst hS6
 have hw4:∀ m,m∈ws4↔m=n:=λm=>by
  rw[hws4,hws3]
  exact⟨λz=>by rcases z with (z | z) | z;cases z;exact z;exact z.1,λz=>.inl (.inr z)⟩
 clear hA6 hh6 hS6 o7 hws3 hws4 hw3
 rw[c1,gsMM] at n7
 simp only[zmc,List.map_nil,so1,soW m0,so3] at n7
 obtain⟨sl,svs,sfp,rfl,sl0,hsl,hsr,_⟩:=New.lso n7
 have hsR:=zaj.reps (K:=K) _ hsr
 nofun
 refine dspL λqb0 H51 s51 g51=>?_
 nofun
 refine dspT λqt0 H52 s52 g52=>?_
 nofun
 refine dspL λqb1 H53 s53 g53=>?_
 nofun
 refine dspT λqt1 H54 s54 g54=>?_
 nofun
 refine dspL λql H55 s55 g55=>?_
 nofun
 have u54:=s55
 have u53:=s54.trans u54
 have u52:=s53.trans u53
 have u51:=s52.trans u52
 have u50:=s51.trans u51
 have q1:Rep K H55 (.lst [.tup [.int 1,nums [1]],.non,.tup [.int 1,nums [0]]]) (.ref sl):=by
  unfold Rep
  exact⟨sl,svs,rfl,SqL.of (u50 _ _ hsl),Reps.same u50 _ hsR⟩
 have q2:Rep K H55 (.lst [.tup [.int 1,nums [1]],.non,.tup [.int 1,nums [0]]]) (.ref ql):=by
  unfold Rep
  exact⟨ql,_,rfl,SqL.of g55,zn3 (row1 (u52 _ _ g52) (u51 _ _ g51)) (by unfold Rep;rfl) (row1 (u54 _ _ g54) (u53 _ _ g53))⟩
 refine i_neD q1 q2 (by simp[nums,dep,deps]) ?_
 rw[zeo]
 have hA8:=hA7.same u50
 have hS8:=u50.seq hS7
 clear hA7 hS7 q1 q2 hsR hsr hsl n7 u50 u51 u52 u53 u54 s51 s52 s53 s54 s55 g51 g52 g53 g54 g55
 nofun
 walk_at "q"
 nofun
 obtain⟨dx8,hh8⟩:=hA8.ins
 refine⟨ha,dx8,_,rfl,hh8,zcj,?_⟩
 nofun
 refine⟨ha,la,va,n,[n],cr,ws4,fp1,rfl,hA8,?_⟩
 rw[decide_eq_true ((hw4 n).mpr rfl)]
 nofun
 refine zhh ?_
 rw[decide_eq_true rfl]
 nofun
 refine⟨ha,dx8,_,rfl,hh8,zcj,?_⟩
 nofun
 have clo:∀ m,∀ k∈zbw [n] cr m,k∈[n]:=λm k hk=>by
  unfold zbw at hk
  split at hk
  ·rename_i z
   rw[zms.mp z,nn] at hk;cases hk
  ·cases hk
 refine⟨ha,la,va,n,[n],cr,ws4,fp1,[n],rfl,hA8,nm,clo,by simp,λH60 b s60 hb=>?_⟩
 have bt:b=true:=hb.mpr λk hk=>(hw4 k).mpr (by
  cases hk with
  | me=>rfl
  | go _ hk=>exact zms.mp (clo _ _ hk))
 subst bt
 have hA9:=hA8.same s60
 have hS9:=s60.seq hS8
 clear hA8 hh8 hS8 hb
 nofun
 refine zhh ?_
 rw[decide_eq_true rfl]
 nofun
 refine⟨ha,la,va,n,o,many,more,cr,ws4,fp1,rfl,hA9,c1,hw4,n0,n1,o0,o1,no,λH61 ks2 cr2 ws5 fp5 nd hA10 hn10 c10=>?_⟩
 have hS10:=nd.sq.lst hS9
 clear hA9 hS9 nd
 nofun
 walk_at "q"
 nofun
 refine zgp hS10 (by decide) ?_
 nofun
 rw[show (10 ^ Int.toNat 18:Int)=1000000000000000000 by decide]
 have v0:=Int.emod_nonneg (cell ns 4) (show (1000000000000000000:Int)≠0 by decide)
 have v1:=Int.emod_lt_of_pos (cell ns 4) (show (0:Int)<1000000000000000000 by decide)
 nofun
 generalize cell ns 4 % 1000000000000000000=given at v0 v1 ⊢
 walk_at "q"
 nofun
 refine dspT λgt H62 s62 g62=>?_
 nofun
 refine dspL λza H63 s63 g63=>?_
 nofun
 intro r dr rr0 dr0 ndr
 have sm:Same H63 (upd (upd H63 dr (.own r)) r (.ins (C 9) dr [])):=λb o e=>by
  rw[zai (zao e rr0),zai (zao e dr0)];exact e
 have fb:zaM (cr2 n).needs (zeO given (-1))=none:=by
  rw[c10]
  simp[zaM,crMM,zpc,zdz,zeO,dot]
  omega
 refine⟨r,dr,ha,la,va,gt,za,n,given,-1,ks2,cr2,ws5,fp5,[],rfl,zac,hA10.same (s62.trans (s63.trans sm)),.inr (SqT.of (sm _ _ (s63 _ _ g62))),SqL.of (sm _ _ g63),nI,λz=>absurd hn10 z,λ_ z=>absurd fb z,λ_ _ H64 ka ia sa fas kfp nn2 m1' RX pm0 _=>⟨rfl,?_⟩⟩
 have wb:WfF nn2 cr2 (zdE n given (-1)):=⟨pm0.mem_iff.mpr hn10,Int.le_refl _,by show (0:Int)<=_;omega,rfl,rfl⟩
 have w0:WfR nn2 cr2 (zdD cr2 ⟨[],[],0,none⟩ (zdE n given (-1)) []):=zdY ⟨λf hf=>by rw[zms.mp hf];exact wb,λf hf=>by cases hf⟩
 have l2:(zdD cr2 ⟨[],[],0,none⟩ (zdE n given (-1)) []).st.length<=20:=Nat.le_trans zgM (by simp)
 obtain⟨dr2,evr,hr',_⟩:=RX.ins
 nofun
 refine⟨r,dr2,_,rfl,hr',zcf,?_⟩
 nofun
 refine⟨r,ka,ia,sa,nn2,cr2,fas,_,kfp,5,rfl,RX,w0,l2,λtold H65 fas2 _ RX2 tl _ _=>?_⟩
 obtain⟨e5,e6⟩:=goMM (ks:=nn2) c10 (by omega) r0 v0
 rw[show (5:Int).toNat=5 from rfl] at tl RX2
 rw[e5] at tl
 obtain⟨Tt,rfl,hTt⟩:=tl
 nofun
 refine⟨(by walk_at "sm"),λTc hTc=>?_⟩
 have s66:=zah hTc (.tup [V.str "done",.int (many * given+more),.int (-1)])
 have dR:∀ {h:Hp}{t:Addr},h t=some (.tup [V.str "done",.int (many * given+more),.int (-1)])->Rep K h (.tup [.str "done",.int (many * given+more),.int (-1)]) (.ref t):=λ{h t} e=>by
  unfold Rep
  exact⟨t,_,rfl,SqT.of e,zn3 (by unfold Rep;rfl) (by unfold Rep;rfl) (by unfold Rep;rfl)⟩
 refine zox (dR (s66 _ _ hTt)) (dR zac) (by simp[dep,deps]) ?_
 rw[zeo]
 nofun
 have RX3:=RX2.same s66
 obtain⟨dr3,ev3,hr3,_⟩:=RX3.ins
 refine⟨r,dr3,_,rfl,hr3,zcf,?_⟩
 nofun
 refine⟨r,ka,ia,sa,nn2,cr2,fas2,_,kfp,rfl,RX3,?_⟩
 rw[e6]
 nofun
 rw[decide_eq_true rfl]
 exact q _
end
abbrev FQ (K:Fg)(f:Addr)(x q:Str)(s:Stmt):Prop:=∃ oc od sl kV dc pm an cd ct,K.lookup f=some ⟨oc,od,.func (fnOf x q (zdf s) (zb4 s) (zae s) .none kV dc pm an cd ct),sl⟩/\codeIn K cd q=true/\keepIn K (.ref f)=true
theorem zaJ{x q:Str}{s:Stmt}(h:FQ K f x q s):∃ fd,Fun K x q s f fd:=by
 obtain⟨_,_,_,_,_,_,_,_,_,l,c,k⟩:=h
 exact⟨_,zpp l c k⟩
abbrev NI (K:Fg)(x:Str)(f:Addr):Prop:=nsIn K mainGlobals x=some (some (.ref f))
abbrev FI (K:Fg)(C:Addr)(x:Str)(f:Addr):Prop:=findIn K (.ref C) x=some (some (.ref f))
abbrev KI (K:Fg)(f:Addr):Prop:=keepIn K (.ref f)=true
abbrev IF (K:Fg)(f:Addr):Prop:=isFn K (.ref f)=true
theorem all_mk{l:PySem.W.OpenLaw}{w:World}{h:Heap}{fa:Addr}(X:K.In h)(G:h.Ns mainGlobals mg)(hfa:mg "law"=some (.ref fa))(hA:((zBoo K).all id,zSee K)=(true,zSig)):
  ∃ fd:FuncData,(∀ (s:Shared) (v:Value),BindsTo s fd ⟨[v],[]⟩ [("script",v)])/\∀ b8:Heap,K.In b8->b8.Ns mainGlobals mg->FnOk l.prog w K mg b8 CX0 11 fa fd ["script"] (Q8b K):=by
 obtain⟨_,_,_,xa_HAND_SPOTS⟩:=L2.zlz (bA hA 223 rfl)
 obtain⟨_,_,_,xa_LEFT_SPOTS⟩:=L2.zlz (bA hA 225 rfl)
 obtain⟨_,_,_,xa_LEFT_AS_HANDS⟩:=L2.zlz (bA hA 227 rfl)
 obtain⟨_,_,_,xa_WHOLES⟩:=L2.zlz (bA hA 239 rfl)
 obtain⟨_,_,_,_,_,_,_,_,_,_,_,_,_,_,_,o1⟩:=L2.zim (bA hA 241 rfl)
 obtain⟨_,_,_,_,_,_,_,_,_,_,_,_,_,_,_,o2⟩:=L2.zim (bA hA 248 rfl)
 obtain⟨_,_,_,_,_,_,_,_,_,_,_,_,_,_,_,o3⟩:=L2.zim (bA hA 255 rfl)
 obtain⟨_,_,_,_,_,_,_,_,_,_,_,_,_,_,_,o4⟩:=L2.zim (bA hA 262 rfl)
 obtain⟨_,_,_,_,_,_,_,_,_,_,_,_,_,_,_,o5⟩:=L2.zim (bA hA 269 rfl)
 obtain⟨_,_,_,_,_,_,_,_,_,_,_,_,_,_,_,o6⟩:=L2.zim (bA hA 276 rfl)
 have e:=hfa.symm.trans (mg_of X G (eA hA 205 rfl))
 cases e
 have B:Bl K mg:=⟨mg_none_of X G (eA hA 207 rfl),mg_none_of X G (eA hA 208 rfl),mg_none_of X G (eA hA 209 rfl),mg_none_of X G (eA hA 210 rfl),mg_none_of X G (eA hA 211 rfl),mg_none_of X G (eA hA 212 rfl),mg_none_of X G (eA hA 213 rfl),mg_none_of X G (eA hA 214 rfl),mg_none_of X G (eA hA 215 rfl),mg_none_of X G (eA hA 216 rfl),mg_none_of X G (eA hA 217 rfl),mg_none_of X G (eA hA 218 rfl),mg_none_of X G (eA hA 219 rfl),⟨_,mg_of X G (eA hA 220 rfl)⟩,⟨_,mg_of X G (eA hA 221 rfl)⟩,⟨_,mg_of X G (eA hA 228 rfl)⟩,⟨_,mg_of X G (eA hA 229 rfl)⟩,⟨_,mg_of X G (eA hA 230 rfl)⟩,⟨_,mg_of X G (eA hA 231 rfl)⟩,⟨_,mg_of X G (eA hA 232 rfl)⟩,⟨_,mg_of X G (eA hA 233 rfl)⟩,⟨_,mg_of X G (eA hA 234 rfl)⟩,⟨_,mg_of X G (eA hA 235 rfl)⟩,⟨_,mg_of X G (eA hA 236 rfl)⟩,⟨_,mg_of X G (eA hA 237 rfl)⟩,⟨_,mg_of X G (eA hA 240 rfl)⟩,⟨_,mg_of X G (eA hA 222 rfl),λ_=>.inr ⟨_,_,_,xa_HAND_SPOTS,rfl,rfl,zaq (by simp),.cons ⟨_,rfl⟩ (.cons ⟨_,rfl⟩ (.cons ⟨_,rfl⟩ (.cons ⟨_,rfl⟩ (.nil))))⟩⟩,⟨_,mg_of X G (eA hA 224 rfl),λ_=>.inr ⟨_,_,_,xa_LEFT_SPOTS,rfl,rfl,zaq (by simp),.cons ⟨_,rfl⟩ (.cons ⟨_,rfl⟩ (.nil))⟩⟩,⟨_,mg_of X G (eA hA 226 rfl),λ_=>.inr ⟨_,_,_,xa_LEFT_AS_HANDS,rfl,rfl,zaq (by simp),.cons ⟨_,rfl⟩ (.cons ⟨_,rfl⟩ (.cons ⟨_,rfl⟩ (.cons ⟨_,rfl⟩ (.cons ⟨_,rfl⟩ (.cons ⟨_,rfl⟩ (.cons ⟨_,rfl⟩ (.cons ⟨_,rfl⟩ (.nil))))))))⟩⟩,⟨_,mg_of X G (eA hA 238 rfl),λ_=>.inr ⟨_,_,_,xa_WHOLES,rfl,rfl,zaq (by simp),.cons ⟨_,rfl⟩ (.cons ⟨_,rfl⟩ (.cons ⟨_,rfl⟩ (.cons ⟨_,rfl⟩ (.nil))))⟩⟩⟩
 have Z:Zt K mg (λi=>[70,192,205,217,229,241,253,455,495,628].getD i 0):=⟨⟨(bA hA 283 rfl),(bA hA 284 rfl),(bA hA 285 rfl),(eA hA 286 rfl)⟩,mg_of X G (eA hA 0 rfl),(eA hA 289 rfl),(eA hA 290 rfl),(eA hA 291 rfl),(eA hA 292 rfl),⟨⟨_,_,_,_,_,_,_,_,_,_,_,_,_,_,_,o1⟩,(bA hA 242 rfl)⟩,mg_of X G (eA hA 1 rfl),⟨(eA hA 243 rfl),(eA hA 244 rfl),(eA hA 245 rfl),(eA hA 322 rfl),(eA hA 323 rfl),(eA hA 246 rfl),(eA hA 247 rfl)⟩,⟨⟨_,_,_,_,_,_,_,_,_,_,_,_,_,_,_,o2⟩,(bA hA 249 rfl)⟩,mg_of X G (eA hA 2 rfl),⟨(eA hA 250 rfl),(eA hA 251 rfl),(eA hA 252 rfl),(eA hA 322 rfl),(eA hA 323 rfl),(eA hA 253 rfl),(eA hA 254 rfl)⟩,⟨⟨_,_,_,_,_,_,_,_,_,_,_,_,_,_,_,o3⟩,(bA hA 256 rfl)⟩,mg_of X G (eA hA 3 rfl),⟨(eA hA 257 rfl),(eA hA 258 rfl),(eA hA 259 rfl),(eA hA 322 rfl),(eA hA 323 rfl),(eA hA 260 rfl),(eA hA 261 rfl)⟩,⟨⟨_,_,_,_,_,_,_,_,_,_,_,_,_,_,_,o4⟩,(bA hA 263 rfl)⟩,mg_of X G (eA hA 4 rfl),⟨(eA hA 264 rfl),(eA hA 265 rfl),(eA hA 266 rfl),(eA hA 322 rfl),(eA hA 323 rfl),(eA hA 267 rfl),(eA hA 268 rfl)⟩,⟨⟨_,_,_,_,_,_,_,_,_,_,_,_,_,_,_,o5⟩,(bA hA 270 rfl)⟩,mg_of X G (eA hA 5 rfl),⟨(eA hA 271 rfl),(eA hA 272 rfl),(eA hA 273 rfl),(eA hA 322 rfl),(eA hA 323 rfl),(eA hA 274 rfl),(eA hA 275 rfl)⟩,⟨⟨_,_,_,_,_,_,_,_,_,_,_,_,_,_,_,o6⟩,(bA hA 277 rfl)⟩,mg_of X G (eA hA 6 rfl),⟨(eA hA 278 rfl),(eA hA 279 rfl),(eA hA 280 rfl),(eA hA 322 rfl),(eA hA 323 rfl),(eA hA 281 rfl),(eA hA 282 rfl)⟩,⟨(bA hA 293 rfl),(bA hA 294 rfl),(bA hA 295 rfl),(eA hA 296 rfl)⟩,mg_of X G (eA hA 7 rfl),(eA hA 299 rfl),(eA hA 300 rfl),⟨(bA hA 301 rfl),(bA hA 302 rfl),(bA hA 303 rfl),(eA hA 304 rfl)⟩,mg_of X G (eA hA 8 rfl),(eA hA 307 rfl),(eA hA 308 rfl),(eA hA 309 rfl),(eA hA 310 rfl),⟨(bA hA 311 rfl),(bA hA 312 rfl),(bA hA 313 rfl),(eA hA 314 rfl)⟩,mg_of X G (eA hA 9 rfl),(eA hA 317 rfl),(eA hA 318 rfl),(eA hA 319 rfl),(eA hA 320 rfl),(eA hA 321 rfl),(by decide)⟩
 obtain⟨_,F1⟩:=zaJ (fA hA 0 11 79 _ _ _ rfl rfl rfl)
 obtain⟨_,F2⟩:=zaJ (fA hA 1 13 84 _ _ _ rfl rfl rfl)
 obtain⟨_,F3⟩:=zaJ (fA hA 2 16 67 _ _ _ rfl rfl rfl)
 obtain⟨_,F4⟩:=zaJ (fA hA 3 18 28 _ _ _ rfl rfl rfl)
 obtain⟨_,F5⟩:=zaJ (fA hA 4 20 35 _ _ _ rfl rfl rfl)
 obtain⟨_,F6⟩:=zaJ (fA hA 5 22 40 _ _ _ rfl rfl rfl)
 obtain⟨_,F7⟩:=zaJ (fA hA 6 24 45 _ _ _ rfl rfl rfl)
 obtain⟨_,F8⟩:=zaJ (fA hA 7 26 52 _ _ _ rfl rfl rfl)
 obtain⟨_,F9⟩:=zaJ (fA hA 8 28 91 _ _ _ rfl rfl rfl)
 obtain⟨_,F10⟩:=zaJ (fA hA 9 30 96 _ _ _ rfl rfl rfl)
 obtain⟨_,F11⟩:=zaJ (fA hA 10 32 177 _ _ _ rfl rfl rfl)
 obtain⟨_,F12⟩:=zaJ (fA hA 11 34 170 _ _ _ rfl rfl rfl)
 obtain⟨_,F13⟩:=zaJ (fA hA 12 36 130 _ _ _ rfl rfl rfl)
 obtain⟨_,F14⟩:=zaJ (fA hA 13 38 125 _ _ _ rfl rfl rfl)
 obtain⟨_,F15⟩:=zaJ (fA hA 14 40 110 _ _ _ rfl rfl rfl)
 obtain⟨_,F16⟩:=zaJ (fA hA 15 42 163 _ _ _ rfl rfl rfl)
 obtain⟨_,F17⟩:=zaJ (fA hA 16 44 156 _ _ _ rfl rfl rfl)
 obtain⟨_,F18⟩:=zaJ (fA hA 17 46 151 _ _ _ rfl rfl rfl)
 obtain⟨_,F19⟩:=zaJ (fA hA 18 48 144 _ _ _ rfl rfl rfl)
 obtain⟨_,F20⟩:=zaJ (fA hA 19 50 137 _ _ _ rfl rfl rfl)
 obtain⟨_,F21⟩:=zaJ (fA hA 20 52 115 _ _ _ rfl rfl rfl)
 obtain⟨_,F22⟩:=zaJ (fA hA 21 54 120 _ _ _ rfl rfl rfl)
 obtain⟨_,F23⟩:=zaJ (fA hA 22 56 103 _ _ _ rfl rfl rfl)
 obtain⟨_,F24⟩:=zaJ (fA hA 23 58 182 _ _ _ rfl rfl rfl)
 obtain⟨_,F25⟩:=zaJ (fA hA 24 60 320 _ _ _ rfl rfl rfl)
 obtain⟨_,F26⟩:=zaJ (fA hA 25 62 310 _ _ _ rfl rfl rfl)
 obtain⟨_,F27⟩:=zaJ (fA hA 26 64 315 _ _ _ rfl rfl rfl)
 obtain⟨_,F28⟩:=zaJ (fA hA 27 66 327 _ _ _ rfl rfl rfl)
 obtain⟨_,F29⟩:=zaJ (fA hA 28 68 270 _ _ _ rfl rfl rfl)
 obtain⟨_,F30⟩:=zaJ (fA hA 29 70 305 _ _ _ rfl rfl rfl)
 obtain⟨_,F31⟩:=zaJ (fA hA 30 72 284 _ _ _ rfl rfl rfl)
 obtain⟨_,F32⟩:=zaJ (fA hA 31 74 291 _ _ _ rfl rfl rfl)
 obtain⟨_,F33⟩:=zaJ (fA hA 32 76 298 _ _ _ rfl rfl rfl)
 obtain⟨_,F34⟩:=zaJ (fA hA 33 78 277 _ _ _ rfl rfl rfl)
 obtain⟨_,F35⟩:=zaJ (fA hA 34 80 263 _ _ _ rfl rfl rfl)
 obtain⟨_,F36⟩:=zaJ (fA hA 35 82 332 _ _ _ rfl rfl rfl)
 obtain⟨_,F37⟩:=zaJ (fA hA 36 84 344 _ _ _ rfl rfl rfl)
 obtain⟨_,F38⟩:=zaJ (fA hA 37 86 339 _ _ _ rfl rfl rfl)
 obtain⟨_,F39⟩:=zaJ (fA hA 38 89 358 _ _ _ rfl rfl rfl)
 obtain⟨_,F40⟩:=zaJ (fA hA 39 92 445 _ _ _ rfl rfl rfl)
 obtain⟨_,F41⟩:=zaJ (fA hA 40 95 438 _ _ _ rfl rfl rfl)
 obtain⟨_,F42⟩:=zaJ (fA hA 41 98 452 _ _ _ rfl rfl rfl)
 obtain⟨_,F43⟩:=zaJ (fA hA 42 100 466 _ _ _ rfl rfl rfl)
 obtain⟨_,F44⟩:=zaJ (fA hA 43 103 365 _ _ _ rfl rfl rfl)
 obtain⟨_,F45⟩:=zaJ (fA hA 44 106 379 _ _ _ rfl rfl rfl)
 obtain⟨_,F46⟩:=zaJ (fA hA 45 109 386 _ _ _ rfl rfl rfl)
 obtain⟨_,F47⟩:=zaJ (fA hA 46 111 471 _ _ _ rfl rfl rfl)
 obtain⟨_,F48⟩:=zaJ (fA hA 47 114 424 _ _ _ rfl rfl rfl)
 obtain⟨_,F49⟩:=zaJ (fA hA 48 117 431 _ _ _ rfl rfl rfl)
 obtain⟨_,F50⟩:=zaJ (fA hA 49 120 393 _ _ _ rfl rfl rfl)
 obtain⟨_,F51⟩:=zaJ (fA hA 50 123 398 _ _ _ rfl rfl rfl)
 obtain⟨_,F52⟩:=zaJ (fA hA 51 126 405 _ _ _ rfl rfl rfl)
 obtain⟨_,F53⟩:=zaJ (fA hA 52 129 412 _ _ _ rfl rfl rfl)
 obtain⟨_,F54⟩:=zaJ (fA hA 53 132 417 _ _ _ rfl rfl rfl)
 obtain⟨_,F55⟩:=zaJ (fA hA 54 135 485 _ _ _ rfl rfl rfl)
 obtain⟨_,F56⟩:=zaJ (fA hA 55 138 492 _ _ _ rfl rfl rfl)
 obtain⟨_,F57⟩:=zaJ (fA hA 56 141 618 _ _ _ rfl rfl rfl)
 obtain⟨_,F58⟩:=zaJ (fA hA 57 144 590 _ _ _ rfl rfl rfl)
 obtain⟨_,F59⟩:=zaJ (fA hA 58 146 639 _ _ _ rfl rfl rfl)
 obtain⟨_,F60⟩:=zaJ (fA hA 59 149 625 _ _ _ rfl rfl rfl)
 obtain⟨_,F61⟩:=zaJ (fA hA 60 152 611 _ _ _ rfl rfl rfl)
 obtain⟨_,F62⟩:=zaJ (fA hA 61 155 604 _ _ _ rfl rfl rfl)
 obtain⟨_,F63⟩:=zaJ (fA hA 62 158 597 _ _ _ rfl rfl rfl)
 obtain⟨_,F64⟩:=zaJ (fA hA 63 161 583 _ _ _ rfl rfl rfl)
 obtain⟨_,F65⟩:=zaJ (fA hA 64 164 576 _ _ _ rfl rfl rfl)
 obtain⟨_,F66⟩:=zaJ (fA hA 65 166 646 _ _ _ rfl rfl rfl)
 obtain⟨_,F67⟩:=zaJ (fA hA 66 169 513 _ _ _ rfl rfl rfl)
 obtain⟨_,F68⟩:=zaJ (fA hA 67 172 548 _ _ _ rfl rfl rfl)
 obtain⟨_,F69⟩:=zaJ (fA hA 68 175 555 _ _ _ rfl rfl rfl)
 obtain⟨_,F70⟩:=zaJ (fA hA 69 178 562 _ _ _ rfl rfl rfl)
 obtain⟨_,F71⟩:=zaJ (fA hA 70 181 569 _ _ _ rfl rfl rfl)
 obtain⟨_,F72⟩:=zaJ (fA hA 71 184 541 _ _ _ rfl rfl rfl)
 obtain⟨_,F73⟩:=zaJ (fA hA 72 187 520 _ _ _ rfl rfl rfl)
 obtain⟨_,F74⟩:=zaJ (fA hA 73 190 527 _ _ _ rfl rfl rfl)
 obtain⟨_,F75⟩:=zaJ (fA hA 74 192 653 _ _ _ rfl rfl rfl)
 obtain⟨_,F76⟩:=zaJ (fA hA 75 194 665 _ _ _ rfl rfl rfl)
 obtain⟨_,F77⟩:=zaJ (fA hA 76 196 686 _ _ _ rfl rfl rfl)
 obtain⟨_,F78⟩:=zaJ (fA hA 77 198 672 _ _ _ rfl rfl rfl)
 obtain⟨_,F79⟩:=zaJ (fA hA 78 200 679 _ _ _ rfl rfl rfl)
 obtain⟨_,F80⟩:=zaJ (fA hA 79 202 693 _ _ _ rfl rfl rfl)
 obtain⟨_,F81⟩:=zaJ (fA hA 80 204 700 _ _ _ rfl rfl rfl)
 obtain⟨_,_,_,kV,dc,pm,an,cd,ct,Ll82,c82,k82⟩:=(fA hA 81 206 707 _ _ _ rfl rfl rfl)
 have F82:=zpp (st:=zku) Ll82 c82 k82
 refine⟨fnOf "law" "law" (zdf zku) (zb4 zku) (zae zku) .none kV dc pm an cd ct,λs v=>.of_eq rfl,λb8 _ _=>?_⟩
 have G1:=zhF (P:=l.prog) (w:=w) (b8:=b8) B Z F1 (mg_of X G (eA hA 10 rfl))
 have G2:=zhY (P:=l.prog) (w:=w) (b8:=b8) B Z F2 (mg_of X G (eA hA 12 rfl))
 have G3:=zo1 B Z G1 G2 F3 ⟨(bA hA 287 rfl),(eA hA 14 rfl),(bA hA 15 rfl),(bA hA 288 rfl)⟩
 have G4:=zo2 (P:=l.prog) (w:=w) (b8:=b8) B Z F4 (mg_of X G (eA hA 17 rfl))
 have G5:=zo3 B Z G4 F5 (mg_of X G (eA hA 19 rfl))
 have G6:=zqO (P:=l.prog) (w:=w) (b8:=b8) B Z F6 (mg_of X G (eA hA 21 rfl))
 have G7:=znP (P:=l.prog) (w:=w) (b8:=b8) B Z F7 (mg_of X G (eA hA 23 rfl))
 have G8:=znQ B Z G7 F8 (mg_of X G (eA hA 25 rfl))
 have G9:=zhG B Z G3 F9 (mg_of X G (eA hA 27 rfl))
 have G10:=zkd (P:=l.prog) (w:=w) (b8:=b8) B Z F10 (mg_of X G (eA hA 29 rfl))
 have G11:=zmr (P:=l.prog) (w:=w) (b8:=b8) B Z F11 (mg_of X G (eA hA 31 rfl))
 have G12:=zhH B Z G11 F12 (mg_of X G (eA hA 33 rfl))
 have G13:=zi6 B Z G12 F13 (mg_of X G (eA hA 35 rfl))
 have G14:=zhZ B Z G13 F14 (mg_of X G (eA hA 37 rfl))
 have G15:=zi7 B Z G14 F15 (mg_of X G (eA hA 39 rfl))
 have G16:=zi8 B Z G11 F16 (mg_of X G (eA hA 41 rfl))
 have G17:=zfF B Z G16 F17 (mg_of X G (eA hA 43 rfl))
 have G18:=zi9 B Z G11 G17 F18 (mg_of X G (eA hA 45 rfl))
 have G19:=zh0 B Z G12 F19 (mg_of X G (eA hA 47 rfl))
 have G20:=zjb B Z G11 G13 G16 G18 G19 F20 (mg_of X G (eA hA 49 rfl))
 have G21:=zh1 B Z G11 G20 F21 (mg_of X G (eA hA 51 rfl))
 have G22:=zh2 B Z G14 F22 (mg_of X G (eA hA 53 rfl))
 have G23:=zo6 B Z G15 G21 G22 F23 (mg_of X G (eA hA 55 rfl))
 have G24:=znT B Z G1 G11 G6 G8 F24 (mg_of X G (eA hA 57 rfl))
 have G25:=zjd B Z G6 F25 (mg_of X G (eA hA 59 rfl))
 have G26:=zkf B Z G1 F26 (mg_of X G (eA hA 61 rfl))
 have G27:=zje B Z G8 F27 (mg_of X G (eA hA 63 rfl))
 have G28:=zk3 (P:=l.prog) (w:=w) (b8:=b8) B Z F28 (mg_of X G (eA hA 65 rfl))
 have G29:=zhJ B Z G6 G25 G26 G27 G28 G24 F29 (mg_of X G (eA hA 67 rfl))
 have G30:=zh3 B Z G6 G25 G26 G27 F30 (mg_of X G (eA hA 69 rfl))
 have G31:=zh4 B Z G7 G6 G25 G26 G27 G28 F31 (mg_of X G (eA hA 71 rfl))
 have G32:=zh5 B Z G7 G6 G25 G26 G27 G28 F32 (mg_of X G (eA hA 73 rfl))
 have G33:=zh6 B Z G7 G26 G28 F33 (mg_of X G (eA hA 75 rfl))
 have G34:=zh7 B Z G25 G26 G27 G24 G30 G31 G32 G33 F34 (mg_of X G (eA hA 77 rfl))
 have G35:=znW B Z G10 G29 G34 F35 (mg_of X G (eA hA 79 rfl))
 have G36:=zo8 B Z G7 F36 (mg_of X G (eA hA 81 rfl))
 have G37:=zfe (P:=l.prog) (w:=w) (b8:=b8) B Z F37 (mg_of X G (eA hA 83 rfl))
 have G38:=znY B Z G36 G37 F38 (mg_of X G (eA hA 85 rfl))
 have G39:=zqS (P:=l.prog) (w:=w) (b8:=b8) B Z F39 ⟨(bA hA 297 rfl),(eA hA 87 rfl),(bA hA 88 rfl),(bA hA 298 rfl)⟩
 have G40:=zhK (P:=l.prog) (w:=w) (b8:=b8) B Z F40 ⟨(eA hA 90 rfl),(bA hA 91 rfl),F40.kp⟩
 have G41:=zf7 B Z G10 F41 ⟨(eA hA 93 rfl),(bA hA 94 rfl),F41.kp⟩
 have G42:=zd1 B Z G41 G40 F42 ⟨(eA hA 96 rfl),(bA hA 97 rfl),F42.kp⟩
 have G43:=zkg (P:=l.prog) (w:=w) (b8:=b8) B Z F43 (mg_of X G (eA hA 99 rfl))
 have G44:=zk5 B Z G40 G9 G23 G42 G43 F44 ⟨(eA hA 101 rfl),(bA hA 102 rfl),F44.kp⟩
 have G45:=zgw (P:=l.prog) (w:=w) (b8:=b8) B Z F45 ⟨(eA hA 104 rfl),(bA hA 105 rfl),F45.kp⟩
 have G46:=zh8 B Z G9 G45 F46 ⟨(eA hA 107 rfl),(bA hA 108 rfl),F46.kp⟩
 have G47:=zkh B Z G36 F47 (mg_of X G (eA hA 110 rfl))
 have G48:=zfG (P:=l.prog) (w:=w) (b8:=b8) B Z F48 ⟨(eA hA 112 rfl),(bA hA 113 rfl),F48.kp⟩
 have G49:=zf9 B Z G48 G35 F49 ⟨(eA hA 115 rfl),(bA hA 116 rfl),F49.kp⟩
 have G50:=zjg B Z G49 G47 F50 ⟨(eA hA 118 rfl),(bA hA 119 rfl),F50.kp⟩
 have G51:=zki B Z G49 G38 F51 ⟨(eA hA 121 rfl),(bA hA 122 rfl),F51.kp⟩
 have G52:=zkj (P:=l.prog) (w:=w) (b8:=b8) B Z F52 ⟨(eA hA 124 rfl),(bA hA 125 rfl),F52.kp⟩
 have G53:=zjh B Z G41 F53 ⟨(eA hA 127 rfl),(bA hA 128 rfl),F53.kp⟩
 have G54:=zji B Z G52 G53 F54 ⟨(eA hA 130 rfl),(bA hA 131 rfl),F54.kp⟩
 have G55:=zpa (P:=l.prog) (w:=w) (b8:=b8) B Z F55 ⟨(bA hA 305 rfl),(eA hA 133 rfl),(bA hA 134 rfl),(bA hA 306 rfl)⟩
 have G56:=zgx (P:=l.prog) (w:=w) (b8:=b8) B Z F56 ⟨(eA hA 136 rfl),(bA hA 137 rfl),F56.kp⟩
 have G57:=zhL (P:=l.prog) (w:=w) (b8:=b8) B Z F57 ⟨(eA hA 139 rfl),(bA hA 140 rfl),F57.kp⟩
 have G58:=zc2 B Z G57 F58 ⟨(eA hA 142 rfl),(bA hA 143 rfl),F58.kp⟩
 have G59:=zia B Z G5 F59 (mg_of X G (eA hA 145 rfl))
 have G60:=zkk B Z G59 F60 ⟨(eA hA 147 rfl),(bA hA 148 rfl),F60.kp⟩
 have G61:=zk6 B Z G57 F61 ⟨(eA hA 150 rfl),(bA hA 151 rfl),F61.kp⟩
 have G62:=zkl B Z G57 G60 G56 G61 F62 ⟨(eA hA 153 rfl),(bA hA 154 rfl),F62.kp⟩
 have G63:=zgb B Z G57 G60 G56 F63 ⟨(eA hA 156 rfl),(bA hA 157 rfl),F63.kp⟩
 have G64:=zib B Z G58 G62 G63 F64 ⟨(eA hA 159 rfl),(bA hA 160 rfl),F64.kp⟩
 have G65:=zkm B Z G64 G55 F65 ⟨(eA hA 162 rfl),(bA hA 163 rfl),F65.kp⟩
 have G66:=zgy (P:=l.prog) (w:=w) (b8:=b8) B Z F66 (mg_of X G (eA hA 165 rfl))
 have G67:=zsr B Z G59 G65 G66 G46 F67 ⟨(bA hA 315 rfl),(eA hA 167 rfl),(bA hA 168 rfl),(bA hA 316 rfl)⟩
 have G68:=zmu B Z G64 F68 ⟨(eA hA 170 rfl),(bA hA 171 rfl),F68.kp⟩
 have G69:=zk7 B Z G68 F69 ⟨(eA hA 173 rfl),(bA hA 174 rfl),F69.kp⟩
 have G70:=zk8 B Z G60 G56 G64 F70 ⟨(eA hA 176 rfl),(bA hA 177 rfl),F70.kp⟩
 have G71:=zk9 B Z G60 G65 G66 F71 ⟨(eA hA 179 rfl),(bA hA 180 rfl),F71.kp⟩
 have G72:=zla B Z G4 G57 G5 G56 G64 G68 G69 G70 G71 F72 ⟨(eA hA 182 rfl),(bA hA 183 rfl),F72.kp⟩
 have G73:=zn0 B Z G72 F73 ⟨(eA hA 185 rfl),(bA hA 186 rfl),F73.kp⟩
 have G74:=zkn (P:=l.prog) (w:=w) (b8:=b8) B Z F74 ⟨(eA hA 188 rfl),(bA hA 189 rfl),F74.kp⟩
 have G75:=zko (P:=l.prog) (w:=w) (b8:=b8) B Z F75 (mg_of X G (eA hA 191 rfl))
 have G76:=zn1 (P:=l.prog) (w:=w) (b8:=b8) B Z F76 (mg_of X G (eA hA 193 rfl))
 have G77:=zjj B Z G3 G76 F77 (mg_of X G (eA hA 195 rfl))
 have G78:=zmv (P:=l.prog) (w:=w) (b8:=b8) B Z F78 (mg_of X G (eA hA 197 rfl))
 have G79:=zkq B Z G50 G78 F79 (mg_of X G (eA hA 199 rfl))
 have G80:=zjk B Z G3 G78 G44 F80 (mg_of X G (eA hA 201 rfl))
 have G81:=zmw B Z G3 G52 G44 G79 G54 G80 F81 (mg_of X G (eA hA 203 rfl))
 exact zss B Z G52 G50 G44 G79 G54 G39 G67 G75 G77 G51 G81 G73 G74 F82
end My

open PySem PySem.W PyProof.Rows
open My L2
set_option maxRecDepth 1000000 in
set_option maxHeartbeats 0 in
theorem PySem.Challenge.cw_swornhall_k20_held_by_other_rows_holds : PySem.Challenge.rw_swornhall_k20_held_by_other_rows.Holds := by
  refine PySem.Challenge.hd_swornhall_k20_held_by_other_rows fun d kwd hdef => ?_
  obtain ⟨rfl, rfl⟩ := Prod.mk.inj (Option.some.inj ((show defOf My.Qv PySem.Challenge.rw_swornhall_k20_held_by_other_rows.row.name = some (_, _) from rfl).symm.trans hdef))
  refine L2.walk_ofE (l := PySem.Challenge.rw_swornhall_k20_held_by_other_rows) (n := 63) (k := 11) (x := "script") (CX := L2.CX0) (sp := My.Q8b) (S := fun K => ((My.zBoo K).all id, My.zSee K) = (true, My.zSig)) rfl (by decide) rfl ⟨rfl, by decide, by decide, rfl⟩ (fun w h Y => Y) ?F (fun _ _ a ns hl _ hS => ⟨a, ns, rfl, hS, hl, fun _ => rfl⟩) (fun _ _ _ _ z => z)
  intro w K mg fa h hA KX G hmg
  exact My.all_mk KX G hmg hA

